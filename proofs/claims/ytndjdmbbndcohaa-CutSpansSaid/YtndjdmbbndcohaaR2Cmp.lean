/-
  The document's own answer for chapter 2 (linchpinref2): Ints, Texts, one, pres, Compare and Core. Conditions: strings of at most a million bytes.
-/
import Derived.Test.YtndjdmbbndcohaaR2May
import Derived.Test.YtndjdmbbndcohaaVParse
import Derived.Test.YtndjdmbbndcohaaVer3
import Derived.WalkLawsBesides
import Derived.Outline
namespace Go.Proofs.Ytndjdmbbndcohaa
open Go.RowKit

theorem below_drew2 {B : Nat} {a w : World} (h : Below B a w) : Below B a w.drew := ⟨h.os, h.tape, h.output, h.size, h.block⟩
theorem rints_any (a b : Int) (w : World) :
    Calls Try.prog 28 #[.int .i64 a, .int .i64 b] w fun e w' => e = .returned (.int .i64 (Lib.compareInt a b)) ∧ w = w' := by
  by_cases h1 : a < b
  · have HV : Hid (Lib.compareInt a b = -1) := by show _ = _; unfold Lib.compareInt; rw [if_pos h1]
    go_enter Try.func28, Try.ntmps28
    go_wp2
    go_ret
    exact ⟨ret_int HV.out.symm, rfl⟩
  · by_cases h2 : b < a
    · have HV : Hid (Lib.compareInt a b = 1) := by show _ = _; unfold Lib.compareInt; rw [if_neg h1, if_pos h2]
      go_enter Try.func28, Try.ntmps28
      go_wp2
      go_ret
      exact ⟨ret_int HV.out.symm, rfl⟩
    · have HV : Hid (Lib.compareInt a b = 0) := by show _ = _; unfold Lib.compareInt; rw [if_neg h1, if_neg h2]
      go_enter Try.func28, Try.ntmps28
      go_wp2
      go_ret
      exact ⟨ret_int HV.out.symm, rfl⟩

theorem less_cmp (a : List UInt8) : ∀ b, Op.bytesLess a b = decide (Lib.compareBytes a b = -1) := by
  induction a with
  | nil => intro b; cases b <;> simp [Op.bytesLess, Lib.compareBytes]
  | cons x l ih =>
    intro b
    cases b with
    | nil => simp [Op.bytesLess, Lib.compareBytes]
    | cons y m =>
      rw [Op.bytesLess, Lib.compareBytes, ih]
      by_cases h1 : x < y
      · simp [h1]
      · by_cases h2 : y < x
        · simp [h1, h2]
          intro e; subst e; exact absurd h2 h1
        · have e : x = y := UInt8.le_antisymm (UInt8.not_lt.1 h2) (UInt8.not_lt.1 h1)
          simp [e]
theorem cmpB_zero (a : List UInt8) : ∀ b, Lib.compareBytes a b = 0 ↔ a = b := by
  induction a with
  | nil => intro b; cases b <;> simp [Lib.compareBytes]
  | cons x l ih =>
    intro b
    cases b with
    | nil => simp [Lib.compareBytes]
    | cons y m =>
      rw [Lib.compareBytes]
      by_cases h1 : x < y
      · simp [h1]; intro e; subst e; exact absurd h1 (UInt8.lt_irrefl _)
      · by_cases h2 : y < x
        · simp [h1, h2]; intro e; subst e; exact absurd h2 (UInt8.lt_irrefl _)
        · have e : x = y := UInt8.le_antisymm (UInt8.not_lt.1 h2) (UInt8.not_lt.1 h1)
          simp [e, ih]
theorem cmpB_range (a : List UInt8) : ∀ b, Lib.compareBytes a b = -1 ∨ Lib.compareBytes a b = 0 ∨ Lib.compareBytes a b = 1 := by
  induction a with
  | nil => intro b; cases b <;> simp [Lib.compareBytes]
  | cons x l ih =>
    intro b
    cases b with
    | nil => simp [Lib.compareBytes]
    | cons y m =>
      rw [Lib.compareBytes]
      split
      · simp
      · split
        · simp
        · exact ih m
theorem rtexts_any (a b : List UInt8) (w : World) :
    Calls Try.prog 60 #[.string (mkS a), .string (mkS b)] w fun e w' => e = .returned (.int .i64 (Lib.compareBytes a b)) ∧ w = w' := by
  have hl := less_cmp a b
  have ha : (mkS a).toList = a := by rw [Lib.toList_data, mk_data]
  have hb : (mkS b).toList = b := by rw [Lib.toList_data, mk_data]
  have he : (a == b) = decide (Lib.compareBytes a b = 0) := by
    rw [Bool.eq_iff_iff]; simp [cmpB_zero]
  have hr := cmpB_range a b
  obtain ⟨x, hx⟩ : ∃ x, Lib.compareBytes a b = x := ⟨_, rfl⟩
  rw [hx] at hl he hr ⊢
  have hl2 : Op.bytesLess (mkS a).toList (mkS b).toList = decide (x = -1) := by rw [ha, hb]; exact hl
  have he2 : ((mkS a).toList == (mkS b).toList) = decide (x = 0) := by rw [ha, hb]; exact he
  clear ha hb hl he hx
  rcases hr with rfl | rfl | rfl
  · have a1 : Op.bytesLess (mkS a).toList (mkS b).toList = true := hl2
    have a2 : ((mkS a).toList == (mkS b).toList) = false := he2
    clear hl2 he2
    go_enter Try.func60, Try.ntmps60
    go_wp2
    go_ret
    exact ⟨rfl, rfl⟩
  · have a1 : Op.bytesLess (mkS a).toList (mkS b).toList = false := hl2
    have a2 : ((mkS a).toList == (mkS b).toList) = true := he2
    clear hl2 he2
    go_enter Try.func60, Try.ntmps60
    go_wp2
    go_ret
    exact ⟨rfl, rfl⟩
  · have a1 : Op.bytesLess (mkS a).toList (mkS b).toList = false := hl2
    have a2 : ((mkS a).toList == (mkS b).toList) = false := he2
    clear hl2 he2
    go_enter Try.func60, Try.ntmps60
    go_wp2
    go_ret
    exact ⟨rfl, rfl⟩

set_option maxHeartbeats 2000000 in
theorem rone_any (a b : List UInt8) (w : World) (ha : a.length ≤ 1000000) (hb : b.length ≤ 1000000) :
    Calls Try.prog 55 #[.string (mkS a), .string (mkS b)] w fun e w' => e = .returned (.int .i64 (oneR a b)) ∧ w = w' := by
  have la : a.length ≤ maxLen := by unfold maxLen; omega
  have lb : b.length ≤ maxLen := by unfold maxLen; omega
  have HO : Hid (oneR a b = if numer a && numer b then Lib.compareInt (numD a) (numD b) else if numer a then -1 else if numer b then 1 else Lib.compareBytes a b) := rfl
  obtain ⟨o, ho⟩ : ∃ o, oneR a b = o := ⟨_, rfl⟩
  rw [ho] at HO ⊢
  clear ho
  have nA := fun w' => rnumeric_mk a w' la
  have nB := fun w' => rnumeric_mk b w' lb
  have vA := fun w' => rnumber_mk a w' la
  have vB := fun w' => rnumber_mk b w' lb
  have cI := fun w' => rints_any (numD a) (numD b) w'
  have cT := fun w' => rtexts_any a b w'
  obtain ⟨g1, d1⟩ : ∃ g, numer a = g := ⟨_, rfl⟩
  obtain ⟨g2, d2⟩ : ∃ g, numer b = g := ⟨_, rfl⟩
  obtain ⟨x, dx⟩ : ∃ g, Lib.compareInt (numD a) (numD b) = g := ⟨_, rfl⟩
  obtain ⟨y, dy⟩ : ∃ g, Lib.compareBytes a b = g := ⟨_, rfl⟩
  rw [dx] at HO cI
  rw [dy] at HO cT
  rw [d1] at nA HO
  rw [d2] at nB HO
  obtain ⟨na, ea⟩ : ∃ n, numD a = n := ⟨_, rfl⟩
  obtain ⟨nb, eb⟩ : ∃ n, numD b = n := ⟨_, rfl⟩
  rw [ea] at vA cI
  rw [eb] at vB cI
  clear dx dy d1 d2 ea eb
  cases g1 <;> cases g2
  all_goals
    go_enter Try.func55, Try.ntmps55
    go_wp2_with fail
    refine (nA _).mono ?_
    rintro e w1 ⟨rfl, rfl⟩
    go_wp2_with fail
    refine (nB _).mono ?_
    rintro e w1 ⟨rfl, rfl⟩
    go_wp2_with (first
      | (go_at_call 60; refine (cT _).mono ?_; rintro e w1 ⟨rfl, rfl⟩)
      | (go_at_call 53; with_reducible refine (vA _).mono ?_; rintro e w1 ⟨rfl, rfl⟩)
      | (go_at_call 53; with_reducible refine (vB _).mono ?_; rintro e w1 ⟨rfl, rfl⟩)
      | (go_at_call 28; refine (cI _).mono ?_; rintro e w1 ⟨rfl, rfl⟩))
    go_ret
    exact ⟨ret_int (by rw [HO.out]; simp), rfl⟩

theorem presL_end (l m : List (List UInt8)) (k : Nat) (hl : k ≤ l.length) (hm : k ≤ m.length) (h : ¬ (k < l.length ∧ k < m.length)) : presL (l.drop k) (m.drop k) = Lib.compareInt l.length m.length := by
  unfold Lib.compareInt
  by_cases h1 : k < l.length
  · have h2 : ¬ k < m.length := fun h2 => h ⟨h1, h2⟩
    rw [List.drop_eq_nil_of_le (by omega : m.length ≤ k), List.drop_eq_getElem_cons h1, presL, if_neg (by omega), if_pos (by omega)]
  · by_cases h2 : k < m.length
    · rw [List.drop_eq_nil_of_le (by omega : l.length ≤ k), List.drop_eq_getElem_cons h2, presL, if_pos (by omega)]
    · rw [List.drop_eq_nil_of_le (by omega : m.length ≤ k), List.drop_eq_nil_of_le (by omega : l.length ≤ k), presL, if_neg (by omega), if_neg (by omega)]
theorem presL_on (l m : List (List UInt8)) (k : Nat) (h1 : k < l.length) (h2 : k < m.length) (h : oneR l[k] m[k] = 0) : presL (l.drop k) (m.drop k) = presL (l.drop (k + 1)) (m.drop (k + 1)) := by
  rw [List.drop_eq_getElem_cons h1, List.drop_eq_getElem_cons h2, presL, if_neg (by simpa using h)]
theorem presL_off (l m : List (List UInt8)) (k : Nat) (h1 : k < l.length) (h2 : k < m.length) (h : ¬ oneR l[k] m[k] = 0) : presL (l.drop k) (m.drop k) = oneR l[k] m[k] := by
  rw [List.drop_eq_getElem_cons h1, List.drop_eq_getElem_cons h2, presL, if_pos h]
theorem own_cells {w : World} {base : Nat} {v : Value} {l : List (List UInt8)} (h : w.ownsRow base 9 1 v l.length (strV l)) (hl : 0 < l.length) :
    ∃ g cap, v = .slice (some ⟨g, 0, none⟩) l.length cap ∧ g < w.heap.size ∧ ∀ j (hj : j < l.length), w.cell? ⟨g, j, none⟩ = some (.string (mkS l[j])) := by
  rcases h.2 with ⟨_, h0⟩ | ⟨g, cap, cur, hv, hg, hh, hn, _⟩
  · omega
  · refine ⟨g, cap, hv, (Array.getElem?_eq_some_iff.1 hh).1, fun j hj => ?_⟩
    have h := h.cells (g := g) (by rw [hv]; rfl) j (.string (mkS l[j])) (by unfold strV; rw [List.getElem?_map, List.getElem?_eq_getElem hj]; rfl)
    have ha : (⟨g, 0, none⟩ : Addr).add j = ⟨g, j, none⟩ := by unfold Addr.add; split <;> simp_all
    rwa [ha] at h
theorem pcs_pos (s : List UInt8) : 0 < (pcs s).length := by
  have := splitL_ne 46 s []
  cases h : pcs s with
  | nil => exact absurd h this
  | cons _ _ => simp

set_option maxHeartbeats 4000000 in
set_option maxRecDepth 100000 in
theorem rpres_go (a b : List UInt8) (w : World) (ha : a.length ≤ 1000000) (hb : b.length ≤ 1000000) (n0 : a ≠ b) (na : a ≠ []) (nb : b ≠ []) :
    Calls Try.prog 40 #[.string (mkS a), .string (mkS b)] w fun e w' => e = .returned (.int .i64 (presL (pcs a) (pcs b))) ∧ Below w.heap.size w w' := by
  have e0 : ((mkS a).toList == (mkS b).toList) = false := by rw [Lib.toList_data, Lib.toList_data, mk_data, mk_data]; simpa using n0
  have ea : (mkS a).toList.isEmpty = false := by rw [Lib.toList_data, mk_data]; exact List.isEmpty_eq_false_iff.2 na
  have eb : (mkS b).toList.isEmpty = false := by rw [Lib.toList_data, mk_data]; exact List.isEmpty_eq_false_iff.2 nb
  have cA := fun w' => rsplit_mk a w' ha
  have cB := fun w' => rsplit_mk b w' hb
  have HA := Lib.hid (pcs_mem_len a)
  have HB := Lib.hid (pcs_mem_len b)
  have pa := pcs_pos a
  have pb := pcs_pos b
  have la := pcs_len a
  have lb := pcs_len b
  obtain ⟨l, hl⟩ : ∃ l, pcs a = l := ⟨_, rfl⟩
  obtain ⟨m, hm⟩ : ∃ l, pcs b = l := ⟨_, rfl⟩
  rw [hl] at cA HA pa la ⊢
  rw [hm] at cB HB pb lb ⊢
  clear n0 na nb hl hm
  go_enter Try.func40, Try.ntmps40
  go_wp2_with fail
  refine (cA _).mono ?_
  rintro e w1 ⟨v, rfl, hown1, hb1⟩
  obtain ⟨g1, cap1, rfl, hg1, hc1⟩ := own_cells hown1 pa
  go_wp2_with fail
  refine (cB _).mono ?_
  rintro e w2 ⟨v, rfl, hown2, hb2⟩
  obtain ⟨g2, cap2, rfl, hg2, hc2⟩ := own_cells hown2 pb
  have HC1 : Hid (∀ j (hj : j < l.length), w2.cell? ⟨g1, j, none⟩ = some (.string (mkS l[j]))) := fun j hj => (hb2.cell (p := ⟨g1, j, none⟩) hg1).trans (hc1 j hj)
  have HC2 := Lib.hid hc2
  have hg12 : g1 < w2.heap.size := Nat.lt_of_lt_of_le hg1 hb2.size
  have hbw : Below w.heap.size w w2 := hb1.trans (hb2.mono hb1.size)
  clear hc1 hc2 hown1 hown2 hb1 hb2 cA cB
  go_wp2
  go_loopw [7] (fun x wr => ∃ k : Nat, k ≤ l.length ∧ k ≤ m.length ∧ x = .int .i64 k ∧ Below w2.heap.size w2 wr ∧ Hid (presL (l.drop k) (m.drop k) = presL l m)) (fun x _ => l.length - (intOf x).toNat)
  case atStart => exact ⟨0, by omega, by omega, rfl, Below.refl _ _, rfl⟩
  case round =>
    obtain ⟨k, hk1, hk2, rfl, hbel, HR⟩ := hrel
    by_cases h1 : k < l.length
    · by_cases h2 : k < m.length
      · have i1 : (k : Int) < l.length := by omega
        have i2 : (k : Int) < m.length := by omega
        have q1 := (hbel.cell (p := ⟨g1, k, none⟩) hg12).trans (HC1.out k h1)
        have q2 := (hbel.cell (p := ⟨g2, k, none⟩) hg2).trans (HC2.out k h2)
        have t1 := Nat.le_trans (HA.out l[k] (List.getElem_mem h1)) ha
        have t2 := Nat.le_trans (HB.out m[k] (List.getElem_mem h2)) hb
        have cO := fun w' => rone_any l[k] m[k] w' t1 t2
        obtain ⟨o, ho⟩ : ∃ o, oneR l[k] m[k] = o := ⟨_, rfl⟩
        rw [ho] at cO
        by_cases h0 : o = 0
        · have HQ : Hid (presL (l.drop (k + 1)) (m.drop (k + 1)) = presL l m) := by show _ = _; rw [← HR.out, presL_on l m k h1 h2 (ho.trans h0)]
          subst h0
          clear ho
          go_wp2_with fail
          go_region_with (go_at_call 55; refine (cO _).mono ?_; rintro e w4 ⟨rfl, rfl⟩)
          all_goals
            go_wp2
            go_roundw
            case rel => exact ⟨k + 1, by omega, by omega, by go_num, below_drew2 hbel, HQ.out⟩
            case measure => simp [intOf]; omega
        · have HQ : Hid (o = presL l m) := by show _ = _; rw [← HR.out, presL_off l m k h1 h2 (by rw [ho]; exact h0), ho]
          have h0b : (o != 0) = true := by simpa using h0
          clear ho
          go_wp2_with fail
          go_region_with (go_at_call 55; refine (cO _).mono ?_; rintro e w4 ⟨rfl, rfl⟩)
          all_goals
            go_wp2
            go_ret
            exact ⟨ret_int HQ.out, hbw.trans ((below_drew2 hbel).mono hbw.size)⟩
      · have i1 : (k : Int) < l.length := by omega
        have i2 : ¬ (k : Int) < m.length := by omega
        have HQ : Hid (Lib.compareInt l.length m.length = presL l m) := by show _ = _; rw [← HR.out, presL_end l m k hk1 hk2 (fun h => h2 h.2)]
        go_wp2_with (go_at_call 28; refine (rints_any _ _ _).mono ?_; rintro e w4 ⟨rfl, rfl⟩)
        go_ret
        exact ⟨ret_int HQ.out, hbw.trans (hbel.mono hbw.size)⟩
    · have i1 : ¬ (k : Int) < l.length := by omega
      have HQ : Hid (Lib.compareInt l.length m.length = presL l m) := by show _ = _; rw [← HR.out, presL_end l m k hk1 hk2 (fun h => h1 h.1)]
      go_wp2_with (go_at_call 28; refine (rints_any _ _ _).mono ?_; rintro e w4 ⟨rfl, rfl⟩)
      go_ret
      exact ⟨ret_int HQ.out, hbw.trans (hbel.mono hbw.size)⟩

theorem rpres_any (a b : List UInt8) (w : World) (ha : a.length ≤ 1000000) (hb : b.length ≤ 1000000) :
    Calls Try.prog 40 #[.string (mkS a), .string (mkS b)] w fun e w' => e = .returned (.int .i64 (presR a b)) ∧ Below w.heap.size w w' := by
  by_cases h0 : a = b
  · have e0 : ((mkS a).toList == (mkS b).toList) = true := by rw [h0]; simp
    have HC : Hid (presR a b = 0) := by show _ = _; unfold presR; rw [if_pos h0]
    clear h0
    go_enter Try.func40, Try.ntmps40
    go_wp2
    go_ret
    exact ⟨ret_int HC.out.symm, Below.refl _ _⟩
  · have e0 : ((mkS a).toList == (mkS b).toList) = false := by rw [Lib.toList_data, Lib.toList_data, mk_data, mk_data]; simpa using h0
    by_cases h1 : a = []
    · have ea : (mkS a).toList.isEmpty = true := by rw [Lib.toList_data, mk_data, h1]; rfl
      have HC : Hid (presR a b = 1) := by show _ = _; unfold presR; rw [if_neg h0, if_pos h1]
      clear h0 h1
      go_enter Try.func40, Try.ntmps40
      go_wp2
      go_ret
      exact ⟨ret_int HC.out.symm, Below.refl _ _⟩
    · have ea : (mkS a).toList.isEmpty = false := by rw [Lib.toList_data, mk_data]; exact List.isEmpty_eq_false_iff.2 h1
      by_cases h2 : b = []
      · have eb : (mkS b).toList.isEmpty = true := by rw [Lib.toList_data, mk_data, h2]; rfl
        have HC : Hid (presR a b = -1) := by show _ = _; unfold presR; rw [if_neg h0, if_neg h1, if_pos h2]
        clear h0 h1 h2
        go_enter Try.func40, Try.ntmps40
        go_wp2
        go_ret
        exact ⟨ret_int HC.out.symm, Below.refl _ _⟩
      · have hc : presR a b = presL (pcs a) (pcs b) := by unfold presR; rw [if_neg h0, if_neg h1, if_neg h2]
        rw [hc]
        exact rpres_go a b w ha hb h0 h1 h2

theorem cmpR_split (v u : Ver) : cmpR v u = if v.may && u.may then (if Lib.compareInt v.maj u.maj ≠ 0 then Lib.compareInt v.maj u.maj else if Lib.compareInt v.min u.min ≠ 0 then Lib.compareInt v.min u.min else if Lib.compareInt v.pat u.pat ≠ 0 then Lib.compareInt v.pat u.pat else presR v.pre u.pre) else 0 := by
  unfold cmpR cmpN
  by_cases h : (v.may && u.may) = true
  · rw [if_pos h, if_pos h]
    by_cases h1 : Lib.compareInt v.maj u.maj = 0
    · by_cases h2 : Lib.compareInt v.min u.min = 0
      · simp [h1, h2]
      · simp [h1, h2]
    · simp [h1]
  · rw [if_neg h, if_neg h]

set_option maxHeartbeats 8000000 in
set_option maxRecDepth 100000 in
theorem rcompare_any (v u : Ver) (w : World) (h1 : v.pre.length ≤ 1000000) (h2 : v.build.length ≤ 1000000) (h3 : u.pre.length ≤ 1000000) (h4 : u.build.length ≤ 1000000) :
    Calls Try.prog 29 #[verV v, verV u] w fun e w' => e = .returned (.int .i64 (cmpR v u)) ∧ Below w.heap.size w w' := by
  have HC := Lib.hid (cmpR_split v u)
  have cM := fun w' => rmay_any v w' h1 h2
  have cN := fun w' => rmay_any u w' h3 h4
  have i1 := fun w' => rints_any v.maj u.maj w'
  have i2 := fun w' => rints_any v.min u.min w'
  have i3 := fun w' => rints_any v.pat u.pat w'
  have cP := fun w' => rpres_any v.pre u.pre w' h1 h3
  obtain ⟨r, hr⟩ : ∃ r, cmpR v u = r := ⟨_, rfl⟩
  obtain ⟨m, hm⟩ : ∃ r, v.may = r := ⟨_, rfl⟩
  obtain ⟨n, hn⟩ : ∃ r, u.may = r := ⟨_, rfl⟩
  obtain ⟨o1, ho1⟩ : ∃ r, Lib.compareInt v.maj u.maj = r := ⟨_, rfl⟩
  obtain ⟨o2, ho2⟩ : ∃ r, Lib.compareInt v.min u.min = r := ⟨_, rfl⟩
  obtain ⟨o3, ho3⟩ : ∃ r, Lib.compareInt v.pat u.pat = r := ⟨_, rfl⟩
  obtain ⟨o4, ho4⟩ : ∃ r, presR v.pre u.pre = r := ⟨_, rfl⟩
  rw [hr, hm, hn, ho1, ho2, ho3, ho4] at HC
  rw [hr]
  rw [hm] at cM
  rw [hn] at cN
  rw [ho1] at i1
  rw [ho2] at i2
  rw [ho3] at i3
  rw [ho4] at cP
  clear hr hm hn ho1 ho2 ho3 ho4
  obtain ⟨a1, a2, a3, p, q⟩ := v
  obtain ⟨b1, b2, b3, p', q'⟩ := u
  unfold verV at cM cN ⊢
  dsimp only at cM cN i1 i2 i3 cP ⊢
  cases m with
  | false =>
    go_enter Try.func29, Try.ntmps29
    go_wp2_with (go_at_call 26; with_reducible refine (cM _).mono ?_; rintro e w1 ⟨rfl, hb1⟩)
    go_ret
    exact ⟨ret_int (by rw [HC.out]; simp), (((Below.refl _ _).alloc (Nat.le_refl _) _).alloc (by simp) _).trans (hb1.mono (by simp; omega))⟩
  | true =>
    go_enter Try.func29, Try.ntmps29
    go_wp2_with fail
    refine (cM _).mono ?_
    rintro e w1 ⟨rfl, hb1⟩
    have hz1 := hb1.size
    simp only [size_box] at hz1
    have hgA := Lib.hid ((hb1.block w.heap.size (by simp only [size_box]; omega)).trans ((heap_old _ _ (by simp only [size_box]; omega)).trans (heap_new w _)))
    have hgB := Lib.hid ((hb1.block (w.heap.size + 1) (by simp only [size_box]; omega)).trans (heap_at _ _ _ (by simp only [size_box])))
    have hbw : Below w.heap.size w w1 := (((Below.refl _ _).alloc (Nat.le_refl _) _).alloc (by simp only [size_box]; omega) _).trans (hb1.mono (by simp only [size_box]; omega))
    clear hb1 cM
    obtain ⟨y0, _⟩ := cell_row (j := 0) hgB.out (by simp)
    obtain ⟨y1, _⟩ := cell_row (j := 1) hgB.out (by simp)
    obtain ⟨y2, _⟩ := cell_row (j := 2) hgB.out (by simp)
    obtain ⟨y3, _⟩ := cell_row (j := 3) hgB.out (by simp)
    obtain ⟨y4, _⟩ := cell_row (j := 4) hgB.out (by simp)
    simp only [List.getElem_toArray, List.getElem_cons_succ, List.getElem_cons_zero] at y0 y1 y2 y3 y4
    go_wp2_with fail
    refine (cN _).mono ?_
    rintro e w2 ⟨rfl, hb2⟩
    have hbw2 : Below w.heap.size w w2 := hbw.trans (hb2.mono hbw.size)
    cases n with
    | false =>
      go_wp2
      go_ret
      exact ⟨ret_int (by rw [HC.out]; simp), hbw2⟩
    | true =>
      have hA := (hb2.block w.heap.size (by omega)).trans hgA.out
      have hB := (hb2.block (w.heap.size + 1) (by omega)).trans hgB.out
      obtain ⟨k0, _⟩ := cell_row (j := 0) hA (by simp)
      obtain ⟨k1, _⟩ := cell_row (j := 1) hA (by simp)
      obtain ⟨k2, _⟩ := cell_row (j := 2) hA (by simp)
      obtain ⟨k3, _⟩ := cell_row (j := 3) hA (by simp)
      obtain ⟨m0, _⟩ := cell_row (j := 0) hB (by simp)
      obtain ⟨m1, _⟩ := cell_row (j := 1) hB (by simp)
      obtain ⟨m2, _⟩ := cell_row (j := 2) hB (by simp)
      obtain ⟨m3, _⟩ := cell_row (j := 3) hB (by simp)
      simp only [List.getElem_toArray, List.getElem_cons_succ, List.getElem_cons_zero] at k0 k1 k2 k3 m0 m1 m2 m3
      clear hA hB hb2 cN
      by_cases z1 : o1 = 0
      · by_cases z2 : o2 = 0
        · by_cases z3 : o3 = 0
          · subst z1 z2 z3
            go_wp2_with fail
            refine (i1 _).mono ?_
            rintro e w3 ⟨rfl, rfl⟩
            go_wp2_with fail
            refine (i2 _).mono ?_
            rintro e w3 ⟨rfl, rfl⟩
            go_wp2_with fail
            refine (i3 _).mono ?_
            rintro e w3 ⟨rfl, rfl⟩
            go_wp2_with fail
            refine (cP _).mono ?_
            rintro e w3 ⟨rfl, hb3⟩
            go_wp2
            go_ret
            exact ⟨ret_int (by rw [HC.out]; simp), hbw2.trans (hb3.mono hbw2.size)⟩
          · have z3b : (o3 != 0) = true := by simpa using z3
            have Z3 := Lib.hid z3
            subst z1 z2
            clear z3
            go_wp2_with fail
            refine (i1 _).mono ?_
            rintro e w3 ⟨rfl, rfl⟩
            go_wp2_with fail
            refine (i2 _).mono ?_
            rintro e w3 ⟨rfl, rfl⟩
            go_wp2_with fail
            refine (i3 _).mono ?_
            rintro e w3 ⟨rfl, rfl⟩
            go_wp2
            go_ret
            exact ⟨ret_int (by rw [HC.out]; simp [Z3.out]), hbw2⟩
        · have z2b : (o2 != 0) = true := by simpa using z2
          have Z2 := Lib.hid z2
          subst z1
          clear z2
          go_wp2_with fail
          refine (i1 _).mono ?_
          rintro e w3 ⟨rfl, rfl⟩
          go_wp2_with fail
          refine (i2 _).mono ?_
          rintro e w3 ⟨rfl, rfl⟩
          go_wp2
          go_ret
          exact ⟨ret_int (by rw [HC.out]; simp [Z2.out]), hbw2⟩
      · have z1b : (o1 != 0) = true := by simpa using z1
        have Z1 := Lib.hid z1
        clear z1
        go_wp2_with fail
        refine (i1 _).mono ?_
        rintro e w3 ⟨rfl, rfl⟩
        go_wp2
        go_ret
        exact ⟨ret_int (by rw [HC.out]; simp [Z1.out]), hbw2⟩

end Go.Proofs.Ytndjdmbbndcohaa
