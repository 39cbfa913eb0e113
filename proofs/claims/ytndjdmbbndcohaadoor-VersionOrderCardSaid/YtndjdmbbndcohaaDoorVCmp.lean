/-
  Package version: compareTag, comparePre and Compare: what they return; nothing that was there is changed. Conditions: strings of at most a million bytes.
-/
import Derived.Test.YtndjdmbbndcohaaDoorVParse
import Derived.Test.YtndjdmbbndcohaaDoorVer3
namespace Go.Proofs.YtndjdmbbndcohaaDoor
open Go.RowKit

theorem ret_i64 {a b : Int} (h : a = b) : Ending.returned (.int .i64 a) = .returned (.int .i64 b) := by rw [h]
theorem below_drew {B : Nat} {a w : World} (h : Below B a w) : Below B a w.drew := ⟨h.os, h.tape, h.output, h.size, h.block⟩
theorem empty_mk (b : List UInt8) : (mkS b).toList.isEmpty = b.isEmpty := by rw [Lib.toList_data, mk_data]

set_option maxHeartbeats 2000000 in
theorem compareTag_any (a b : List UInt8) (w : World) (ha : a.length ≤ 1000000) (hb : b.length ≤ 1000000) :
    Calls Tryd.prog 25 #[.string (mkS a), .string (mkS b)] w fun e w' => e = .returned (.int .i64 (oneP a b)) ∧ Below w.heap.size w w' := by
  have la : a.length ≤ maxLen := by unfold maxLen; omega
  have lb : b.length ≤ maxLen := by unfold maxLen; omega
  have HO : Hid (oneP a b = if numI a && numI b then Lib.compareInt (numD a) (numD b) else if numI a && !b.isEmpty then -1 else if numI b && !a.isEmpty then 1 else Lib.compareBytes a b) := rfl
  have ea := empty_mk a
  have eb := empty_mk b
  obtain ⟨na, hna⟩ : ∃ n, numD a = n := ⟨_, rfl⟩
  obtain ⟨nb, hnb⟩ : ∃ n, numD b = n := ⟨_, rfl⟩
  have cC := fun w' => Tryd.strings_Compare (mkS a) (mkS b) w'
  rw [mk_data, mk_data] at cC
  obtain ⟨x, hx⟩ : ∃ n, Lib.compareBytes a b = n := ⟨_, rfl⟩
  have cI := fun w' => Tryd.cmp_Compare_int na nb w'
  obtain ⟨y, hy⟩ : ∃ n, Lib.compareInt na nb = n := ⟨_, rfl⟩
  rw [hx] at cC HO
  rw [hna, hnb, hy] at HO
  rw [hy] at cI
  clear hx hy
  cases hi : numI a <;> cases hj : numI b <;> cases ga : a.isEmpty <;> cases gb : b.isEmpty
  all_goals
    rw [hi, hj, ga, gb] at HO
    have cA := fun w' => number_mk a _ hi w' la
    have cB := fun w' => number_mk b _ hj w' lb
    rw [hna] at cA
    rw [hnb] at cB
    rw [ga] at ea
    rw [gb] at eb
    clear hi hj ga gb
    go_enter Tryd.func25, Tryd.ntmps25
    go_wp2_with fail
    refine (cA _).mono ?_
    rintro e w1 ⟨rfl, hb1⟩
    go_wp2_with fail
    refine (cB _).mono ?_
    rintro e w2 ⟨rfl, hb2⟩
    have hbw : Below w.heap.size w w2 := hb1.trans (hb2.mono hb1.size)
    go_wp2_with (first
      | (go_at_call 12; refine (cI _).mono ?_; rintro e w3 ⟨rfl, rfl⟩)
      | (go_at_call 36; refine (cC _).mono ?_; rintro e w3 ⟨rfl, rfl⟩))
    go_ret
    exact ⟨ret_i64 (by rw [HO.out]; simp), hbw⟩

theorem lcell_get (l : List (List UInt8)) (k : Nat) (hk : k < 4) : (lcells l)[k]? = some (.string (mkS (tg l k))) := by
  match k, hk with
  | 0, _ => rfl
  | 1, _ => rfl
  | 2, _ => rfl
  | 3, _ => rfl
theorem tag_cell {w : World} {B : Nat} {l : List (List UInt8)} {T : TypeId} (h : w.heap[B]? = some (.cells (lcells l) T)) (k : Nat) (hk : k < 4) : w.cell? ⟨B, k, none⟩ = some (.string (mkS (tg l k))) := by
  rw [cell_of_row w B k _ _ _ h]; exact lcell_get l k hk
theorem seqP_on (n : Nat) (l m : List (List UInt8)) (h : oneP (tg l 0) (tg m 0) = 0) : seqP (n + 1) l m = seqP n l.tail m.tail := by
  rw [seqP, if_neg (by simpa using h)]
theorem seqP_off (n : Nat) (l m : List (List UInt8)) (h : ¬ oneP (tg l 0) (tg m 0) = 0) : seqP (n + 1) l m = oneP (tg l 0) (tg m 0) := by
  rw [seqP, if_pos h]
theorem tg_drop (l : List (List UInt8)) (k : Nat) : tg (l.drop k) 0 = tg l k := by unfold tg; simp

set_option maxHeartbeats 2000000 in
theorem cfunc_any (bx by_ : Nat) (l m : List (List UInt8)) (w : World) (hx : w.heap[bx]? = some (.cells (lcells l) 49)) (hy : w.heap[by_]? = some (.cells (lcells m) 49)) (hl : ∀ i, (tg l i).length ≤ 8) (hm : ∀ i, (tg m i).length ≤ 8) :
    Calls Tryd.prog 24 #[.slice (some ⟨bx, 0, none⟩) 4 4, .slice (some ⟨by_, 0, none⟩) 4 4, .func (.func 25) #[] #[]] w fun e w' => e = .returned (.int .i64 (seqP 4 l m)) ∧ Below w.heap.size w w' := by
  have hbx := (Array.getElem?_eq_some_iff.1 hx).1
  have hby := (Array.getElem?_eq_some_iff.1 hy).1
  have HX := Lib.hid hx
  have HY := Lib.hid hy
  have HL := Lib.hid hl
  have HM := Lib.hid hm
  clear hx hy hl hm
  go_enter Tryd.func24, Tryd.ntmps24
  go_wp2
  go_loopw [13] (fun v wr => ∃ k : Nat, k ≤ 4 ∧ v = .int .i64 k ∧ Below w.heap.size w wr ∧ Hid (seqP (4 - k) (l.drop k) (m.drop k) = seqP 4 l m)) (fun v _ => 4 - (intOf v).toNat)
  case atStart => exact ⟨0, by omega, rfl, Below.refl _ _, rfl⟩
  case round =>
    obtain ⟨k, hk, rfl, hbel, HR⟩ := hrel
    by_cases hk4 : k < 4
    · have hki : (k : Int) < 4 := by omega
      have hkn : ¬ (4 : Int) ≤ k := by omega
      have cx := tag_cell ((hbel.block bx hbx).trans HX.out) k hk4
      have cy := tag_cell ((hbel.block by_ hby).trans HY.out) k hk4
      have lx := HL.out k
      have ly := HM.out k
      obtain ⟨n, hn⟩ : ∃ n, 4 - k = n + 1 := ⟨3 - k, by omega⟩
      have cT := fun w' => compareTag_any (tg l k) (tg m k) w' (by omega) (by omega)
      obtain ⟨o, ho⟩ : ∃ o, oneP (tg l k) (tg m k) = o := ⟨_, rfl⟩
      rw [ho] at cT
      by_cases h0 : o = 0
      · have hq : seqP n (l.drop (k + 1)) (m.drop (k + 1)) = seqP 4 l m := by
          rw [← HR.out, hn, seqP_on _ _ _ (by rw [tg_drop, tg_drop, ho, h0])]; simp [List.tail_drop]
        have HQ := Lib.hid hq
        have HN := Lib.hid hn
        subst h0
        clear hq hn ho
        go_wp2_with fail
        refine (cT _).mono ?_
        rintro e w1 ⟨rfl, hb1⟩
        go_wp2
        go_roundw
        case rel => exact ⟨k + 1, by omega, by go_num, hbel.trans (hb1.mono hbel.size), by have := HN.out; rw [show 4 - (k + 1) = n from by omega]; exact HQ.out⟩
        case measure => simp [intOf]; omega
      · have hq : o = seqP 4 l m := by
          rw [← HR.out, hn, seqP_off _ _ _ (by rw [tg_drop, tg_drop, ho]; exact h0), tg_drop, tg_drop, ho]
        have HQ := Lib.hid hq
        have h0b : (o != 0) = true := by simpa using h0
        clear hq hn ho
        go_wp2_with fail
        refine (cT _).mono ?_
        rintro e w1 ⟨rfl, hb1⟩
        go_wp2
        go_ret
        exact ⟨ret_i64 HQ.out, hbel.trans (hb1.mono hbel.size)⟩
    · have hki : ¬ (k : Int) < 4 := by omega
      obtain rfl : k = 4 := by omega
      go_wp2
      go_ret
      exact ⟨ret_i64 HR.out, hbel⟩

set_option maxHeartbeats 2000000 in
theorem comparePre_go (a b : List UInt8) (w : World) (ha : a.length ≤ 1000000) (hb : b.length ≤ 1000000) (na : a ≠ []) (nb : b ≠ []) :
    Calls Tryd.prog 13 #[.string (mkS a), .string (mkS b)] w fun e w' => e = .returned (.int .i64 (seqP 4 (lst a).1 (lst b).1)) ∧ Below w.heap.size w w' := by
  have ea := empty_mk a
  have eb := empty_mk b
  rw [List.isEmpty_eq_false_iff.2 na] at ea
  rw [List.isEmpty_eq_false_iff.2 nb] at eb
  have cA := fun w' => list_lit a w' (by omega)
  have cB := fun w' => list_lit b w' (by omega)
  obtain ⟨L, hL⟩ : ∃ L, (lst a).1 = L := ⟨_, rfl⟩
  obtain ⟨M, hM⟩ : ∃ L, (lst b).1 = L := ⟨_, rfl⟩
  rw [hL] at cA
  rw [hM] at cB
  rw [hL, hM]
  have H8 := Lib.hid (tg_len a)
  have H9 := Lib.hid (tg_len b)
  rw [hL] at H8
  rw [hM] at H9
  clear hL hM na nb
  go_enter Tryd.func13, Tryd.ntmps13
  go_wp2_with fail
  refine (cA _).mono ?_
  rintro e w1 ⟨rfl, hb1⟩
  go_wp2_with fail
  refine (cB _).mono ?_
  rintro e w2 ⟨rfl, hb2⟩
  have hz1 := hb1.size
  have hz2 := hb2.size
  rw [size_box] at hz2
  have hbw : Below w.heap.size w w2 := (hb1.alloc hb1.size _).trans (hb2.mono (by rw [size_box]; omega))
  have hx := (hb2.block w1.heap.size (by rw [size_box]; omega)).trans (heap_new w1 _)
  have hy := heap_new w2 (.cells #[.string (mkS (tg M 0)), .string (mkS (tg M 1)), .string (mkS (tg M 2)), .string (mkS (tg M 3))] 49)
  have hx2 := (heap_old w2 (.cells #[.string (mkS (tg M 0)), .string (mkS (tg M 1)), .string (mkS (tg M 2)), .string (mkS (tg M 3))] 49) (by omega : w1.heap.size < w2.heap.size)).trans hx
  have cF := cfunc_any w1.heap.size w2.heap.size L M ((w2.alloc (.cells #[.string (mkS (tg M 0)), .string (mkS (tg M 1)), .string (mkS (tg M 2)), .string (mkS (tg M 3))] 49)).drew) hx2 hy H8.out H9.out
  clear hx hy hx2
  go_wp2_with fail
  go_region_with (refine cF.mono ?_; rintro e w3 ⟨rfl, hb3⟩)
  all_goals
    go_wp2
    go_ret
    exact ⟨rfl, (below_drew (hbw.alloc (by omega) _)).trans (hb3.mono (by show _ ≤ (w2.alloc _).heap.size; rw [size_box]; omega))⟩

theorem comparePre_any (a b : List UInt8) (w : World) (ha : a.length ≤ 1000000) (hb : b.length ≤ 1000000) :
    Calls Tryd.prog 13 #[.string (mkS a), .string (mkS b)] w fun e w' => e = .returned (.int .i64 (cpre a b)) ∧ Below w.heap.size w w' := by
  by_cases h1 : a = []
  · have ea := empty_mk a
    rw [List.isEmpty_iff.2 h1] at ea
    have HC : Hid (cpre a b = 1) := by show _ = _; unfold cpre; rw [if_pos h1]
    clear h1
    go_enter Tryd.func13, Tryd.ntmps13
    go_wp2
    go_ret
    exact ⟨ret_i64 HC.out.symm, Below.refl _ _⟩
  · by_cases h2 : b = []
    · have ea := empty_mk a
      rw [List.isEmpty_eq_false_iff.2 h1] at ea
      have eb := empty_mk b
      rw [List.isEmpty_iff.2 h2] at eb
      have HC : Hid (cpre a b = -1) := by show _ = _; unfold cpre; rw [if_neg h1, if_pos h2]
      clear h1 h2
      go_enter Tryd.func13, Tryd.ntmps13
      go_wp2
      go_ret
      exact ⟨ret_i64 HC.out.symm, Below.refl _ _⟩
    · have hc : cpre a b = seqP 4 (lst a).1 (lst b).1 := by unfold cpre; rw [if_neg h1, if_neg h2]
      rw [hc]
      exact comparePre_go a b w ha hb h1 h2

def or3 (x y z : Int) : Int := if x ≠ 0 then x else if y ≠ 0 then y else z
def nthI (x y z : Int) (k : Nat) : Int := if k = 0 then x else if k = 1 then y else z
set_option maxHeartbeats 2000000 in
theorem or_any (B : Nat) (x y z : Int) (w : World) (h : w.heap[B]? = some (.cells #[.int .i64 x, .int .i64 y, .int .i64 z] 3)) :
    Calls Tryd.prog 11 #[.slice (some ⟨B, 0, none⟩) 3 3] w fun e w' => e = .returned (.int .i64 (or3 x y z)) ∧ w = w' := by
  obtain ⟨c0, _⟩ := cell_row (j := 0) h (by simp)
  obtain ⟨c1, _⟩ := cell_row (j := 1) h (by simp)
  obtain ⟨c2, _⟩ := cell_row (j := 2) h (by simp)
  simp only [List.getElem_toArray, List.getElem_cons_succ, List.getElem_cons_zero] at c0 c1 c2
  have HC : Hid (∀ k, k < 3 → w.cell? ⟨B, k, none⟩ = some (.int .i64 (nthI x y z k))) := by
    intro k hk
    match k, hk with
    | 0, _ => exact c0
    | 1, _ => exact c1
    | 2, _ => exact c2
  clear c0 c1 c2 h
  go_enter Tryd.func11, Tryd.ntmps11
  go_wp2
  go_loop [8] (fun v => ∃ k : Nat, k ≤ 3 ∧ v = .int .i64 k ∧ Hid (∀ j, j < k → nthI x y z j = 0)) (fun v => 3 - (intOf v).toNat)
  case atStart => exact ⟨0, by omega, rfl, fun j hj => by omega⟩
  case round =>
    obtain ⟨k, hk, rfl, HR⟩ := hrel
    by_cases hk3 : k < 3
    · have hki : (k : Int) < 3 := by omega
      have hc := HC.out k hk3
      obtain ⟨o, ho⟩ : ∃ o, nthI x y z k = o := ⟨_, rfl⟩
      rw [ho] at hc
      by_cases h0 : o = 0
      · subst h0
        have HO := Lib.hid ho
        clear ho
        go_wp2
        go_round
        case rel => exact ⟨k + 1, by omega, by go_num, fun j hj => by
          by_cases hjk : j < k
          · exact HR.out j hjk
          · obtain rfl : j = k := by omega
            exact HO.out⟩
        case measure => simp [intOf]; omega
      · have h0b : (o != 0) = true := by simpa using h0
        have HO := Lib.hid ho
        clear ho
        go_wp2
        go_ret
        refine ⟨ret_i64 ?_, rfl⟩
        have h1 := HR.out
        have h2 := HO.out
        unfold or3
        match k, hk3 with
        | 0, _ => rw [show x = o from h2, if_pos h0]
        | 1, _ => rw [show x = 0 from h1 0 (by omega), show y = o from h2, if_neg (by simp), if_pos h0]
        | 2, _ => rw [show x = 0 from h1 0 (by omega), show y = 0 from h1 1 (by omega), show z = o from h2]; simp
    · have hki : ¬ (k : Int) < 3 := by omega
      obtain rfl : k = 3 := by omega
      go_wp2
      go_ret
      refine ⟨ret_i64 ?_, rfl⟩
      have h1 := HR.out
      unfold or3
      rw [show x = 0 from h1 0 (by omega), show y = 0 from h1 1 (by omega), show z = 0 from h1 2 (by omega)]; simp
end Go.Proofs.YtndjdmbbndcohaaDoor
