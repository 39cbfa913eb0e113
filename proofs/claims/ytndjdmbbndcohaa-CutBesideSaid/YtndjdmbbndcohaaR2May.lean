/-
  The document's own answer for chapter 2 (linchpinref2): Numeric, tag, tags, num and May: the same plain functions as package version's. Conditions: strings of at most a million bytes.
-/
import Derived.Test.YtndjdmbbndcohaaVMay
import Derived.Test.YtndjdmbbndcohaaJoin
namespace Go.Proofs.Ytndjdmbbndcohaa
open Go.RowKit

set_option maxHeartbeats 1000000 in
theorem rnumeric_any (s : ByteArray) (w : World) (hs : s.size ≤ maxLen) :
    Calls Try.prog 54 #[.string s] w fun e w' => e = .returned (.bool (numer s.data.toList)) ∧ w = w' := by
  unfold maxLen at hs
  go_enter Try.func54, Try.ntmps54
  go_wp2
  go_loop [3] (fun i => ∃ k : Nat, k ≤ s.size ∧ i = .int .i64 k ∧ Hid (allDig (s.data.toList.drop k) = allDig s.data.toList)) (fun i => s.size - (intOf i).toNat)
  case atStart => exact ⟨0, Nat.zero_le _, rfl, rfl⟩
  case round =>
    obtain ⟨k, hk, rfl, HR⟩ := hrel
    by_cases hp : k < s.size
    · have HD := Lib.hid (drop_cons s k hp)
      by_cases h1 : ((s[k]'hp).toNat : Int) < 48
      · go_wp2
        go_ret
        exact ⟨ret_bool (by unfold numer; rw [← HR.out, HD.out, allDig_cons_bad _ _ (by unfold digB; simp; omega), Bool.and_false]), rfl⟩
      · by_cases h2 : (57 : Int) < (s[k]'hp).toNat
        · go_wp2
          go_ret
          exact ⟨ret_bool (by unfold numer; rw [← HR.out, HD.out, allDig_cons_bad _ _ (by unfold digB; simp; omega), Bool.and_false]), rfl⟩
        · go_wp2
          go_round
          case rel => exact ⟨k + 1, by omega, by go_num, by rw [← HR.out, HD.out, allDig_cons_ok _ _ (by unfold digB; simp; omega)]; rfl⟩
          case measure => simp [intOf]; omega
    · have HD := Lib.hid (drop_end s k hp)
      have hl : s.data.toList.length = s.size := len_data s
      by_cases h0 : s.size = 0
      · have he : s.data.toList = [] := List.eq_nil_of_length_eq_zero (by omega)
        have h0i : ¬ (0 : Int) < s.size := by omega
        have HE := Lib.hid he
        clear he h0 hl
        go_wp2
        go_ret
        exact ⟨ret_bool (by unfold numer; rw [HE.out]; simp; exact ByteArray.ext (Array.toList_inj.1 HE.out)), rfl⟩
      · have he : s.data.toList.isEmpty = false := by
          cases h : s.data.toList with
          | nil => rw [h] at hl; simp at hl; omega
          | cons _ _ => rfl
        have h0i : (0 : Int) < s.size := by omega
        have HE := Lib.hid he
        clear he h0 hl
        go_wp2
        go_ret
        exact ⟨ret_bool (by unfold numer; rw [HE.out, ← HR.out, HD.out]; simp [allDig]; omega), rfl⟩

set_option maxHeartbeats 2000000 in
theorem rtag_any (s : ByteArray) (w : World) (hs : s.size ≤ maxLen) :
    Calls Try.prog 52 #[.string s] w fun e w' => e = .returned (.bool (tagOk s.data.toList)) ∧ w = w' := by
  unfold maxLen at hs
  have hl : s.data.toList.length = s.size := len_data s
  by_cases h1 : s.size < 1
  · have HT : Hid (tagOk s.data.toList = false) := tagOk_short (List.eq_nil_of_length_eq_zero (by omega))
    clear hl
    go_enter Try.func52, Try.ntmps52
    go_wp2
    go_ret
    exact ⟨ret_bool HT.out.symm, rfl⟩
  · by_cases h8 : 8 < s.size
    · have HT : Hid (tagOk s.data.toList = false) := tagOk_long (by omega)
      clear hl
      go_enter Try.func52, Try.ntmps52
      go_wp2
      go_ret
      exact ⟨ret_bool HT.out.symm, rfl⟩
    · have HT : Hid (tagOk s.data.toList = s.data.toList.all tagC) := tagOk_mid (by intro e; rw [e] at hl; simp at hl; omega) (by omega)
      clear hl
      go_enter Try.func52, Try.ntmps52
      go_wp2
      go_loop [3] (fun i => ∃ k : Nat, k ≤ s.size ∧ i = .int .i64 k ∧ Hid ((s.data.toList.drop k).all tagC = s.data.toList.all tagC)) (fun i => s.size - (intOf i).toNat)
      case atStart => exact ⟨0, Nat.zero_le _, rfl, rfl⟩
      case round =>
        obtain ⟨k, hk, rfl, HR⟩ := hrel
        by_cases hp : k < s.size
        · have HD := Lib.hid (drop_cons s k hp)
          by_cases hL : (97 : Int) ≤ (s[k]'hp).toNat ∧ ((s[k]'hp).toNat : Int) ≤ 122
          · obtain ⟨hla, hlb⟩ := hL
            go_wp2
            go_round
            case rel => exact ⟨k + 1, by omega, by go_num, by rw [← HR.out, HD.out, all_ok _ _ (tagC_let _ (by unfold letB; simp; omega))]; rfl⟩
            case measure => simp [intOf]; omega
          · have hL2 : ((s[k]'hp).toNat : Int) < 97 ∨ (122 : Int) < (s[k]'hp).toNat := by omega
            by_cases hG : (48 : Int) ≤ (s[k]'hp).toNat ∧ ((s[k]'hp).toNat : Int) ≤ 57
            · obtain ⟨hga, hgb⟩ := hG
              have hL3 : ((s[k]'hp).toNat : Int) < 97 := by omega
              clear hL hL2
              go_wp2
              go_round
              case rel => exact ⟨k + 1, by omega, by go_num, by rw [← HR.out, HD.out, all_ok _ _ (tagC_dig _ (by unfold digB; simp; omega))]; rfl⟩
              case measure => simp [intOf]; omega
            · have hG2 : ((s[k]'hp).toNat : Int) < 48 ∨ (57 : Int) < (s[k]'hp).toNat := by omega
              by_cases h3 : ((s[k]'hp).toNat : Int) = 45
              · have h3b : (((s[k]'hp).toNat : Int) != 45) = false := by simp [h3]
                have hL3 : ((s[k]'hp).toNat : Int) < 97 := by omega
                have hG3 : ((s[k]'hp).toNat : Int) < 48 := by omega
                have H3 := Lib.hid h3
                clear h3 hL hL2 hG hG2
                go_wp2
                go_round
                case rel => exact ⟨k + 1, by omega, by go_num, by rw [← HR.out, HD.out, all_ok _ _ (tagC_dash _ H3.out)]; rfl⟩
                case measure => simp [intOf]; omega
              · have h3b : (((s[k]'hp).toNat : Int) != 45) = true := by simpa using h3
                have HB : Hid (s.data.toList.all tagC = false) := by
                  show _ = _
                  rw [← HR.out, HD.out, all_bad _ _ (tagC_bad _ (by unfold digB; simp; omega) (by unfold letB; simp; omega) h3)]
                clear hL hG h3
                rcases hL2 with hL2 | hL2 <;> rcases hG2 with hG2 | hG2
                · go_wp2
                  go_ret
                  exact ⟨ret_bool (by rw [HT.out, HB.out]), rfl⟩
                · have h9 : (48 : Int) ≤ (s[k]'hp).toNat := by omega
                  go_wp2
                  go_ret
                  exact ⟨ret_bool (by rw [HT.out, HB.out]), rfl⟩
                · exfalso; omega
                · have h9 : (97 : Int) ≤ (s[k]'hp).toNat := by omega
                  have h7 : (48 : Int) ≤ (s[k]'hp).toNat := by omega
                  go_wp2
                  go_ret
                  exact ⟨ret_bool (by rw [HT.out, HB.out]), rfl⟩
        · have HD := Lib.hid (drop_end s k hp)
          go_wp2
          go_ret
          exact ⟨ret_bool (by rw [HT.out, ← HR.out, HD.out]; rfl), rfl⟩

theorem rnum_any (n : Int) (w : World) :
    Calls Try.prog 38 #[.int .i64 n] w fun e w' => e = .returned (.bool (numOkI n)) ∧ w = w' := by
  unfold numOkI
  go_enter Try.func38, Try.ntmps38
  go_wp2
  all_goals go_ret
  all_goals exact ⟨ret_bool (by simp; try omega), rfl⟩

theorem rnumber_mk (t : List UInt8) (w : World) (ht : t.length ≤ maxLen) :
    Calls Try.prog 53 #[.string (mkS t)] w fun e w' => e = .returned (.tuple #[.int .i64 (numD t), .bool (numI t)]) ∧ w = w' := by
  have := rnumber_any (mkS t) w (by rw [mkS_sz]; exact ht)
  rw [numV_mk, numOk_mk] at this
  exact this
theorem rnumeric_mk (t : List UInt8) (w : World) (ht : t.length ≤ maxLen) :
    Calls Try.prog 54 #[.string (mkS t)] w fun e w' => e = .returned (.bool (numer t)) ∧ w = w' := by
  have := rnumeric_any (mkS t) w (by rw [mkS_sz]; exact ht)
  rw [mk_data] at this
  exact this
theorem rtag_mk (t : List UInt8) (w : World) (ht : t.length ≤ maxLen) :
    Calls Try.prog 52 #[.string (mkS t)] w fun e w' => e = .returned (.bool (tagOk t)) ∧ w = w' := by
  have := rtag_any (mkS t) w (by rw [mkS_sz]; exact ht)
  rw [mk_data] at this
  exact this
theorem rsplit_mk (s : List UInt8) (w : World) (hs : s.length ≤ 1000000) :
    Calls Try.prog 51 #[.string (mkS s), .int .u8 46] w fun e w' => ∃ v, e = .returned v ∧ w'.ownsRow w.heap.size 9 1 v (pcs s).length (strV (pcs s)) ∧ Below w.heap.size w w' := by
  have := rsplit_any (mkS s) 46 w (by rw [mkS_sz]; exact hs)
  unfold piecesOf at this
  rw [mk_data] at this
  exact this
theorem pcs_mem_len (s : List UInt8) : ∀ x ∈ pcs s, x.length ≤ s.length := by
  intro x hx
  have := split_le 46 s [] x hx
  simpa using this
theorem pcs_len (s : List UInt8) : (pcs s).length ≤ s.length + 1 := by
  unfold pcs; rw [split_len]
  have := List.length_filter_le (fun x : UInt8 => x == 46) s
  omega

/-- tags: at the flag pre. -/
def tagsB (s : List UInt8) (b : Bool) : Bool := s.isEmpty || (decide ((pcs s).length ≤ 4) && (pcs s).all fun t => tagOk t && !(b && numer t && !numI t))
theorem all_both {α : Type} (p q r : α → Bool) (h : ∀ x, r x = (p x && q x)) (l : List α) : l.all r = (l.all p && l.all q) := by
  induction l with
  | nil => rfl
  | cons a l ih =>
    rw [List.all_cons, List.all_cons, List.all_cons, ih, h]
    cases p a <;> cases q a <;> simp
theorem tagsB_pre (s : List UInt8) : tagsB s true = preOk s := by
  unfold tagsB preOk listOk preT
  cases s.isEmpty
  · simp only [Bool.false_or, Bool.true_and, Bool.and_assoc]
    congr 1
    refine all_both _ _ _ (fun t => ?_) _
    cases tagOk t <;> cases numer t <;> cases numI t <;> rfl
  · rfl
theorem tagsB_build (s : List UInt8) : tagsB s false = listOk s := by
  unfold tagsB listOk
  simp

def tagF (b : Bool) (t : List UInt8) : Bool := tagOk t && !(b && numer t && !numI t)
theorem tagsB_eq (s : List UInt8) (b : Bool) : tagsB s b = (s.isEmpty || (decide ((pcs s).length ≤ 4) && (pcs s).all (tagF b))) := rfl
theorem all_cut {l : List (List UInt8)} {p : List UInt8 → Bool} (k : Nat) (h : k < l.length) (hb : p l[k] = false) : l.all p = false := by
  rw [Bool.eq_false_iff]; intro e
  have := List.all_eq_true.1 e l[k] (List.getElem_mem h)
  rw [this] at hb; cases hb
theorem all_done {l : List (List UInt8)} {p : List UInt8 → Bool} (h : ∀ j (hj : j < l.length), p l[j] = true) : l.all p = true := by
  rw [List.all_eq_true]
  intro x hx
  obtain ⟨j, hj, rfl⟩ := List.getElem_of_mem hx
  exact h j hj

set_option maxHeartbeats 4000000 in
set_option maxRecDepth 100000 in
theorem rtags_any (s : List UInt8) (b : Bool) (w : World) (hs : s.length ≤ 1000000) :
    Calls Try.prog 39 #[.string (mkS s), .bool b] w fun e w' => e = .returned (.bool (tagsB s b)) ∧ Below w.heap.size w w' := by
  have es := (show (mkS s).toList.isEmpty = s.isEmpty by rw [Lib.toList_data, mk_data])
  have HT := Lib.hid (tagsB_eq s b)
  cases he : s.isEmpty with
  | true =>
    rw [he] at es HT
    clear he
    go_enter Try.func39, Try.ntmps39
    go_wp2
    go_ret
    exact ⟨ret_bool (by rw [HT.out]; rfl), Below.refl _ _⟩
  | false =>
    rw [he] at es HT
    clear he
    have HM := Lib.hid (pcs_mem_len s)
    have cS := fun w' => rsplit_mk s w' hs
    have hne : 0 < (pcs s).length := by
      have := splitL_ne 46 s []
      cases h : pcs s with
      | nil => exact absurd h this
      | cons _ _ => simp
    obtain ⟨l, hl⟩ : ∃ l, pcs s = l := ⟨_, rfl⟩
    rw [hl] at cS HM hne HT
    clear hl
    go_enter Try.func39, Try.ntmps39
    go_wp2_with fail
    refine (cS _).mono ?_
    rintro e w1 ⟨v, rfl, hown, hb1⟩
    obtain ⟨A, cap, rfl, hcell⟩ := ReadsT.of_own hown
    obtain ⟨ad, rfl, hlt, hc⟩ := hcell hne
    have HC := Lib.hid hc
    clear hc hcell hown cS
    by_cases h4 : 4 < l.length
    · have h4i : (4 : Int) < l.length := by omega
      go_wp2
      go_ret
      exact ⟨ret_bool (by rw [HT.out, decide_eq_false (by omega)]; rfl), hb1⟩
    · have h4i : ¬ (4 : Int) < l.length := by omega
      go_wp2
      go_loop [6] (fun x => ∃ k : Nat, k ≤ l.length ∧ x = .int .i64 k ∧ Hid (∀ j (hj : j < l.length), j < k → tagF b l[j] = true)) (fun x => l.length - (intOf x).toNat)
      case atStart => exact ⟨0, by omega, rfl, fun j hj h => by omega⟩
      case round =>
        obtain ⟨k, hk, rfl, HR⟩ := hrel
        by_cases hp : k < l.length
        · have hki : (k : Int) < l.length := by omega
          have hck := HC.out k hp
          have ht : l[k].length ≤ maxLen := by have := HM.out l[k] (List.getElem_mem hp); unfold maxLen; omega
          have cT := fun w' => rtag_mk l[k] w' ht
          have cN := fun w' => rnumber_mk l[k] w' ht
          have cD := fun w' => rnumeric_mk l[k] w' ht
          have HF : Hid (tagF b l[k] = (tagOk l[k] && !(b && numer l[k] && !numI l[k]))) := rfl
          obtain ⟨g1, e1⟩ : ∃ g, tagOk l[k] = g := ⟨_, rfl⟩
          obtain ⟨g2, e2⟩ : ∃ g, numer l[k] = g := ⟨_, rfl⟩
          obtain ⟨g3, e3⟩ : ∃ g, numI l[k] = g := ⟨_, rfl⟩
          rw [e1] at cT HF
          rw [e2] at cD HF
          rw [e3] at cN HF
          clear e1 e2 e3
          cases hf : (g1 && !(b && g2 && !g3)) with
          | true =>
            have HFT : Hid (tagF b l[k] = true) := by show _ = _; rw [HF.out, hf]
            clear HF
            cases g1 <;> cases b <;> cases g2 <;> cases g3 <;> simp at hf
            all_goals
              go_wp2_with (first
                | (go_at_call 52; refine (cT _).mono ?_; rintro e w2 ⟨rfl, rfl⟩)
                | (go_at_call 53; refine (cN _).mono ?_; rintro e w3 ⟨rfl, rfl⟩)
                | (go_at_call 54; refine (cD _).mono ?_; rintro e w4 ⟨rfl, rfl⟩))
              go_round
              case rel => exact ⟨k + 1, by omega, by go_num, fun j hj h => by
                by_cases hjk : j < k
                · exact HR.out j hj hjk
                · obtain rfl : j = k := by omega
                  exact HFT.out⟩
              case measure => simp [intOf]; omega
          | false =>
            have HFT : Hid (tagF b l[k] = false) := by show _ = _; rw [HF.out, hf]
            clear HF
            cases g1 <;> cases b <;> cases g2 <;> cases g3 <;> simp at hf
            all_goals
              go_wp2_with (first
                | (go_at_call 52; refine (cT _).mono ?_; rintro e w2 ⟨rfl, rfl⟩)
                | (go_at_call 53; refine (cN _).mono ?_; rintro e w3 ⟨rfl, rfl⟩)
                | (go_at_call 54; refine (cD _).mono ?_; rintro e w4 ⟨rfl, rfl⟩))
              go_ret
              exact ⟨ret_bool (by rw [HT.out, all_cut k hp HFT.out]; simp), hb1⟩
        · have hki : ¬ (k : Int) < l.length := by omega
          have hall := all_done (l := l) (p := tagF b) (fun j hj => HR.out j hj (by omega))
          have HA := Lib.hid hall
          clear hall
          go_wp2
          go_ret
          exact ⟨ret_bool (by rw [HT.out, HA.out, decide_eq_true (by omega)]; rfl), hb1⟩

set_option maxHeartbeats 4000000 in
set_option maxRecDepth 100000 in
theorem rmay_any (v : Ver) (w : World) (hp : v.pre.length ≤ 1000000) (hq : v.build.length ≤ 1000000) :
    Calls Try.prog 26 #[verV v] w fun e w' => e = .returned (.bool v.may) ∧ Below w.heap.size w w' := by
  have HM : Hid (v.may = (numOkI v.maj && numOkI v.min && numOkI v.pat && tagsB v.pre true && tagsB v.build false)) := by
    show _ = _
    rw [tagsB_pre, tagsB_build]; rfl
  have cP := fun w' => rtags_any v.pre true w' hp
  have cQ := fun w' => rtags_any v.build false w' hq
  have c1 := fun w' => rnum_any v.maj w'
  have c2 := fun w' => rnum_any v.min w'
  have c3 := fun w' => rnum_any v.pat w'
  obtain ⟨m, hm⟩ : ∃ m, v.may = m := ⟨_, rfl⟩
  rw [hm] at HM ⊢
  obtain ⟨g1, e1⟩ : ∃ g, numOkI v.maj = g := ⟨_, rfl⟩
  obtain ⟨g2, e2⟩ : ∃ g, numOkI v.min = g := ⟨_, rfl⟩
  obtain ⟨g3, e3⟩ : ∃ g, numOkI v.pat = g := ⟨_, rfl⟩
  obtain ⟨g4, e4⟩ : ∃ g, tagsB v.pre true = g := ⟨_, rfl⟩
  obtain ⟨g5, e5⟩ : ∃ g, tagsB v.build false = g := ⟨_, rfl⟩
  rw [e1, e2, e3, e4, e5] at HM
  rw [e1] at c1
  rw [e2] at c2
  rw [e3] at c3
  rw [e4] at cP
  rw [e5] at cQ
  clear e1 e2 e3 e4 e5 hm
  obtain ⟨a, b, c, p, q⟩ := v
  unfold verV
  dsimp only at c1 c2 c3 cP cQ ⊢
  have hcases : g1 = false ∨ (g1 = true ∧ g2 = false) ∨ (g1 = true ∧ g2 = true ∧ g3 = false) ∨ (g1 = true ∧ g2 = true ∧ g3 = true ∧ g4 = false) ∨ (g1 = true ∧ g2 = true ∧ g3 = true ∧ g4 = true) := by
    cases g1 <;> cases g2 <;> cases g3 <;> cases g4 <;> simp
  rcases hcases with rfl | ⟨rfl, rfl⟩ | ⟨rfl, rfl, rfl⟩ | ⟨rfl, rfl, rfl, rfl⟩ | ⟨rfl, rfl, rfl, rfl⟩
  · go_enter Try.func26, Try.ntmps26
    go_wp2_with fail
    refine (c1 _).mono ?_
    rintro e w1 ⟨rfl, rfl⟩
    go_wp2
    go_ret
    exact ⟨ret_bool (by rw [HM.out]; rfl), (Below.refl _ _).alloc (Nat.le_refl _) _⟩
  · go_enter Try.func26, Try.ntmps26
    go_wp2_with fail
    refine (c1 _).mono ?_
    rintro e w1 ⟨rfl, rfl⟩
    go_wp2_with fail
    refine (c2 _).mono ?_
    rintro e w1 ⟨rfl, rfl⟩
    go_wp2
    go_ret
    exact ⟨ret_bool (by rw [HM.out]; rfl), (Below.refl _ _).alloc (Nat.le_refl _) _⟩
  · go_enter Try.func26, Try.ntmps26
    go_wp2_with fail
    refine (c1 _).mono ?_
    rintro e w1 ⟨rfl, rfl⟩
    go_wp2_with fail
    refine (c2 _).mono ?_
    rintro e w1 ⟨rfl, rfl⟩
    go_wp2_with fail
    refine (c3 _).mono ?_
    rintro e w1 ⟨rfl, rfl⟩
    go_wp2
    go_ret
    exact ⟨ret_bool (by rw [HM.out]; rfl), (Below.refl _ _).alloc (Nat.le_refl _) _⟩
  · go_enter Try.func26, Try.ntmps26
    go_wp2_with fail
    refine (c1 _).mono ?_
    rintro e w1 ⟨rfl, rfl⟩
    go_wp2_with fail
    refine (c2 _).mono ?_
    rintro e w1 ⟨rfl, rfl⟩
    go_wp2_with fail
    refine (c3 _).mono ?_
    rintro e w1 ⟨rfl, rfl⟩
    go_wp2_with fail
    refine (cP _).mono ?_
    rintro e w1 ⟨rfl, hb1⟩
    go_wp2
    go_ret
    exact ⟨ret_bool (by rw [HM.out]; rfl), ((Below.refl _ _).alloc (Nat.le_refl _) _).trans (hb1.mono (by simp))⟩
  · go_enter Try.func26, Try.ntmps26
    go_wp2_with fail
    refine (c1 _).mono ?_
    rintro e w1 ⟨rfl, rfl⟩
    go_wp2_with fail
    refine (c2 _).mono ?_
    rintro e w1 ⟨rfl, rfl⟩
    go_wp2_with fail
    refine (c3 _).mono ?_
    rintro e w1 ⟨rfl, rfl⟩
    go_wp2_with fail
    refine (cP _).mono ?_
    rintro e w1 ⟨rfl, hb1⟩
    obtain ⟨k4, m4⟩ := box_cells hb1 4 (by simp)
    simp only [List.getElem_toArray, List.getElem_cons_succ, List.getElem_cons_zero] at k4
    have hbw : Below w.heap.size w w1 := ((Below.refl _ _).alloc (Nat.le_refl _) _).trans (hb1.mono (by simp))
    go_wp2_with fail
    refine (cQ _).mono ?_
    rintro e w2 ⟨rfl, hb2⟩
    go_wp2
    go_ret
    exact ⟨ret_bool (by rw [HM.out]; rfl), hbw.trans (hb2.mono hbw.size)⟩
end Go.Proofs.Ytndjdmbbndcohaa
