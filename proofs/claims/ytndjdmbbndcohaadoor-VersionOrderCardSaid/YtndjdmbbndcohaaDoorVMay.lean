/-
  Package version: mayPre, numbers, release, number and May: what they return for strings of at most 2^32 - 16 bytes; nothing that was there is changed.
-/
import Derived.Test.YtndjdmbbndcohaaDoorVList
import Derived.Test.YtndjdmbbndcohaaDoorVer2
namespace Go.Proofs.YtndjdmbbndcohaaDoor
open Go.RowKit

theorem numV_mk (t : List UInt8) : numV (mkS t) = numD t := by unfold numV numB numD; rw [mk_data]
theorem numOk_mk (t : List UInt8) : numOk (mkS t) = numI t := by unfold numOk numB numI; rw [mk_data]
theorem mkS_sz (t : List UInt8) : (mkS t).size = t.length := by unfold mkS; simp [ByteArray.size]
/-- ident.Number at a byte list. -/
theorem number_mk (t : List UInt8) (b : Bool) (hb : numI t = b) (w : World) (ht : t.length ≤ maxLen) :
    Calls Tryd.prog 34 #[.string (mkS t)] w fun e w' => e = .returned (.tuple #[.int .i64 (numD t), .bool b]) ∧ Below w.heap.size w w' := by
  have := number_any (mkS t) w (by rw [mkS_sz]; exact ht)
  rw [numV_mk, numOk_mk, hb] at this
  exact this
theorem numeric_mk (t : List UInt8) (b : Bool) (hb : numer t = b) (w : World) (ht : t.length ≤ maxLen) :
    Calls Tryd.prog 35 #[.string (mkS t)] w fun e w' => e = .returned (.bool b) ∧ Below w.heap.size w w' := by
  have := vnumeric_any (mkS t) w (by rw [mkS_sz]; exact ht)
  rw [mk_data, hb] at this
  exact this
theorem list_lit (s : List UInt8) (w : World) (hs : s.length < 4294967281) :
    Calls Tryd.prog 21 #[.string (mkS s)] w fun e w' => e = .returned (.tuple #[.agg #[.string (mkS (tg (lst s).1 0)), .string (mkS (tg (lst s).1 1)), .string (mkS (tg (lst s).1 2)), .string (mkS (tg (lst s).1 3))], .bool (lst s).2]) ∧ Below w.heap.size w w' := list_any s w hs
theorem ix_tag0 (a b c d : Value) (w : World) : (Instr.index 49 (.agg #[a, b, c, d]) (.int .i64 0)).run Tryd.prog w = .ok a w := by kernel_rfl
theorem ix_tag1 (a b c d : Value) (w : World) : (Instr.index 49 (.agg #[a, b, c, d]) (.int .i64 1)).run Tryd.prog w = .ok b w := by kernel_rfl
theorem ix_tag2 (a b c d : Value) (w : World) : (Instr.index 49 (.agg #[a, b, c, d]) (.int .i64 2)).run Tryd.prog w = .ok c w := by kernel_rfl
theorem ix_tag3 (a b c d : Value) (w : World) : (Instr.index 49 (.agg #[a, b, c, d]) (.int .i64 3)).run Tryd.prog w = .ok d w := by kernel_rfl
theorem ix_tag (l : List (List UInt8)) (k : Nat) (hk : k < 4) (w : World) :
    (Instr.index 49 (.agg #[.string (mkS (tg l 0)), .string (mkS (tg l 1)), .string (mkS (tg l 2)), .string (mkS (tg l 3))]) (.int .i64 k)).run Tryd.prog w = .ok (.string (mkS (tg l k))) w := by
  match k, hk with
  | 0, _ => exact ix_tag0 _ _ _ _ w
  | 1, _ => exact ix_tag1 _ _ _ _ w
  | 2, _ => exact ix_tag2 _ _ _ _ w
  | 3, _ => exact ix_tag3 _ _ _ _ w
theorem all_four (l : List (List UInt8)) (h4 : l.length ≤ 4) (h : ∀ j, j < 4 → preT (tg l j) = true) : l.all preT = true := by
  rw [← tg_all preT_nil l h4, h 0 (by omega), h 1 (by omega), h 2 (by omega), h 3 (by omega)]; rfl
theorem not_four (l : List (List UInt8)) (h4 : l.length ≤ 4) (j : Nat) (hj : j < 4) (h : preT (tg l j) = false) : l.all preT = false := by
  rw [← tg_all preT_nil l h4]
  match j, hj with
  | 0, _ => rw [h]; rfl
  | 1, _ => rw [h]; simp
  | 2, _ => rw [h]; simp
  | 3, _ => rw [h]; simp

set_option maxHeartbeats 2000000 in
theorem mayPre_any (s : List UInt8) (w : World) (hs : s.length < 4294967281) :
    Calls Tryd.prog 22 #[.string (mkS s)] w fun e w' => e = .returned (.bool (preOk s)) ∧ Below w.heap.size w w' := by
  have hl4 := lst_len s
  have hl8 := tg_len s
  have hP := preOk_lst s
  obtain ⟨L, hL⟩ : ∃ L, (lst s).1 = L := ⟨_, rfl⟩
  obtain ⟨o, ho⟩ : ∃ o, (lst s).2 = o := ⟨_, rfl⟩
  have cL := list_lit s w hs
  rw [hL, ho] at cL
  rw [hL] at hl4 hl8 hP
  rw [ho] at hP
  have HP := Lib.hid hP
  have H8 := Lib.hid hl8
  clear hP hl8 hL ho
  go_enter Tryd.func22, Tryd.ntmps22
  go_wp2_with (go_at_call 21; refine cL.mono ?_; rintro e w1 ⟨rfl, hb1⟩)
  go_loopw [15] (fun v wr => ∃ k : Nat, k ≤ 4 ∧ v = .int .i64 k ∧ Below w.heap.size w wr ∧ Hid (∀ j, j < k → preT (tg L j) = true)) (fun v _ => 4 - (intOf v).toNat)
  case atStart => exact ⟨0, by omega, rfl, hb1.alloc hb1.size _, fun j hj => by omega⟩
  case round =>
    obtain ⟨k, hk, rfl, hbel, HR⟩ := hrel
    by_cases hk4 : k < 4
    · have hki : (k : Int) < 4 := by omega
      have hix : ∀ w, (Instr.index 49 (.agg #[.string (mkS (tg L 0)), .string (mkS (tg L 1)), .string (mkS (tg L 2)), .string (mkS (tg L 3))]) (.int .i64 k)).run Tryd.prog w = .ok (.string (mkS (tg L k))) w := ix_tag L k hk4
      have h8 : (tg L k).length ≤ 8 := H8.out k
      have hm : (tg L k).length ≤ maxLen := by unfold maxLen; omega
      cases hi : numI (tg L k) with
      | true =>
        have HI := Lib.hid hi
        clear hi
        cases hn : numer (tg L k)
        all_goals
          have HN := Lib.hid hn
          clear hn
          go_wp2_with (first
            | (go_at_call 34; refine (number_mk _ true HI.out _ hm).mono ?_; rintro e w2 ⟨rfl, hb2⟩)
            | (go_at_call 35; refine (numeric_mk _ _ HN.out _ hm).mono ?_; rintro e w3 ⟨rfl, hb3⟩))
          go_roundw
          case rel => exact ⟨k + 1, by omega, by go_num, (hbel.trans (hb2.mono hbel.size)).trans (hb3.mono (by have := hb2.size; have := hbel.size; omega)), fun j hj => by
            by_cases h : j < k
            · exact HR.out j h
            · obtain rfl : j = k := by omega
              unfold preT; rw [HI.out]; simp⟩
          case measure => simp [intOf]; omega
      | false =>
        have HI := Lib.hid hi
        clear hi
        cases hn : numer (tg L k) with
        | true =>
          have HN := Lib.hid hn
          clear hn
          go_wp2_with (first
            | (go_at_call 34; refine (number_mk _ false HI.out _ hm).mono ?_; rintro e w2 ⟨rfl, hb2⟩)
            | (go_at_call 35; refine (numeric_mk _ _ HN.out _ hm).mono ?_; rintro e w3 ⟨rfl, hb3⟩))
          go_ret
          exact ⟨ret_bool (by rw [HP.out, not_four L hl4 k hk4 (by unfold preT; rw [HN.out, HI.out]; rfl), Bool.and_false]), (hbel.trans (hb2.mono hbel.size)).trans (hb3.mono (by have := hb2.size; have := hbel.size; omega))⟩
        | false =>
          have HN := Lib.hid hn
          clear hn
          go_wp2_with (first
            | (go_at_call 34; refine (number_mk _ false HI.out _ hm).mono ?_; rintro e w2 ⟨rfl, hb2⟩)
            | (go_at_call 35; refine (numeric_mk _ _ HN.out _ hm).mono ?_; rintro e w3 ⟨rfl, hb3⟩))
          go_roundw
          case rel => exact ⟨k + 1, by omega, by go_num, (hbel.trans (hb2.mono hbel.size)).trans (hb3.mono (by have := hb2.size; have := hbel.size; omega)), fun j hj => by
            by_cases h : j < k
            · exact HR.out j h
            · obtain rfl : j = k := by omega
              unfold preT; rw [HN.out]; simp⟩
          case measure => simp [intOf]; omega
    · have hki : ¬ (k : Int) < 4 := by omega
      go_wp2
      go_ret
      exact ⟨ret_bool (by rw [HP.out, all_four L hl4 (fun j hj => HR.out j (by omega)), Bool.and_true]), hbel⟩

/-- A version as a value. -/
def verV (v : Ver) : Value := .agg #[.int .i64 v.maj, .int .i64 v.min, .int .i64 v.pat, .string (mkS v.pre), .string (mkS v.build)]
theorem numbers_any (v : Ver) (w : World) :
    Calls Tryd.prog 20 #[verV v] w fun e w' => e = .returned (.agg #[.int .i64 v.maj, .int .i64 v.min, .int .i64 v.pat]) ∧ Below w.heap.size w w' := by
  obtain ⟨a, b, c, p, q⟩ := v
  unfold verV
  dsimp only
  go_enter Tryd.func20, Tryd.ntmps20
  go_wp2
  exact bodyPost_ret (v := .agg #[.int .i64 a, .int .i64 b, .int .i64 c]) (by simp [results, Tryd.results20, go_sem]) rfl ⟨rfl, ((Below.refl _ _).alloc (Nat.le_refl _) _).alloc (by simp) _⟩
theorem release_any (a b c : Int) (w : World) :
    Calls Tryd.prog 27 #[.agg #[.int .i64 a, .int .i64 b, .int .i64 c]] w fun e w' => e = .returned (verV (Ver.rel a b c)) ∧ Below w.heap.size w w' := by
  go_enter Tryd.func27, Tryd.ntmps27
  go_wp2
  exact bodyPost_ret (v := .agg #[.int .i64 a, .int .i64 b, .int .i64 c, .string ⟨#[]⟩, .string ⟨#[]⟩]) (by simp [results, Tryd.results27, go_sem]) rfl ⟨rfl, ((Below.refl _ _).alloc (Nat.le_refl _) _).alloc (by simp) _⟩
theorem vnumber_any (t : List UInt8) (w : World) (ht : t.length ≤ maxLen) :
    Calls Tryd.prog 28 #[.string (mkS t)] w fun e w' => e = .returned (.int .i64 (numD t)) ∧ Below w.heap.size w w' := by
  go_enter Tryd.func28, Tryd.ntmps28
  go_wp2_with (go_at_call 34; refine (number_mk t _ rfl _ ht).mono ?_; rintro e w2 ⟨rfl, hb2⟩)
  go_ret
  exact ⟨rfl, hb2⟩

theorem ix_num0 (a b c : Value) (w : World) : (Instr.index 46 (.agg #[a, b, c]) (.int .i64 0)).run Tryd.prog w = .ok a w := by kernel_rfl
theorem ix_num1 (a b c : Value) (w : World) : (Instr.index 46 (.agg #[a, b, c]) (.int .i64 1)).run Tryd.prog w = .ok b w := by kernel_rfl
theorem ix_num2 (a b c : Value) (w : World) : (Instr.index 46 (.agg #[a, b, c]) (.int .i64 2)).run Tryd.prog w = .ok c w := by kernel_rfl
def nth3 (a b c : Int) (k : Nat) : Int := if k = 0 then a else if k = 1 then b else c
theorem ix_num (a b c : Int) (k : Nat) (hk : k < 3) (w : World) :
    (Instr.index 46 (.agg #[.int .i64 a, .int .i64 b, .int .i64 c]) (.int .i64 k)).run Tryd.prog w = .ok (.int .i64 (nth3 a b c k)) w := by
  match k, hk with
  | 0, _ => exact ix_num0 _ _ _ w
  | 1, _ => exact ix_num1 _ _ _ w
  | 2, _ => exact ix_num2 _ _ _ w
theorem nth3_all {a b c : Int} (h : ∀ j, j < 3 → numOkI (nth3 a b c j) = true) : (numOkI a && numOkI b && numOkI c) = true := by
  have h0 := h 0 (by omega); have h1 := h 1 (by omega); have h2 := h 2 (by omega)
  unfold nth3 at h0 h1 h2
  simp at h0 h1 h2
  rw [h0, h1, h2]; rfl
theorem nth3_not {a b c : Int} (j : Nat) (hj : j < 3) (h : numOkI (nth3 a b c j) = false) : (numOkI a && numOkI b && numOkI c) = false := by
  match j, hj with
  | 0, _ => rw [show numOkI a = false from h]; rfl
  | 1, _ => rw [show numOkI b = false from h]; simp
  | 2, _ => rw [show numOkI c = false from h]; simp
theorem may_eq (v : Ver) : v.may = ((numOkI v.maj && numOkI v.min && numOkI v.pat) && (preOk v.pre && listOk v.build)) := by
  unfold Ver.may; rw [Bool.and_assoc]

/-- The cells of a box that holds a version, in a later world. -/
theorem box_cells {w w1 : World} {T : TypeId} {cs : Array Value} (hb : Below (w.alloc (.cells cs T)).heap.size (w.alloc (.cells cs T)) w1) (j : Nat) (hj : j < cs.size) : w1.cell? ⟨w.heap.size, j, none⟩ = some cs[j] ∧ w1.frozen? ⟨w.heap.size, j, none⟩ = false := by
  have h : w1.heap[w.heap.size]? = some (.cells cs T) := (hb.block _ (by simp)).trans (heap_new w _)
  exact cell_row h hj
theorem size_box (w : World) (o : Obj) : (w.alloc o).heap.size = w.heap.size + 1 := by simp

set_option maxHeartbeats 2000000 in
theorem may_any (v : Ver) (w : World) (hp : v.pre.length < 4294967281) (hq : v.build.length < 4294967281) :
    Calls Tryd.prog 10 #[verV v] w fun e w' => e = .returned (.bool v.may) ∧ Below w.heap.size w w' := by
  have hM := may_eq v
  have cN := fun w' => numbers_any v w'
  obtain ⟨a, b, c, p, q⟩ := v
  unfold verV at cN ⊢
  dsimp only at cN hM hp hq ⊢
  have HM := Lib.hid hM
  clear hM
  go_enter Tryd.func10, Tryd.ntmps10
  go_wp2_with (go_at_call 20; refine (cN _).mono ?_; rintro e w1 ⟨rfl, hb1⟩)
  obtain ⟨c3, f3⟩ := box_cells hb1 3 (by simp)
  obtain ⟨c4, f4⟩ := box_cells hb1 4 (by simp)
  have hs1 : w.heap.size < w1.heap.size := by have := hb1.size; rw [size_box] at this; omega
  have hbw : Below w.heap.size w w1 := ((Below.refl _ _).alloc (Nat.le_refl _) _).trans (hb1.mono (by simp))
  simp only [List.getElem_toArray, List.getElem_cons_succ, List.getElem_cons_zero] at c3 c4
  go_loop [9] (fun x => ∃ k : Nat, k ≤ 3 ∧ x = .int .i64 k ∧ Hid (∀ j, j < k → numOkI (nth3 a b c j) = true)) (fun x => 3 - (intOf x).toNat)
  case atStart => exact ⟨0, by omega, rfl, fun j hj => by omega⟩
  case round =>
    obtain ⟨k, hk, rfl, HR⟩ := hrel
    by_cases hk3 : k < 3
    · have hki : (k : Int) < 3 := by omega
      have hix : ∀ w, (Instr.index 46 (.agg #[.int .i64 a, .int .i64 b, .int .i64 c]) (.int .i64 k)).run Tryd.prog w = .ok (.int .i64 (nth3 a b c k)) w := ix_num a b c k hk3
      by_cases h0 : nth3 a b c k < 0
      · have hbad : numOkI (nth3 a b c k) = false := by unfold numOkI; simp; omega
        have HB := Lib.hid hbad
        clear hbad
        go_wp2
        go_ret
        exact ⟨ret_bool (by rw [HM.out, nth3_not k hk3 HB.out]; rfl), hbw⟩
      · by_cases h9 : 9999 < nth3 a b c k
        · have hbad : numOkI (nth3 a b c k) = false := by unfold numOkI; simp; omega
          have HB := Lib.hid hbad
          clear hbad
          go_wp2
          go_ret
          exact ⟨ret_bool (by rw [HM.out, nth3_not k hk3 HB.out]; rfl), hbw⟩
        · have hok : numOkI (nth3 a b c k) = true := by unfold numOkI; simp; omega
          have HB := Lib.hid hok
          clear hok
          go_wp2
          go_round
          case rel => exact ⟨k + 1, by omega, by go_num, fun j hj => by
            by_cases h : j < k
            · exact HR.out j h
            · obtain rfl : j = k := by omega
              exact HB.out⟩
          case measure => simp [intOf]; omega
    · have hki : ¬ (k : Int) < 3 := by omega
      have h3 := Lib.hid (nth3_all fun j hj => HR.out j (by omega))
      have cL := list_lit q w1 hq
      rw [lst_ok] at cL
      cases ho : listOk q with
      | true =>
        rw [ho] at cL
        have HO := Lib.hid ho
        clear ho
        go_wp2_with (first
          | (go_at_call 21; refine cL.mono ?_; rintro e w2 ⟨rfl, hb2⟩; have c32 := (hb2.cell (p := ⟨w.heap.size, 3, none⟩) hs1).trans c3; have hs2 : w.heap.size < w2.heap.size := Nat.lt_of_lt_of_le hs1 hb2.size)
          | (go_at_call 22; refine (mayPre_any p _ hp).mono ?_; rintro e w3 ⟨rfl, hb3⟩))
        go_ret
        exact ⟨ret_bool (by rw [HM.out, h3.out, HO.out]; simp), ((hbw.trans (hb2.mono hbw.size)).alloc (by omega) _).trans (hb3.mono (by simp; omega))⟩
      | false =>
        rw [ho] at cL
        have HO := Lib.hid ho
        clear ho
        go_wp2_with (go_at_call 21; refine cL.mono ?_; rintro e w2 ⟨rfl, hb2⟩; have c32 := (hb2.cell (p := ⟨w.heap.size, 3, none⟩) hs1).trans c3; have hs2 : w.heap.size < w2.heap.size := Nat.lt_of_lt_of_le hs1 hb2.size)
        go_ret
        exact ⟨ret_bool (by rw [HM.out, h3.out, HO.out]; simp), (hbw.trans (hb2.mono hbw.size)).alloc (by omega) _⟩
end Go.Proofs.YtndjdmbbndcohaaDoor
