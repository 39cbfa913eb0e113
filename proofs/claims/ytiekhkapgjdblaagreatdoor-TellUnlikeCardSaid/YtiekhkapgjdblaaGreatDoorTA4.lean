/-
  What the statement's proof leans on: the ways of walking, jY mathematics, and what the program's functions return; each theorem says on what conditions.
-/
import Derived.Deep.RegionHeld3
import Derived.Outline
import Derived.Test.YtiekhkapgjdblaaGreatDoorTA3
set_option maxRecDepth 1000000
set_option maxHeartbeats 8000000
set_option linter.unusedVariables false
set_option linter.unusedSimpArgs false
namespace Go.Proofs.YtiekhkapgjdblaaGreatDoor
open Go.RowKit

section
theorem wV {W : World} {v : Value} {l : List Int} (hv : ReadsI W W.heap.size v l) (hl : l.length ≤ 9223372036854775807) (i : Nat) (n : Int) (hi : i ≤ 1000000) (hn : 0 < n) (hn2 : n ≤ 1000000) {k : Int} (hk : plc (atL l i) n = k) :
    ∀ w, Below W.heap.size W w → Calls Tryz.prog 87 #[v, .int .i64 i, .int .i64 n] w fun e w' => e = .returned (.int .i64 k) ∧ Below w.heap.size w w' := fun w hb => by
  have h := from_any v l i n w ((hv.below hb).more hb.size) hl hi hn hn2
  rw [hk] at h
  exact h.mono fun _ _ ⟨e1, e2⟩ => ⟨e1, e2 ▸ Below.refl _ _⟩
theorem j7 (v : Int) (n : Nat) (hn : 0 < n) : ∃ k : Nat, plc v n = (k : Int) ∧ k < n := by
  have h := t7 v n (by omega)
  exact ⟨(plc v n).toNat, (Int.toNat_of_nonneg h.1).symm, by omega⟩
theorem rd_num : ∀ (k : Nat), k < 8 → kA Tryz.prog 3 #[.int .i64 0, .int .i64 1, .int .i64 2, .int .i64 3, .int .i64 0, .int .i64 1, .int .i64 10, .int .i64 9999] k = some (.int .i64 (jZ k))
  | 0, _ => by kernel_rfl
  | 1, _ => by kernel_rfl
  | 2, _ => by kernel_rfl
  | 3, _ => by kernel_rfl
  | 4, _ => by kernel_rfl
  | 5, _ => by kernel_rfl
  | 6, _ => by kernel_rfl
  | 7, _ => by kernel_rfl
theorem rd_pre : ∀ (k : Nat), k < 14 → kA Tryz.prog 9 #[.string ⟨#[]⟩, .string ⟨#[]⟩, .string ⟨#[]⟩, .string ⟨#[]⟩, .string ⟨#[48]⟩, .string ⟨#[49]⟩, .string ⟨#[50]⟩, .string ⟨#[49, 49]⟩, .string ⟨#[97]⟩, .string ⟨#[97, 46, 49]⟩, .string ⟨#[97, 46, 98]⟩, .string ⟨#[98]⟩, .string ⟨#[48, 46, 48]⟩, .string ⟨#[114, 99, 46, 49]⟩] k = some (.string (mkS (b7 k)))
  | 0, _ => by kernel_rfl
  | 1, _ => by kernel_rfl
  | 2, _ => by kernel_rfl
  | 3, _ => by kernel_rfl
  | 4, _ => by kernel_rfl
  | 5, _ => by kernel_rfl
  | 6, _ => by kernel_rfl
  | 7, _ => by kernel_rfl
  | 8, _ => by kernel_rfl
  | 9, _ => by kernel_rfl
  | 10, _ => by kernel_rfl
  | 11, _ => by kernel_rfl
  | 12, _ => by kernel_rfl
  | 13, _ => by kernel_rfl
theorem rd_bld : ∀ (k : Nat), k < 6 → kA Tryz.prog 9 #[.string ⟨#[]⟩, .string ⟨#[]⟩, .string ⟨#[]⟩, .string ⟨#[]⟩, .string ⟨#[48, 48, 55]⟩, .string ⟨#[120, 46, 49]⟩] k = some (.string (mkS (bldT k)))
  | 0, _ => by kernel_rfl
  | 1, _ => by kernel_rfl
  | 2, _ => by kernel_rfl
  | 3, _ => by kernel_rfl
  | 4, _ => by kernel_rfl
  | 5, _ => by kernel_rfl
theorem gen_any (v : Value) (l : List Int) (i : Nat) (W : World) (hv : ReadsI W W.heap.size v l) (hl : l.length ≤ 9223372036854775807) (hi : i ≤ 100000) :
    Calls Tryz.prog 135 #[v, .int .i64 (i : Int)] W fun e w' => e = .returned (zP (xS l i)) ∧ Below W.heap.size W w' := by
  obtain ⟨k0, e0, q0⟩ := j7 (atL l i) 8 (by omega)
  have f0 := wV hv hl i 8 (by omega) (by omega) (by omega) e0
  obtain ⟨k1, e1, q1⟩ := j7 (atL l (i + 1)) 8 (by omega)
  have f1 := wV hv hl (i + 1) 8 (by omega) (by omega) (by omega) e1
  obtain ⟨k2, e2, q2⟩ := j7 (atL l (i + 2)) 8 (by omega)
  have f2 := wV hv hl (i + 2) 8 (by omega) (by omega) (by omega) e2
  obtain ⟨k3, e3, q3⟩ := j7 (atL l (i + 3)) 14 (by omega)
  have f3 := wV hv hl (i + 3) 14 (by omega) (by omega) (by omega) e3
  obtain ⟨k4, e4, q4⟩ := j7 (atL l (i + 4)) 6 (by omega)
  have f4 := wV hv hl (i + 4) 6 (by omega) (by omega) (by omega) e4
  have hg : xS l i = ⟨jZ k0, jZ k1, jZ k2, b7 k3, bldT k4⟩ := by unfold xS; rw [show plc (atL l i) 8 = _ from e0, show plc (atL l (i + 1)) 8 = _ from e1, show plc (atL l (i + 2)) 8 = _ from e2, show plc (atL l (i + 3)) 14 = _ from e3, show plc (atL l (i + 4)) 6 = _ from e4]; rfl
  rw [hg]
  refine zM (n := 41) Tryz.func135 rfl (by kernel_rfl) (by kernel_rfl) (ZO (Za (.agg #[.int .i64 0, .int .i64 0, .int .i64 0, .string ⟨#[]⟩, .string ⟨#[]⟩]) (fun b1 => ZR (Zv (.agg #[.int .i64 0, .int .i64 1, .int .i64 2, .int .i64 3, .int .i64 0, .int .i64 1, .int .i64 10, .int .i64 9999]) (Za (.agg #[.int .i64 0, .int .i64 0, .int .i64 0, .int .i64 0, .int .i64 0, .int .i64 0, .int .i64 0, .int .i64 0]) (fun b2 => Zs 0 ⟨b2, #[.int .i64 0, .int .i64 0, .int .i64 0, .int .i64 0, .int .i64 0, .int .i64 0, .int .i64 0, .int .i64 0], 188⟩ (off := 0) (.agg #[.int .i64 0, .int .i64 1, .int .i64 2, .int .i64 3, .int .i64 0, .int .i64 1, .int .i64 10, .int .i64 9999]) (zL ?_)))))))
  refine z7 (ZO (Zv (.agg #[.string ⟨#[]⟩, .string ⟨#[]⟩, .string ⟨#[]⟩, .string ⟨#[]⟩, .string ⟨#[48]⟩, .string ⟨#[49]⟩, .string ⟨#[50]⟩, .string ⟨#[49, 49]⟩, .string ⟨#[97]⟩, .string ⟨#[97, 46, 49]⟩, .string ⟨#[97, 46, 98]⟩, .string ⟨#[98]⟩, .string ⟨#[48, 46, 48]⟩, .string ⟨#[114, 99, 46, 49]⟩]) (Za (.agg #[.string ⟨#[]⟩, .string ⟨#[]⟩, .string ⟨#[]⟩, .string ⟨#[]⟩, .string ⟨#[]⟩, .string ⟨#[]⟩, .string ⟨#[]⟩, .string ⟨#[]⟩, .string ⟨#[]⟩, .string ⟨#[]⟩, .string ⟨#[]⟩, .string ⟨#[]⟩, .string ⟨#[]⟩, .string ⟨#[]⟩]) (fun b3 => Zs 0 ⟨b3, #[.string ⟨#[]⟩, .string ⟨#[]⟩, .string ⟨#[]⟩, .string ⟨#[]⟩, .string ⟨#[]⟩, .string ⟨#[]⟩, .string ⟨#[]⟩, .string ⟨#[]⟩, .string ⟨#[]⟩, .string ⟨#[]⟩, .string ⟨#[]⟩, .string ⟨#[]⟩, .string ⟨#[]⟩, .string ⟨#[]⟩], 189⟩ (off := 0) (.agg #[.string ⟨#[]⟩, .string ⟨#[]⟩, .string ⟨#[]⟩, .string ⟨#[]⟩, .string ⟨#[48]⟩, .string ⟨#[49]⟩, .string ⟨#[50]⟩, .string ⟨#[49, 49]⟩, .string ⟨#[97]⟩, .string ⟨#[97, 46, 49]⟩, .string ⟨#[97, 46, 98]⟩, .string ⟨#[98]⟩, .string ⟨#[48, 46, 48]⟩, .string ⟨#[114, 99, 46, 49]⟩]) (ZR (Zv (.agg #[.string ⟨#[]⟩, .string ⟨#[]⟩, .string ⟨#[]⟩, .string ⟨#[]⟩, .string ⟨#[48, 48, 55]⟩, .string ⟨#[120, 46, 49]⟩]) (Za (.agg #[.string ⟨#[]⟩, .string ⟨#[]⟩, .string ⟨#[]⟩, .string ⟨#[]⟩, .string ⟨#[]⟩, .string ⟨#[]⟩]) (fun b4 => ?_))))))))
  refine Zs 0 ⟨b4, #[.string ⟨#[]⟩, .string ⟨#[]⟩, .string ⟨#[]⟩, .string ⟨#[]⟩, .string ⟨#[]⟩, .string ⟨#[]⟩], 190⟩ (off := 0) (.agg #[.string ⟨#[]⟩, .string ⟨#[]⟩, .string ⟨#[]⟩, .string ⟨#[]⟩, .string ⟨#[48, 48, 55]⟩, .string ⟨#[120, 46, 49]⟩]) (ZN (z8 (ok_drawt 30 (by kernel_rfl) (by kernel_rfl) (by kernel_rfl) ?_)))
  simp only [List.take_succ_cons, List.take_zero, List.drop_succ_cons, List.drop_zero]
  refine Zw (v) (Zw (.int .i64 ((i : Nat) : Int)) (Zq (k := 87) (args := #[v, .int .i64 ((i : Nat) : Int), .int .i64 8]) (.int .i64 (k0 : Int)) (fun w hO => f0 w hO.below) (kL (.pointer (some ⟨b2, k0, none⟩)) (by kernel_rfl) (bH (b := b2) (off := 0) (k := .i64) (j := (k0 : Int)) (n := 8) (e := 3) (sz := 1) rfl (by kernel_rfl) (by kernel_rfl) (by kernel_rfl) (by kernel_rfl) (by omega) (by omega) (by omega)) (jX 2 ⟨b2, #[.int .i64 0, .int .i64 1, .int .i64 2, .int .i64 3, .int .i64 0, .int .i64 1, .int .i64 10, .int .i64 9999], 188⟩ (off := k0) (.int .i64 (jZ k0)) (by kernel_rfl) rfl (by kernel_rfl) (by kernel_rfl) (rd_num k0 q0) (Zw (v) (Zw (.int .i64 ((i : Nat) : Int)) (p5 (k := .i64) (((i + 1 : Nat) : Int)) (by kernel_rfl) (fun _ => by kernel_rfl) (IntWalk.i64_in _ (by omega)) (Zq (k := 87) (args := #[v, .int .i64 ((i + 1 : Nat) : Int), .int .i64 8]) (.int .i64 (k1 : Int)) (fun w hO => f1 w hO.below) (kL (.pointer (some ⟨b2, k1, none⟩)) (by kernel_rfl) (bH (b := b2) (off := 0) (k := .i64) (j := (k1 : Int)) (n := 8) (e := 3) (sz := 1) rfl (by kernel_rfl) (by kernel_rfl) (by kernel_rfl) (by kernel_rfl) (by omega) (by omega) (by omega)) (jX 2 ⟨b2, #[.int .i64 0, .int .i64 1, .int .i64 2, .int .i64 3, .int .i64 0, .int .i64 1, .int .i64 10, .int .i64 9999], 188⟩ (off := k1) (.int .i64 (jZ k1)) (by kernel_rfl) rfl (by kernel_rfl) (by kernel_rfl) (rd_num k1 q1) (Zw (v) ?_)))))))))))
  refine Zw (.int .i64 ((i : Nat) : Int)) (p5 (k := .i64) (((i + 2 : Nat) : Int)) (by kernel_rfl) (fun _ => by kernel_rfl) (IntWalk.i64_in _ (by omega)) (Zq (k := 87) (args := #[v, .int .i64 ((i + 2 : Nat) : Int), .int .i64 8]) (.int .i64 (k2 : Int)) (fun w hO => f2 w hO.below) (kL (.pointer (some ⟨b2, k2, none⟩)) (by kernel_rfl) (bH (b := b2) (off := 0) (k := .i64) (j := (k2 : Int)) (n := 8) (e := 3) (sz := 1) rfl (by kernel_rfl) (by kernel_rfl) (by kernel_rfl) (by kernel_rfl) (by omega) (by omega) (by omega)) (jX 2 ⟨b2, #[.int .i64 0, .int .i64 1, .int .i64 2, .int .i64 3, .int .i64 0, .int .i64 1, .int .i64 10, .int .i64 9999], 188⟩ (off := k2) (.int .i64 (jZ k2)) (by kernel_rfl) rfl (by kernel_rfl) (by kernel_rfl) (rd_num k2 q2) (Zw (v) (Zw (.int .i64 ((i : Nat) : Int)) (p5 (k := .i64) (((i + 3 : Nat) : Int)) (by kernel_rfl) (fun _ => by kernel_rfl) (IntWalk.i64_in _ (by omega)) (Zq (k := 87) (args := #[v, .int .i64 ((i + 3 : Nat) : Int), .int .i64 14]) (.int .i64 (k3 : Int)) (fun w hO => f3 w hO.below) (kL (.pointer (some ⟨b3, k3, none⟩)) (by kernel_rfl) (bH (b := b3) (off := 0) (k := .i64) (j := (k3 : Int)) (n := 14) (e := 9) (sz := 1) rfl (by kernel_rfl) (by kernel_rfl) (by kernel_rfl) (by kernel_rfl) (by omega) (by omega) (by omega)) (jX 1 ⟨b3, #[.string ⟨#[]⟩, .string ⟨#[]⟩, .string ⟨#[]⟩, .string ⟨#[]⟩, .string ⟨#[48]⟩, .string ⟨#[49]⟩, .string ⟨#[50]⟩, .string ⟨#[49, 49]⟩, .string ⟨#[97]⟩, .string ⟨#[97, 46, 49]⟩, .string ⟨#[97, 46, 98]⟩, .string ⟨#[98]⟩, .string ⟨#[48, 46, 48]⟩, .string ⟨#[114, 99, 46, 49]⟩], 189⟩ (off := k3) (.string (mkS (b7 k3))) (by kernel_rfl) rfl (by kernel_rfl) (by kernel_rfl) (rd_pre k3 q3) (Zw (v) ?_)))))))))))
  refine Zw (.int .i64 ((i : Nat) : Int)) (p5 (k := .i64) (((i + 4 : Nat) : Int)) (by kernel_rfl) (fun _ => by kernel_rfl) (IntWalk.i64_in _ (by omega)) (Zq (k := 87) (args := #[v, .int .i64 ((i + 4 : Nat) : Int), .int .i64 6]) (.int .i64 (k4 : Int)) (fun w hO => f4 w hO.below) (kL (.pointer (some ⟨b4, k4, none⟩)) (by kernel_rfl) (bH (b := b4) (off := 0) (k := .i64) (j := (k4 : Int)) (n := 6) (e := 9) (sz := 1) rfl (by kernel_rfl) (by kernel_rfl) (by kernel_rfl) (by kernel_rfl) (by omega) (by omega) (by omega)) (jX 0 ⟨b4, #[.string ⟨#[]⟩, .string ⟨#[]⟩, .string ⟨#[]⟩, .string ⟨#[]⟩, .string ⟨#[48, 48, 55]⟩, .string ⟨#[120, 46, 49]⟩], 190⟩ (off := k4) (.string (mkS (bldT k4))) (by kernel_rfl) rfl (by kernel_rfl) (by kernel_rfl) (rd_bld k4 q4) (Zw (.agg #[.int .i64 (jZ k0), .int .i64 (jZ k1), .int .i64 (jZ k2), .string (mkS (b7 k3)), .string (mkS (bldT k4))]) (xP (Zs 3 ⟨b1, #[.int .i64 0, .int .i64 0, .int .i64 0, .string ⟨#[]⟩, .string ⟨#[]⟩], 70⟩ (off := 0) (.agg #[.int .i64 (jZ k0), .int .i64 (jZ k1), .int .i64 (jZ k2), .string (mkS (b7 k3)), .string (mkS (bldT k4))]) (ZN (zB (ZC 3 ⟨b1, #[.int .i64 (jZ k0), .int .i64 (jZ k1), .int .i64 (jZ k2), .string (mkS (b7 k3)), .string (mkS (bldT k4))], 70⟩ (off := 0) (.agg #[.int .i64 (jZ k0), .int .i64 (jZ k1), .int .i64 (jZ k2), .string (mkS (b7 k3)), .string (mkS (bldT k4))]) Tryz.results135 ?_))))))))))
  exact fun w hO => ⟨rfl, hO.below⟩
theorem genC_any (v : Value) (l : List Int) (i : Nat) (W : World) (hv : ReadsI W W.heap.size v l) (hl : l.length ≤ 9223372036854775807) (hi : i ≤ 100000) :
    Calls Tryz.prog 88 #[v, .int .i64 (i : Int)] W fun e w' => e = .returned (zC (fD l i)) ∧ Below W.heap.size W w' := by
  obtain ⟨k0, e0, q0⟩ := j7 (atL l (i + 5)) 9 (by omega)
  have f0 := wV hv hl (i + 5) 9 (by omega) (by omega) (by omega) e0
  obtain ⟨k1, e1, q1⟩ := j7 (atL l (i + 5)) 2 (by omega)
  have f1 := wV hv hl (i + 5) 2 (by omega) (by omega) (by omega) e1
  refine zM (n := 28) Tryz.func88 rfl (by kernel_rfl) (by kernel_rfl) (ZO (Za (.agg #[.int .i64 0, .int .i64 0, .int .i64 0, .int .i64 0, .string ⟨#[]⟩, .string ⟨#[]⟩, .bool false]) (fun b1 => ZN (z8 (ZO (Zv (v) (Zv (.int .i64 ((i : Nat) : Int)) (Zu (k := .i64) (((i + 5 : Nat) : Int)) (IntWalk.i64_in _ (by omega)) ?_))))))))
  refine Zc (k := 87) (args := #[v, .int .i64 ((i + 5 : Nat) : Int), .int .i64 9]) (.int .i64 (k0 : Int)) (fun w hO => f0 w hO.below) (Zv (.int .i64 (k0 : Int)) (ZR (Zv (.int .i64 (k0 : Int)) ?_)))
  by_cases h1 : ((k0 : Int) : Int) < 2
  · refine xO (p := ((k0 : Int) : Int) < 2) true (by kernel_rfl) (fun _ => by kernel_rfl) (decide_eq_true (h1)) ?_
    refine ZY (ZO (Zv (.int .i64 (k0 : Int)) (Zu (k := .i64) ((2 : Int) * (k0 : Int)) (IntWalk.i64_in _ (by omega)) (Zu (k := .i64) ((((2 : Int) * (k0 : Int)) : Int) - 1) (IntWalk.i64_in _ (by omega)) (Zv (.agg #[.int .i64 ((((2 : Int) * (k0 : Int)) : Int) - 1), .int .i64 0, .int .i64 0, .int .i64 0, .string ⟨#[]⟩, .string ⟨#[]⟩, .bool false]) (Zs 0 ⟨b1, #[.int .i64 0, .int .i64 0, .int .i64 0, .int .i64 0, .string ⟨#[]⟩, .string ⟨#[]⟩, .bool false], 72⟩ (off := 0) (.agg #[.int .i64 ((((2 : Int) * (k0 : Int)) : Int) - 1), .int .i64 0, .int .i64 0, .int .i64 0, .string ⟨#[]⟩, .string ⟨#[]⟩, .bool false]) (zL (z7 ?_))))))))
    exact zB (z6 (ZC 0 ⟨b1, #[.int .i64 ((((2 : Int) * (k0 : Int)) : Int) - 1), .int .i64 0, .int .i64 0, .int .i64 0, .string ⟨#[]⟩, .string ⟨#[]⟩, .bool false], 72⟩ (off := 0) (.agg #[.int .i64 ((((2 : Int) * (k0 : Int)) : Int) - 1), .int .i64 0, .int .i64 0, .int .i64 0, .string ⟨#[]⟩, .string ⟨#[]⟩, .bool false]) Tryz.results88 (fun w hO => ⟨by rw [show zC (fD l i) = .agg #[.int .i64 ((((2 : Int) * (k0 : Int)) : Int) - 1), .int .i64 0, .int .i64 0, .int .i64 0, .string ⟨#[]⟩, .string ⟨#[]⟩, .bool false] from by unfold fD; rw [show plc (atL l (i + 5)) 9 = _ from e0, show plc (atL l (i + 5)) 2 = _ from e1]; simp [h1]; rfl], hO.below⟩)))
  refine Zd (p := ((k0 : Int) : Int) < 2) false (decide_eq_false (h1)) (ZX (ZB (ZO (Zv (v) (Zv (.int .i64 ((i : Nat) : Int)) (Zc (k := 135) (args := #[v, .int .i64 ((i : Nat) : Int)]) (zP (xS l i)) (fun w hO => gen_any v l i w ((hv.below hO.below).more hO.below.size) hl (by omega)) (Za (.agg #[.int .i64 0, .int .i64 0, .int .i64 0, .string ⟨#[]⟩, .string ⟨#[]⟩]) (fun b2 => ?_))))))))
  refine Zs 0 ⟨b2, #[.int .i64 0, .int .i64 0, .int .i64 0, .string ⟨#[]⟩, .string ⟨#[]⟩], 70⟩ (off := 0) (zP (xS l i)) (ZR (Zv (.pointer (some ⟨b2, 4, none⟩)) (Zs 0 ⟨b2, (zP (xS l i)).cells, 70⟩ (off := 4) (.string ⟨#[]⟩) (ZN (z8 (ok_drawt 7 (by kernel_rfl) (by kernel_rfl) (by kernel_rfl) ?_))))))
  simp only [List.take_succ_cons, List.take_zero, List.drop_succ_cons, List.drop_zero]
  refine Zm 0 ⟨b2, #[.int .i64 ((xS l i).maj), .int .i64 ((xS l i).min), .int .i64 ((xS l i).pat), .string (mkS (xS l i).pre), .string ⟨#[]⟩], 70⟩ (off := 0) (.agg #[.int .i64 ((xS l i).maj), .int .i64 ((xS l i).min), .int .i64 ((xS l i).pat), .string (mkS (xS l i).pre), .string ⟨#[]⟩]) (Zw (v) (Zw (.int .i64 ((i : Nat) : Int)) (p5 (k := .i64) (((i + 5 : Nat) : Int)) (by kernel_rfl) (fun _ => by kernel_rfl) (IntWalk.i64_in _ (by omega)) (Zq (k := 87) (args := #[v, .int .i64 ((i + 5 : Nat) : Int), .int .i64 2]) (.int .i64 (k1 : Int)) (fun w hO => f1 w hO.below) ?_))))
  by_cases h2 : ((k1 : Int) : Int) = 1
  · refine mD (p := ((k1 : Int) : Int) = 1) true (by kernel_rfl) (fun _ => by kernel_rfl) (decide_eq_true (h2)) ?_
    exact Zw (.agg #[.int .i64 0, .int .i64 ((xS l i).maj), .int .i64 ((xS l i).min), .int .i64 ((xS l i).pat), .string (mkS (xS l i).pre), .string ⟨#[]⟩, .bool true]) (xP (Zs 1 ⟨b1, #[.int .i64 0, .int .i64 0, .int .i64 0, .int .i64 0, .string ⟨#[]⟩, .string ⟨#[]⟩, .bool false], 72⟩ (off := 0) (.agg #[.int .i64 0, .int .i64 ((xS l i).maj), .int .i64 ((xS l i).min), .int .i64 ((xS l i).pat), .string (mkS (xS l i).pre), .string ⟨#[]⟩, .bool true]) (ZN (zB (ZC 1 ⟨b1, #[.int .i64 0, .int .i64 ((xS l i).maj), .int .i64 ((xS l i).min), .int .i64 ((xS l i).pat), .string (mkS (xS l i).pre), .string ⟨#[]⟩, .bool true], 72⟩ (off := 0) (.agg #[.int .i64 0, .int .i64 ((xS l i).maj), .int .i64 ((xS l i).min), .int .i64 ((xS l i).pat), .string (mkS (xS l i).pre), .string ⟨#[]⟩, .bool true]) Tryz.results88 (fun w hO => ⟨by rw [show zC (fD l i) = .agg #[.int .i64 0, .int .i64 ((xS l i).maj), .int .i64 ((xS l i).min), .int .i64 ((xS l i).pat), .string (mkS (xS l i).pre), .string ⟨#[]⟩, .bool true] from by unfold fD; rw [show plc (atL l (i + 5)) 9 = _ from e0, show plc (atL l (i + 5)) 2 = _ from e1]; simp [h1, h2]; rfl], hO.below⟩))))))
  exact Ze (p := ((k1 : Int) : Int) = 1) false (decide_eq_false (h2)) (Zw (.agg #[.int .i64 0, .int .i64 ((xS l i).maj), .int .i64 ((xS l i).min), .int .i64 ((xS l i).pat), .string (mkS (xS l i).pre), .string ⟨#[]⟩, .bool false]) (xP (Zs 1 ⟨b1, #[.int .i64 0, .int .i64 0, .int .i64 0, .int .i64 0, .string ⟨#[]⟩, .string ⟨#[]⟩, .bool false], 72⟩ (off := 0) (.agg #[.int .i64 0, .int .i64 ((xS l i).maj), .int .i64 ((xS l i).min), .int .i64 ((xS l i).pat), .string (mkS (xS l i).pre), .string ⟨#[]⟩, .bool false]) (ZN (zB (ZC 1 ⟨b1, #[.int .i64 0, .int .i64 ((xS l i).maj), .int .i64 ((xS l i).min), .int .i64 ((xS l i).pat), .string (mkS (xS l i).pre), .string ⟨#[]⟩, .bool false], 72⟩ (off := 0) (.agg #[.int .i64 0, .int .i64 ((xS l i).maj), .int .i64 ((xS l i).min), .int .i64 ((xS l i).pat), .string (mkS (xS l i).pre), .string ⟨#[]⟩, .bool false]) Tryz.results88 (fun w hO => ⟨by rw [show zC (fD l i) = .agg #[.int .i64 0, .int .i64 ((xS l i).maj), .int .i64 ((xS l i).min), .int .i64 ((xS l i).pat), .string (mkS (xS l i).pre), .string ⟨#[]⟩, .bool false] from by unfold fD; rw [show plc (atL l (i + 5)) 9 = _ from e0, show plc (atL l (i + 5)) 2 = _ from e1]; simp [h1, h2]; rfl], hO.below⟩)))))))
end
section
theorem Own.mid {M : List Nat} {W w : World} {E ob : List Blk} (h : Own M W w (E ++ ob ++ [])) : Own M W w (ob ++ []) := Own.sub E (by rw [← List.append_assoc]; exact h)
def ordSp (c d : Cu) : Sp := if 0 < zO c d then ⟨d, c⟩ else ⟨c, d⟩
def spG (l : List Int) (i n : Nat) : Sp := ordSp (fD l (i + 12 * n - 11)) (fD l (i + 12 * n - 5))
def gA (l : List Int) (i : Nat) : Nat → List Sp
  | 0 => []
  | n + 1 => (if (spG l i (n + 1)).may then [spG l i (n + 1)] else []) ++ gA l i n
theorem vX (l : List Int) (i : Nat) : (fD l i).short := ⟨by have := genC_pre l i; omega, by have := genC_bld l i; omega⟩
theorem mM (l : List Int) (i : Nat) : ∀ n, ∀ s ∈ gA l i n, s.may = true
  | 0, s, hs => by simp [gA] at hs
  | n + 1, s, hs => by
    unfold gA at hs
    rcases List.mem_append.1 hs with h | h
    · split at h
      · rename_i hm
        obtain rfl : s = _ := by simpa using h
        exact hm
      · simp at h
    · exact mM l i n s h
theorem mN (l : List Int) (i : Nat) : ∀ n, (gA l i n).length ≤ n
  | 0 => by simp [gA]
  | n + 1 => by
    have ih := mN l i n
    unfold gA
    split
    · simp; omega
    · simp; omega
structure SpI (l : List Int) (i N n : Nat) (z : Int) (u : Value) (acc : List Sp) (ob : List Blk) : Prop where
  z : z = (n : Int)
  sl : SlS u acc ob
  len : acc.length + n ≤ N
  eq : acc ++ gA l i n = gA l i N
theorem SpI.keep {l : List Int} {i N n : Nat} {z : Int} {u : Value} {acc : List Sp} {ob : List Blk} (h : SpI l i N n z u acc ob) (h0 : 0 < n) {s : Sp} (hs : spG l i n = s) (hm : s.may = false) : SpI l i N (n - 1) (z - 1) u acc ob :=
  ⟨by have := h.z; omega, h.sl, by have := h.len; omega, by
    obtain ⟨m, rfl⟩ : ∃ m, n = m + 1 := ⟨n - 1, by omega⟩
    have e := h.eq
    rw [show gA l i (m + 1) = (if (spG l i (m + 1)).may then [spG l i (m + 1)] else []) ++ gA l i m from rfl, hs, hm] at e
    simpa using e⟩
theorem SpI.grow {l : List Int} {i N n : Nat} {z : Int} {u u2 : Value} {acc : List Sp} {ob ob2 : List Blk} (h : SpI l i N n z u acc ob) (h0 : 0 < n) {s : Sp} (hs : spG l i n = s) (hm : s.may = true) (h2 : Sl 74 14 u2 (acc.length + 1) (acc.flatMap yB ++ yB s) ob2) : SpI l i N (n - 1) (z - 1) u2 (acc ++ [s]) ob2 :=
  ⟨by have := h.z; omega, h2.to (by simp) (by simp), by have := h.len; simp; omega, by
    obtain ⟨m, rfl⟩ : ∃ m, n = m + 1 := ⟨n - 1, by omega⟩
    have e := h.eq
    rw [show gA l i (m + 1) = (if (spG l i (m + 1)).may then [spG l i (m + 1)] else []) ++ gA l i m from rfl, hs, hm] at e
    simpa using e⟩
theorem spans_any (v : Value) (l : List Int) (i most : Nat) (W : World) (hv : ReadsI W W.heap.size v l) (hl : l.length ≤ 9223372036854775807) (hi : i ≤ 50000) (hm : most ≤ 1000) :
    Calls Tryz.prog 55 #[v, .int .i64 (i : Int), .int .i64 (most : Int)] W fun e w' => ∃ v' ob', e = .returned v' ∧ SlS v' (gA l i (plc (atL l i) (most + 1 : Nat)).toNat) ob' ∧ Own [] W w' ob' := by
  obtain ⟨N, e0, q0⟩ := j7 (atL l i) (most + 1) (by omega)
  have f0 := wV hv hl i (most + 1 : Nat) (by omega) (by omega) (by omega) e0
  rw [e0, Int.toNat_natCast]
  refine zM (n := 53) Tryz.func55 rfl (by kernel_rfl) (by kernel_rfl) (ZO (Zv (.slice none 0 0) (ZR (Zv (.slice none 0 0) (ZN (z8 ?_))))))
  refine ZO (Zv (v) (Zv (.int .i64 (i : Int)) (Zv (.int .i64 (most : Int)) (Zu (k := .i64) (((most + 1 : Nat) : Int)) (IntWalk.i64_in _ (by omega)) (Zc (k := 87) (args := #[v, .int .i64 (i : Int), .int .i64 ((most + 1 : Nat) : Int)]) (.int .i64 (N : Int)) (fun w hO => f0 w hO.below) (Zv (.int .i64 (N : Int)) (ZN (zX (qS (L' := [] ++ []) rfl ?_)))))))))
  refine kH (fun L f m => ∃ (n : Nat) (z : Int) (u : Value) (acc : List Sp) (ob : List Blk) (j : Nat → Value), (SpI l i N n z u acc ob) ∧ L = ob ++ [] ∧ f = jD j [(0, v), (1, .int .i64 (i : Int)), (7, u), (8, .int .i64 z)] ∧ m = z.toNat) ((N : Int).toNat) ⟨N, _, _, [], [], _, ⟨rfl, Sl.nil _ _, by simp, rfl⟩, rfl, ZU, rfl⟩ ?_
  rintro L f m ⟨n, z, u, acc, ob, j, hrel, rfl, rfl, rfl⟩
  refine z8 (ZO (Zv (.int .i64 z) ?_))
  by_cases h1 : (0 : Int) < z
  · have hz := hrel.z
    have hlen := hrel.len
    obtain ⟨c, hc⟩ : ∃ c, fD l (i + 12 * n - 11) = c := ⟨_, rfl⟩
    obtain ⟨d, hd⟩ : ∃ d, fD l (i + 12 * n - 5) = d := ⟨_, rfl⟩
    have hcS : c.short := hc ▸ vX l _
    have hdS : d.short := hd ▸ vX l _
    have hsp : spG l i n = ordSp c d := by unfold spG; rw [hc, hd]
    refine Zd (p := (0 : Int) < z) true (decide_eq_true (h1)) (ZY (ZB (z8 (zX (ZO (Zv (v) (Zv (.int .i64 (i : Int)) ?_)))))))
    refine Zv (.int .i64 z) (Zu (k := .i64) ((12 : Int) * z) (IntWalk.i64_in _ (by omega)) (Zu (k := .i64) (((i : Int) : Int) + ((12 : Int) * z)) (IntWalk.i64_in _ (by omega)) (Zu (k := .i64) (((((i : Int) : Int) + ((12 : Int) * z)) : Int) - 11) (IntWalk.i64_in _ (by omega)) (Zc (k := 88) (args := #[v, .int .i64 (((((i : Int) : Int) + ((12 : Int) * z)) : Int) - 11)]) (zC c) (fun w hO => by rw [show ((((i : Int) : Int) + ((12 : Int) * z)) : Int) - 11 = ((i + 12 * n - 11 : Nat) : Int) from by omega, ← hc]; exact genC_any v l (i + 12 * n - 11) w ((hv.below hO.below).more hO.below.size) hl (by omega)) (Zv (v) (Zv (.int .i64 (i : Int)) (Zv (.int .i64 z) (Zu (k := .i64) ((12 : Int) * z) (IntWalk.i64_in _ (by omega)) (Zu (k := .i64) (((i : Int) : Int) + ((12 : Int) * z)) (IntWalk.i64_in _ (by omega)) (Zu (k := .i64) (((((i : Int) : Int) + ((12 : Int) * z)) : Int) - 5) (IntWalk.i64_in _ (by omega)) (Zc (k := 88) (args := #[v, .int .i64 (((((i : Int) : Int) + ((12 : Int) * z)) : Int) - 5)]) (zC d) (fun w hO => by rw [show ((((i : Int) : Int) + ((12 : Int) * z)) : Int) - 5 = ((i + 12 * n - 5 : Nat) : Int) from by omega, ← hd]; exact genC_any v l (i + 12 * n - 5) w ((hv.below hO.below).more hO.below.size) hl (by omega)) ?_)))))))))))
    refine Zv (.agg #[.int .i64 c.e, .int .i64 c.v.maj, .int .i64 c.v.min, .int .i64 c.v.pat, .string (mkS c.v.pre), .string (mkS c.v.build), .bool c.aft, .int .i64 d.e, .int .i64 d.v.maj, .int .i64 d.v.min, .int .i64 d.v.pat, .string (mkS d.v.pre), .string (mkS d.v.build), .bool d.aft]) (Za (.agg #[.int .i64 0, .int .i64 0, .int .i64 0, .int .i64 0, .string ⟨#[]⟩, .string ⟨#[]⟩, .bool false, .int .i64 0, .int .i64 0, .int .i64 0, .int .i64 0, .string ⟨#[]⟩, .string ⟨#[]⟩, .bool false]) (fun b1 => Zs 0 ⟨b1, #[.int .i64 0, .int .i64 0, .int .i64 0, .int .i64 0, .string ⟨#[]⟩, .string ⟨#[]⟩, .bool false, .int .i64 0, .int .i64 0, .int .i64 0, .int .i64 0, .string ⟨#[]⟩, .string ⟨#[]⟩, .bool false], 74⟩ (off := 0) (.agg #[.int .i64 c.e, .int .i64 c.v.maj, .int .i64 c.v.min, .int .i64 c.v.pat, .string (mkS c.v.pre), .string (mkS c.v.build), .bool c.aft, .int .i64 d.e, .int .i64 d.v.maj, .int .i64 d.v.min, .int .i64 d.v.pat, .string (mkS d.v.pre), .string (mkS d.v.build), .bool d.aft]) (ZN (z8 (ZO (Zv (.pointer (some ⟨b1, 0, none⟩)) (Zl 0 ⟨b1, #[.int .i64 c.e, .int .i64 c.v.maj, .int .i64 c.v.min, .int .i64 c.v.pat, .string (mkS c.v.pre), .string (mkS c.v.build), .bool c.aft, .int .i64 d.e, .int .i64 d.v.maj, .int .i64 d.v.min, .int .i64 d.v.pat, .string (mkS d.v.pre), .string (mkS d.v.build), .bool d.aft], 74⟩ (off := 0) (.agg #[.int .i64 c.e, .int .i64 c.v.maj, .int .i64 c.v.min, .int .i64 c.v.pat, .string (mkS c.v.pre), .string (mkS c.v.build), .bool c.aft]) (Zv (.pointer (some ⟨b1, 7, none⟩)) (Zl 0 ⟨b1, #[.int .i64 c.e, .int .i64 c.v.maj, .int .i64 c.v.min, .int .i64 c.v.pat, .string (mkS c.v.pre), .string (mkS c.v.build), .bool c.aft, .int .i64 d.e, .int .i64 d.v.maj, .int .i64 d.v.min, .int .i64 d.v.pat, .string (mkS d.v.pre), .string (mkS d.v.build), .bool d.aft], 74⟩ (off := 7) (.agg #[.int .i64 d.e, .int .i64 d.v.maj, .int .i64 d.v.min, .int .i64 d.v.pat, .string (mkS d.v.pre), .string (mkS d.v.build), .bool d.aft]) ?_)))))))))
    refine Zc (k := 71) (args := #[.agg #[.int .i64 c.e, .int .i64 c.v.maj, .int .i64 c.v.min, .int .i64 c.v.pat, .string (mkS c.v.pre), .string (mkS c.v.build), .bool c.aft], .agg #[.int .i64 d.e, .int .i64 d.v.maj, .int .i64 d.v.min, .int .i64 d.v.pat, .string (mkS d.v.pre), .string (mkS d.v.build), .bool d.aft]]) (.int .i64 (zO c d)) (fun w _ => qY c d w hcS hdS) ?_
    by_cases h2 : (0 : Int) < zO c d
    · rw [show ordSp c d = ⟨d, c⟩ from if_pos h2] at hsp
      refine Zd (p := (0 : Int) < zO c d) true (decide_eq_true (h2)) (ZY (zA (Zv (.pointer (some ⟨b1, 7, none⟩)) (Zl 0 ⟨b1, #[.int .i64 c.e, .int .i64 c.v.maj, .int .i64 c.v.min, .int .i64 c.v.pat, .string (mkS c.v.pre), .string (mkS c.v.build), .bool c.aft, .int .i64 d.e, .int .i64 d.v.maj, .int .i64 d.v.min, .int .i64 d.v.pat, .string (mkS d.v.pre), .string (mkS d.v.build), .bool d.aft], 74⟩ (off := 7) (.agg #[.int .i64 d.e, .int .i64 d.v.maj, .int .i64 d.v.min, .int .i64 d.v.pat, .string (mkS d.v.pre), .string (mkS d.v.build), .bool d.aft]) (Zv (.pointer (some ⟨b1, 0, none⟩)) (Zl 0 ⟨b1, #[.int .i64 c.e, .int .i64 c.v.maj, .int .i64 c.v.min, .int .i64 c.v.pat, .string (mkS c.v.pre), .string (mkS c.v.build), .bool c.aft, .int .i64 d.e, .int .i64 d.v.maj, .int .i64 d.v.min, .int .i64 d.v.pat, .string (mkS d.v.pre), .string (mkS d.v.build), .bool d.aft], 74⟩ (off := 0) (.agg #[.int .i64 c.e, .int .i64 c.v.maj, .int .i64 c.v.min, .int .i64 c.v.pat, .string (mkS c.v.pre), .string (mkS c.v.build), .bool c.aft]) (Zv (.pointer (some ⟨b1, 0, none⟩)) (Zs 0 ⟨b1, #[.int .i64 c.e, .int .i64 c.v.maj, .int .i64 c.v.min, .int .i64 c.v.pat, .string (mkS c.v.pre), .string (mkS c.v.build), .bool c.aft, .int .i64 d.e, .int .i64 d.v.maj, .int .i64 d.v.min, .int .i64 d.v.pat, .string (mkS d.v.pre), .string (mkS d.v.build), .bool d.aft], 74⟩ (off := 0) (.agg #[.int .i64 d.e, .int .i64 d.v.maj, .int .i64 d.v.min, .int .i64 d.v.pat, .string (mkS d.v.pre), .string (mkS d.v.build), .bool d.aft]) (Zv (.pointer (some ⟨b1, 7, none⟩)) ?_)))))))))
      refine Zs 0 ⟨b1, #[.int .i64 d.e, .int .i64 d.v.maj, .int .i64 d.v.min, .int .i64 d.v.pat, .string (mkS d.v.pre), .string (mkS d.v.build), .bool d.aft, .int .i64 d.e, .int .i64 d.v.maj, .int .i64 d.v.min, .int .i64 d.v.pat, .string (mkS d.v.pre), .string (mkS d.v.build), .bool d.aft], 74⟩ (off := 7) (.agg #[.int .i64 c.e, .int .i64 c.v.maj, .int .i64 c.v.min, .int .i64 c.v.pat, .string (mkS c.v.pre), .string (mkS c.v.build), .bool c.aft]) (ZR (Zl 0 ⟨b1, #[.int .i64 d.e, .int .i64 d.v.maj, .int .i64 d.v.min, .int .i64 d.v.pat, .string (mkS d.v.pre), .string (mkS d.v.build), .bool d.aft, .int .i64 c.e, .int .i64 c.v.maj, .int .i64 c.v.min, .int .i64 c.v.pat, .string (mkS c.v.pre), .string (mkS c.v.build), .bool c.aft], 74⟩ (off := 0) (.agg #[.int .i64 d.e, .int .i64 d.v.maj, .int .i64 d.v.min, .int .i64 d.v.pat, .string (mkS d.v.pre), .string (mkS d.v.build), .bool d.aft, .int .i64 c.e, .int .i64 c.v.maj, .int .i64 c.v.min, .int .i64 c.v.pat, .string (mkS c.v.pre), .string (mkS c.v.build), .bool c.aft]) (Zc (k := 53) (args := #[.agg #[.int .i64 d.e, .int .i64 d.v.maj, .int .i64 d.v.min, .int .i64 d.v.pat, .string (mkS d.v.pre), .string (mkS d.v.build), .bool d.aft, .int .i64 c.e, .int .i64 c.v.maj, .int .i64 c.v.min, .int .i64 c.v.pat, .string (mkS c.v.pre), .string (mkS c.v.build), .bool c.aft]]) (.bool ((⟨d, c⟩ : Sp).may)) (fun w _ => gL ⟨d, c⟩ w ⟨hdS, hcS⟩) (zL (z7 ?_)))))
      cases h3 : (⟨d, c⟩ : Sp).may with
      | true =>
        refine Zt (zA (Zv (u) (Zl 0 ⟨b1, #[.int .i64 d.e, .int .i64 d.v.maj, .int .i64 d.v.min, .int .i64 d.v.pat, .string (mkS d.v.pre), .string (mkS d.v.build), .bool d.aft, .int .i64 c.e, .int .i64 c.v.maj, .int .i64 c.v.min, .int .i64 c.v.pat, .string (mkS c.v.pre), .string (mkS c.v.build), .bool c.aft], 74⟩ (off := 0) (.agg #[.int .i64 d.e, .int .i64 d.v.maj, .int .i64 d.v.min, .int .i64 d.v.pat, .string (mkS d.v.pre), .string (mkS d.v.build), .bool d.aft, .int .i64 c.e, .int .i64 c.v.maj, .int .i64 c.v.min, .int .i64 c.v.pat, .string (mkS c.v.pre), .string (mkS c.v.build), .bool c.aft]) (bG 74 #[.int .i64 d.e, .int .i64 d.v.maj, .int .i64 d.v.min, .int .i64 d.v.pat, .string (mkS d.v.pre), .string (mkS d.v.build), .bool d.aft, .int .i64 c.e, .int .i64 c.v.maj, .int .i64 c.v.min, .int .i64 c.v.pat, .string (mkS c.v.pre), .string (mkS c.v.build), .bool c.aft] (by kernel_rfl) rfl (fun _ => by kernel_rfl) (fun b2 => ?_)))))
        obtain ⟨i0, z0, e1, e2, e3, e4, e5⟩ := gD
        refine kI (L' := [⟨b2, #[.int .i64 d.e, .int .i64 d.v.maj, .int .i64 d.v.min, .int .i64 d.v.pat, .string (mkS d.v.pre), .string (mkS d.v.build), .bool d.aft, .int .i64 c.e, .int .i64 c.v.maj, .int .i64 c.v.min, .int .i64 c.v.pat, .string (mkS c.v.pre), .string (mkS c.v.build), .bool c.aft], 74⟩, ⟨b1, #[.int .i64 d.e, .int .i64 d.v.maj, .int .i64 d.v.min, .int .i64 d.v.pat, .string (mkS d.v.pre), .string (mkS d.v.build), .bool d.aft, .int .i64 c.e, .int .i64 c.v.maj, .int .i64 c.v.min, .int .i64 c.v.pat, .string (mkS c.v.pre), .string (mkS c.v.build), .bool c.aft], 74⟩] ++ ob ++ []) (by rw [List.append_assoc]; kernel_rfl) (qA (sz := 14) (by kernel_rfl) rfl Tryz.underlying22 e1 e2 e3 e4 (by kernel_rfl) hrel.sl (a := ⟨b2, 0, none⟩) (m := 1) (c := 1) (news := yB ⟨d, c⟩) (by kernel_rfl) rfl (fun w hO j u hj => ?_) (kP _) (by unfold maxLen; omega) (by rw [e5]; omega) (fun u2 ob2 hu2 => ?_))
        · rw [yM, cell_of_row w b2 (0 + j) (yB ⟨d, c⟩).toArray 74 _ (hO.held ⟨b2, (yB ⟨d, c⟩).toArray, 74⟩ (List.mem_append_left _ (List.mem_append_left _ (List.mem_cons_self ..))))]; simpa using hj
        exact Zv (u2) (zL (zR (z7 (zA (Zv (.int .i64 z) (Zu (k := .i64) ((z : Int) - 1) (IntWalk.i64_in _ (by omega)) (Zv (.int .i64 ((z : Int) - 1)) (zL (xT (L' := ob2 ++ []) (fun w hO => Own.mid hO) (zY (m' := (z - 1).toNat) (by omega) ⟨n - 1, z - 1, u2, _, ob2, _, hrel.grow (by omega) hsp (by assumption) hu2, rfl, ZU, rfl⟩))))))))))
      | false =>
        exact Zf (yT (zR (z7 (zA (Zv (.int .i64 z) (Zu (k := .i64) ((z : Int) - 1) (IntWalk.i64_in _ (by omega)) (Zv (.int .i64 ((z : Int) - 1)) (zL (xT (L' := ob ++ []) (fun w hO => Own.sub [_] hO) (zY (m' := (z - 1).toNat) (by omega) ⟨n - 1, z - 1, u, acc, ob, _, hrel.keep (by omega) hsp (by assumption), rfl, ZU, rfl⟩))))))))))
    rw [show ordSp c d = ⟨c, d⟩ from if_neg h2] at hsp
    refine Zd (p := (0 : Int) < zO c d) false (decide_eq_false (h2)) (ZX (ZB (ZO (Zl 0 ⟨b1, #[.int .i64 c.e, .int .i64 c.v.maj, .int .i64 c.v.min, .int .i64 c.v.pat, .string (mkS c.v.pre), .string (mkS c.v.build), .bool c.aft, .int .i64 d.e, .int .i64 d.v.maj, .int .i64 d.v.min, .int .i64 d.v.pat, .string (mkS d.v.pre), .string (mkS d.v.build), .bool d.aft], 74⟩ (off := 0) (.agg #[.int .i64 c.e, .int .i64 c.v.maj, .int .i64 c.v.min, .int .i64 c.v.pat, .string (mkS c.v.pre), .string (mkS c.v.build), .bool c.aft, .int .i64 d.e, .int .i64 d.v.maj, .int .i64 d.v.min, .int .i64 d.v.pat, .string (mkS d.v.pre), .string (mkS d.v.build), .bool d.aft]) (Zc (k := 53) (args := #[.agg #[.int .i64 c.e, .int .i64 c.v.maj, .int .i64 c.v.min, .int .i64 c.v.pat, .string (mkS c.v.pre), .string (mkS c.v.build), .bool c.aft, .int .i64 d.e, .int .i64 d.v.maj, .int .i64 d.v.min, .int .i64 d.v.pat, .string (mkS d.v.pre), .string (mkS d.v.build), .bool d.aft]]) (.bool ((⟨c, d⟩ : Sp).may)) (fun w _ => gL ⟨c, d⟩ w ⟨hcS, hdS⟩) (zL (z7 ?_)))))))
    cases h4 : (⟨c, d⟩ : Sp).may with
    | true =>
      refine Zt (zA (Zv (u) (Zl 0 ⟨b1, #[.int .i64 c.e, .int .i64 c.v.maj, .int .i64 c.v.min, .int .i64 c.v.pat, .string (mkS c.v.pre), .string (mkS c.v.build), .bool c.aft, .int .i64 d.e, .int .i64 d.v.maj, .int .i64 d.v.min, .int .i64 d.v.pat, .string (mkS d.v.pre), .string (mkS d.v.build), .bool d.aft], 74⟩ (off := 0) (.agg #[.int .i64 c.e, .int .i64 c.v.maj, .int .i64 c.v.min, .int .i64 c.v.pat, .string (mkS c.v.pre), .string (mkS c.v.build), .bool c.aft, .int .i64 d.e, .int .i64 d.v.maj, .int .i64 d.v.min, .int .i64 d.v.pat, .string (mkS d.v.pre), .string (mkS d.v.build), .bool d.aft]) (bG 74 #[.int .i64 c.e, .int .i64 c.v.maj, .int .i64 c.v.min, .int .i64 c.v.pat, .string (mkS c.v.pre), .string (mkS c.v.build), .bool c.aft, .int .i64 d.e, .int .i64 d.v.maj, .int .i64 d.v.min, .int .i64 d.v.pat, .string (mkS d.v.pre), .string (mkS d.v.build), .bool d.aft] (by kernel_rfl) rfl (fun _ => by kernel_rfl) (fun b2 => ?_)))))
      obtain ⟨i0, z0, e1, e2, e3, e4, e5⟩ := gD
      refine kI (L' := [⟨b2, #[.int .i64 c.e, .int .i64 c.v.maj, .int .i64 c.v.min, .int .i64 c.v.pat, .string (mkS c.v.pre), .string (mkS c.v.build), .bool c.aft, .int .i64 d.e, .int .i64 d.v.maj, .int .i64 d.v.min, .int .i64 d.v.pat, .string (mkS d.v.pre), .string (mkS d.v.build), .bool d.aft], 74⟩, ⟨b1, #[.int .i64 c.e, .int .i64 c.v.maj, .int .i64 c.v.min, .int .i64 c.v.pat, .string (mkS c.v.pre), .string (mkS c.v.build), .bool c.aft, .int .i64 d.e, .int .i64 d.v.maj, .int .i64 d.v.min, .int .i64 d.v.pat, .string (mkS d.v.pre), .string (mkS d.v.build), .bool d.aft], 74⟩] ++ ob ++ []) (by rw [List.append_assoc]; kernel_rfl) (qA (sz := 14) (by kernel_rfl) rfl Tryz.underlying22 e1 e2 e3 e4 (by kernel_rfl) hrel.sl (a := ⟨b2, 0, none⟩) (m := 1) (c := 1) (news := yB ⟨c, d⟩) (by kernel_rfl) rfl (fun w hO j u hj => ?_) (kP _) (by unfold maxLen; omega) (by rw [e5]; omega) (fun u2 ob2 hu2 => ?_))
      · rw [yM, cell_of_row w b2 (0 + j) (yB ⟨c, d⟩).toArray 74 _ (hO.held ⟨b2, (yB ⟨c, d⟩).toArray, 74⟩ (List.mem_append_left _ (List.mem_append_left _ (List.mem_cons_self ..))))]; simpa using hj
      exact Zv (u2) (zL (zR (z7 (zA (Zv (.int .i64 z) (Zu (k := .i64) ((z : Int) - 1) (IntWalk.i64_in _ (by omega)) (Zv (.int .i64 ((z : Int) - 1)) (zL (xT (L' := ob2 ++ []) (fun w hO => Own.mid hO) (zY (m' := (z - 1).toNat) (by omega) ⟨n - 1, z - 1, u2, _, ob2, _, hrel.grow (by omega) hsp (by assumption) hu2, rfl, ZU, rfl⟩))))))))))
    | false =>
      exact Zf (yT (zR (z7 (zA (Zv (.int .i64 z) (Zu (k := .i64) ((z : Int) - 1) (IntWalk.i64_in _ (by omega)) (Zv (.int .i64 ((z : Int) - 1)) (zL (xT (L' := ob ++ []) (fun w hO => Own.sub [_] hO) (zY (m' := (z - 1).toNat) (by omega) ⟨n - 1, z - 1, u, acc, ob, _, hrel.keep (by omega) hsp (by assumption), rfl, ZU, rfl⟩))))))))))
  have hz := hrel.z
  have hlen := hrel.len
  refine Zd (p := (0 : Int) < z) false (decide_eq_false (h1)) (ZX (xQ (yA (y5 (zW (z7 (ZO (Zv (u) ?_))))))))
  exact Zv (u) (ZN (zB (ZF (u) Tryz.results55 (fun w hO => ⟨u, ob, rfl, by have e := hrel.eq; rw [show n = 0 from by omega, show gA l i 0 = [] from rfl, List.append_nil] at e; rw [← e]; exact hrel.sl, by simpa using hO⟩))))
end
section
theorem spG_short (l : List Int) (i n : Nat) : (spG l i n).short := by
  unfold spG ordSp
  split
  · exact ⟨vX l _, vX l _⟩
  · exact ⟨vX l _, vX l _⟩
theorem nW (l : List Int) (i : Nat) : ∀ n, yL (gA l i n)
  | 0 => fun s hs => by simp [gA] at hs
  | n + 1 => fun s hs => by
    rw [show gA l i (n + 1) = (if (spG l i (n + 1)).may then [spG l i (n + 1)] else []) ++ gA l i n from rfl] at hs
    rcases List.mem_append.1 hs with h | h
    · split at h
      · obtain rfl : s = _ := by simpa using h
        exact spG_short l i _
      · simp at h
    · exact nW l i n s h
def rowG (l : List Int) (i : Nat) : List Sp := dR (gA l i (plc (atL l i) (4 + 1 : Nat)).toNat)
theorem row_any (v : Value) (l : List Int) (i : Nat) (W : World) (hv : ReadsI W W.heap.size v l) (hl : l.length ≤ 9223372036854775807) (hi : i ≤ 50000) :
    Calls Tryz.prog 33 #[v, .int .i64 (i : Int)] W fun e w' => ∃ v' ob', e = .returned v' ∧ SlS v' (rowG l i) ob' ∧ Own [] W w' ob' := by
  refine zM (n := 15) Tryz.func33 rfl (by kernel_rfl) (by kernel_rfl) (ZO (Zv (.slice none 0 0) (ZR (Zv (v) (Zv (.int .i64 (i : Int)) ?_)))))
  obtain ⟨q, hq⟩ : ∃ q, gA l i (plc (atL l i) (4 + 1 : Nat)).toNat = q := ⟨_, rfl⟩
  have hqm : ∀ s ∈ q, s.may = true := hq ▸ mM l i _
  have hqs : yL q := hq ▸ nW l i _
  have hqn : q.length ≤ 300000 := by rw [← hq]; have := mN l i (plc (atL l i) (4 + 1 : Nat)).toNat; have := t7 (atL l i) (4 + 1 : Nat) (by omega); omega
  refine y9 (k := 55) (args := #[v, .int .i64 (i : Int), .int .i64 4]) (fun v' L' => SlS v' q L') (by kernel_rfl) (fun _ => by kernel_rfl) (fun w hO => (spans_any v l i 4 w ((hv.below hO.below).more hO.below.size) hl (by omega) (by omega)).mono fun e w' ⟨v', ob', h1, h2, h3⟩ => ⟨v', ob', h1, by rw [hq] at h2; exact h2, by simpa using Own.joinN hO h3⟩) (fun sv os hsv => ?_)
  obtain ⟨C, capc, rfl⟩ := hsv.form
  refine y9 (k := 54) (args := #[.slice C q.length capc]) (fun v' L' => ∃ mv, v' = .tuple #[mv, .bool (gV q)] ∧ SlS mv (if gV q then dR q else []) L') (by kernel_rfl) (fun _ => by kernel_rfl) (fun w hO => (rmake_any C capc q w (Sl.reads hsv rfl hO (fun x hx => hx)) hqn hqs).mono fun e w' ⟨v', ob', h1, h2, h3⟩ => ⟨_, ob', h1, ⟨v', rfl, h2⟩, Own.take (Own.joinN hO h3) (fun x hx => List.mem_append_left _ hx) h3.apart⟩) (fun tv om htv => ?_)
  obtain ⟨mv, rfl, hmv⟩ := htv
  refine Zv (.tuple #[mv, .bool (gV q)]) (Zv (mv) (Zv (.bool (gV q)) (Zv (mv) (Zv (.bool (gV q)) (ZR (Zv (mv) (Zv (mv) (zL ?_))))))))
  exact z7 (zB (ZF (mv) Tryz.results33 (fun w hO => ⟨mv, om, rfl, by have hall : gV q = true := allMay_mem.2 hqm; rw [hall, if_pos rfl] at hmv; unfold rowG; rw [hq]; exact hmv, hO⟩)))
end
section
theorem rel_may (a b c : Int) : (Ver.rel a b c).may = (zV a && zV b && zV c) := by
  unfold Ver.may Ver.rel
  have h1 : qQ [] = true := by decide
  have h2 : kU [] = true := by decide
  dsimp only
  rw [h1, h2, Bool.and_true, Bool.and_true]
theorem may_nat3 {v : Ver} (h : v.may = true) : (0 ≤ v.maj ∧ v.maj ≤ 9999) ∧ (0 ≤ v.min ∧ v.min ≤ 9999) ∧ (0 ≤ v.pat ∧ v.pat ≤ 9999) := by
  obtain ⟨h1, h2, h3⟩ := vH h
  unfold zV at h1 h2 h3; simp at h1 h2 h3
  exact ⟨h1, h2, h3⟩
theorem up_ok {a : Int} (h : 0 ≤ a ∧ a ≤ 9999) : zV (a + 1) = !(a == 9999) := by
  unfold zV
  by_cases e : a = 9999
  · subst e; decide
  · have : (a == 9999) = false := by simpa using e
    rw [this]; simp; omega
theorem in_ok {a : Int} (h : 0 ≤ a ∧ a ≤ 9999) : zV a = true := by unfold zV; simp; omega
theorem bump_may {v : Ver} (h : v.may = true) (k : Nat) (hk : k < 3) : (bumpN v k).may = zZ v k := by
  obtain ⟨h1, h2, h3⟩ := may_nat3 h
  have hz : zV 0 = true := by decide
  match k, hk with
  | 0, _ =>
    show (Ver.rel (v.maj + 1) 0 0).may = _
    rw [rel_may, up_ok h1, hz]
    unfold zZ; rw [h, show v6 v.maj v.min v.pat ((0 : Nat) : Int).toNat = v.maj from rfl]; simp
  | 1, _ =>
    show (Ver.rel v.maj (v.min + 1) 0).may = _
    rw [rel_may, up_ok h2, hz, in_ok h1]
    unfold zZ; rw [h, show v6 v.maj v.min v.pat ((1 : Nat) : Int).toNat = v.min from rfl]; simp
  | 2, _ =>
    show (Ver.rel v.maj v.min (v.pat + 1)).may = _
    rw [rel_may, up_ok h3, in_ok h1, in_ok h2]
    unfold zZ; rw [h, show v6 v.maj v.min v.pat ((2 : Nat) : Int).toNat = v.pat from rfl]; simp
theorem gM {v u : Ver} {part : Int} {b : Bool} {w wr : World} {tmps : Array Value} {old : Array Value} (h2 : tmps.getD 4 undef = .pointer (some ⟨w.heap.size + 1, 0, none⟩)) (h3 : tmps.getD 5 undef = .bool b)
    (hg : wr.heap[w.heap.size + 1]? = some (.cells old 70)) (hbel : Below w.heap.size w wr) (hb : zZ v part = b) (hv : x3 v part = u) :
    bodyPost Tryz.prog Tryz.f173 (BEnd v part w) .ret ⟨tmps, []⟩ (wr.setRow (w.heap.size + 1) #[.int .i64 u.maj, .int .i64 u.min, .int .i64 u.pat, .string (mkS u.pre), .string (mkS u.build)]) := by
  have hrow := setRow_heap wr (w.heap.size + 1) _ #[.int .i64 u.maj, .int .i64 u.min, .int .i64 u.pat, .string (mkS u.pre), .string (mkS u.build)] _ _ hg
  have hr := run_loadVar_row (P := Tryz.prog) _ (w.heap.size + 1) 70 70 _ _ _ hrow Tryz.underlying70 rfl (by kernel_rfl)
  have h2' : tmps[4]?.getD undef = .pointer (some ⟨w.heap.size + 1, 0, none⟩) := by simpa using h2
  have h3' : tmps[5]?.getD undef = .bool b := by simpa using h3
  refine bodyPost_ret (v := .tuple #[zP u, .bool b]) (by simp [results, Tryz.results173, asAddr, h2', h3', hr, zP]) rfl ⟨by rw [hv, hb], xI hbel (by omega) _⟩
theorem rbump_go (v : Ver) (part : Int) (w : World) (hp : v.pre.length ≤ 1000000) (hq : v.build.length ≤ 1000000) :
    Calls Tryz.prog 173 #[zP v, .int .i64 part] w (BEnd v part w) := by
  have cM := fun w' => qD v w' hp hq
  obtain ⟨m, hm⟩ : ∃ m, v.may = m := ⟨_, rfl⟩
  rw [hm] at cM
  obtain ⟨a, b, c, p, q⟩ := v
  unfold zP at cM ⊢
  dsimp only at cM ⊢
  cases m with
  | false =>
    have HB : Hid (zZ ⟨a, b, c, p, q⟩ part = false) := by show _ = _; unfold zZ; rw [hm]; rfl
    clear hm
    go_enter Tryz.func173, Tryz.ntmps173
    go_wp2_with fail
    refine (cM _).mono ?_
    rintro e w1 ⟨rfl, hb1⟩
    have hgR := Lib.hid ((hb1.block (w.heap.size + 1) (by simp only [zE]; omega)).trans (vL _ _ _ (by simp only [zE])))
    have hbw : Below w.heap.size w w1 := (((Below.refl _ _).alloc (Nat.le_refl _) _).alloc (by simp only [zE]; omega) _).trans (hb1.mono (by simp only [zE]; omega))
    go_wp2_with (refine wpList_store_row rfl 70 _ _ rfl (w.heap.size + 1) #[.int .i64 0, .int .i64 0, .int .i64 0, .string ⟨#[]⟩, .string ⟨#[]⟩] rfl rfl _ _ hgR.out (by kernel_rfl) rfl (yS _ _ _ _ _) ?_)
    exact gM (u := Ver.zero) rfl rfl hgR.out hbw HB.out (by unfold x3; rw [HB.out]; rfl)
  | true =>
    have HM := Lib.hid hm
    obtain ⟨⟨a0, a9⟩, ⟨b0, b9⟩, ⟨c0, c9⟩⟩ := may_nat3 hm
    dsimp only at a0 a9 b0 b9 c0 c9
    clear hm
    go_enter Tryz.func173, Tryz.ntmps173
    go_wp2_with fail
    refine (cM _).mono ?_
    rintro e w1 ⟨rfl, hb1⟩
    have hz1 := hb1.size
    simp only [zE] at hz1
    have hgB := (hb1.block w.heap.size (by simp only [zE]; omega)).trans ((yO _ _ (by simp only [zE]; omega)).trans (yZ w _))
    have hgR := Lib.hid ((hb1.block (w.heap.size + 1) (by simp only [zE]; omega)).trans (vL _ _ _ (by simp only [zE])))
    have hbw : Below w.heap.size w w1 := (((Below.refl _ _).alloc (Nat.le_refl _) _).alloc (by simp only [zE]; omega) _).trans (hb1.mono (by simp only [zE]; omega))
    obtain ⟨k0, _⟩ := y6 (j := 0) hgB (by simp)
    obtain ⟨k1, _⟩ := y6 (j := 1) hgB (by simp)
    obtain ⟨k2, _⟩ := y6 (j := 2) hgB (by simp)
    simp only [List.getElem_toArray, List.getElem_cons_succ, List.getElem_cons_zero] at k0 k1 k2
    have hsB : w.heap.size < w1.heap.size := by omega
    clear hgB hb1 cM
    by_cases p0 : part < 0
    · have HB : Hid (zZ ⟨a, b, c, p, q⟩ part = false) := by show _ = _; unfold zZ; rw [decide_eq_false (by omega)]; simp
      go_wp2_with (refine wpList_store_row rfl 70 _ _ rfl (w.heap.size + 1) #[.int .i64 0, .int .i64 0, .int .i64 0, .string ⟨#[]⟩, .string ⟨#[]⟩] rfl rfl _ _ hgR.out (by kernel_rfl) rfl (yS _ _ _ _ _) ?_)
      exact gM (u := Ver.zero) rfl rfl hgR.out hbw HB.out (by unfold x3; rw [HB.out]; rfl)
    · by_cases p3 : 2 < part
      · have HB : Hid (zZ ⟨a, b, c, p, q⟩ part = false) := by show _ = _; unfold zZ; rw [decide_eq_false (by omega)]; simp
        go_wp2_with (refine wpList_store_row rfl 70 _ _ rfl (w.heap.size + 1) #[.int .i64 0, .int .i64 0, .int .i64 0, .string ⟨#[]⟩, .string ⟨#[]⟩] rfl rfl _ _ hgR.out (by kernel_rfl) rfl (yS _ _ _ _ _) ?_)
        exact gM (u := Ver.zero) rfl rfl hgR.out hbw HB.out (by unfold x3; rw [HB.out]; rfl)
      · have hpart : part = ((0 : Nat) : Int) ∨ part = ((1 : Nat) : Int) ∨ part = ((2 : Nat) : Int) := by omega
        clear p0 p3
        rcases hpart with rfl | rfl | rfl
        · have hmb := bump_may (v := ⟨a, b, c, p, q⟩) HM.out 0 (by omega)
          have cO := fun w' => qD (bumpN ⟨a, b, c, p, q⟩ 0) w' (by show (0 : Nat) ≤ _; omega) (by show (0 : Nat) ≤ _; omega)
          rw [hmb] at cO
          obtain ⟨o, ho⟩ : ∃ o, zZ ⟨a, b, c, p, q⟩ ((0 : Nat) : Int) = o := ⟨_, rfl⟩
          have hval : o = true → x3 ⟨a, b, c, p, q⟩ ((0 : Nat) : Int) = Ver.rel (a + 1) (0) (0) := fun h => by unfold x3; rw [ho, h]; rfl
          have hval2 : o = false → x3 ⟨a, b, c, p, q⟩ ((0 : Nat) : Int) = Ver.zero := fun h => by unfold x3; rw [ho, h]; rfl
          rw [ho] at cO
          have HO := Lib.hid ho
          have HV := Lib.hid hval
          have HV2 := Lib.hid hval2
          clear ho hval hval2 hmb
          rw [show bumpN ⟨a, b, c, p, q⟩ 0 = Ver.rel (a + 1) (0) (0) from rfl] at cO
          unfold zP Ver.rel at cO
          dsimp only at cO
          go_wp2_with fail
          refine (cO _).mono ?_
          rintro e w2 ⟨rfl, hb2⟩
          have hg2 := Lib.hid ((hb2.block (w.heap.size + 1) (by rw [zE]; omega)).trans ((yO w1 _ (by omega)).trans hgR.out))
          have hgV := Lib.hid ((hb2.block w1.heap.size (by rw [zE]; omega)).trans (yZ w1 _))
          have hbw2 : Below w.heap.size w w2 := (hbw.alloc (by omega) _).trans (hb2.mono (by rw [zE]; omega))
          cases o with
          | false =>
            go_wp2_with (refine wpList_store_row rfl 70 _ _ rfl (w.heap.size + 1) #[.int .i64 0, .int .i64 0, .int .i64 0, .string ⟨#[]⟩, .string ⟨#[]⟩] rfl rfl _ _ hg2.out (by kernel_rfl) rfl (yS _ _ _ _ _) ?_)
            exact gM (u := Ver.zero) rfl rfl hg2.out hbw2 HO.out (HV2.out trivial)
          | true =>
            go_wp2_with (first
              | (refine wpList_load_row rfl 70 _ rfl w1.heap.size rfl _ _ _ _ hgV.out Tryz.underlying70 rfl (by kernel_rfl) ?_)
              | (refine wpList_store_row rfl 70 _ _ rfl (w.heap.size + 1) _ rfl rfl _ _ hg2.out (by kernel_rfl) rfl (yS _ _ _ _ _) ?_))
            exact gM (u := Ver.rel (a + 1) (0) (0)) rfl rfl hg2.out hbw2 HO.out (HV.out trivial)
        · have hmb := bump_may (v := ⟨a, b, c, p, q⟩) HM.out 1 (by omega)
          have cO := fun w' => qD (bumpN ⟨a, b, c, p, q⟩ 1) w' (by show (0 : Nat) ≤ _; omega) (by show (0 : Nat) ≤ _; omega)
          rw [hmb] at cO
          obtain ⟨o, ho⟩ : ∃ o, zZ ⟨a, b, c, p, q⟩ ((1 : Nat) : Int) = o := ⟨_, rfl⟩
          have hval : o = true → x3 ⟨a, b, c, p, q⟩ ((1 : Nat) : Int) = Ver.rel (a) (b + 1) (0) := fun h => by unfold x3; rw [ho, h]; rfl
          have hval2 : o = false → x3 ⟨a, b, c, p, q⟩ ((1 : Nat) : Int) = Ver.zero := fun h => by unfold x3; rw [ho, h]; rfl
          rw [ho] at cO
          have HO := Lib.hid ho
          have HV := Lib.hid hval
          have HV2 := Lib.hid hval2
          clear ho hval hval2 hmb
          rw [show bumpN ⟨a, b, c, p, q⟩ 1 = Ver.rel (a) (b + 1) (0) from rfl] at cO
          unfold zP Ver.rel at cO
          dsimp only at cO
          go_wp2_with fail
          refine (cO _).mono ?_
          rintro e w2 ⟨rfl, hb2⟩
          have hg2 := Lib.hid ((hb2.block (w.heap.size + 1) (by rw [zE]; omega)).trans ((yO w1 _ (by omega)).trans hgR.out))
          have hgV := Lib.hid ((hb2.block w1.heap.size (by rw [zE]; omega)).trans (yZ w1 _))
          have hbw2 : Below w.heap.size w w2 := (hbw.alloc (by omega) _).trans (hb2.mono (by rw [zE]; omega))
          cases o with
          | false =>
            go_wp2_with (refine wpList_store_row rfl 70 _ _ rfl (w.heap.size + 1) #[.int .i64 0, .int .i64 0, .int .i64 0, .string ⟨#[]⟩, .string ⟨#[]⟩] rfl rfl _ _ hg2.out (by kernel_rfl) rfl (yS _ _ _ _ _) ?_)
            exact gM (u := Ver.zero) rfl rfl hg2.out hbw2 HO.out (HV2.out trivial)
          | true =>
            go_wp2_with (first
              | (refine wpList_load_row rfl 70 _ rfl w1.heap.size rfl _ _ _ _ hgV.out Tryz.underlying70 rfl (by kernel_rfl) ?_)
              | (refine wpList_store_row rfl 70 _ _ rfl (w.heap.size + 1) _ rfl rfl _ _ hg2.out (by kernel_rfl) rfl (yS _ _ _ _ _) ?_))
            exact gM (u := Ver.rel (a) (b + 1) (0)) rfl rfl hg2.out hbw2 HO.out (HV.out trivial)
        · have hmb := bump_may (v := ⟨a, b, c, p, q⟩) HM.out 2 (by omega)
          have cO := fun w' => qD (bumpN ⟨a, b, c, p, q⟩ 2) w' (by show (0 : Nat) ≤ _; omega) (by show (0 : Nat) ≤ _; omega)
          rw [hmb] at cO
          obtain ⟨o, ho⟩ : ∃ o, zZ ⟨a, b, c, p, q⟩ ((2 : Nat) : Int) = o := ⟨_, rfl⟩
          have hval : o = true → x3 ⟨a, b, c, p, q⟩ ((2 : Nat) : Int) = Ver.rel (a) (b) (c + 1) := fun h => by unfold x3; rw [ho, h]; rfl
          have hval2 : o = false → x3 ⟨a, b, c, p, q⟩ ((2 : Nat) : Int) = Ver.zero := fun h => by unfold x3; rw [ho, h]; rfl
          rw [ho] at cO
          have HO := Lib.hid ho
          have HV := Lib.hid hval
          have HV2 := Lib.hid hval2
          clear ho hval hval2 hmb
          rw [show bumpN ⟨a, b, c, p, q⟩ 2 = Ver.rel (a) (b) (c + 1) from rfl] at cO
          unfold zP Ver.rel at cO
          dsimp only at cO
          go_wp2_with fail
          refine (cO _).mono ?_
          rintro e w2 ⟨rfl, hb2⟩
          have hg2 := Lib.hid ((hb2.block (w.heap.size + 1) (by rw [zE]; omega)).trans ((yO w1 _ (by omega)).trans hgR.out))
          have hgV := Lib.hid ((hb2.block w1.heap.size (by rw [zE]; omega)).trans (yZ w1 _))
          have hbw2 : Below w.heap.size w w2 := (hbw.alloc (by omega) _).trans (hb2.mono (by rw [zE]; omega))
          cases o with
          | false =>
            go_wp2_with (refine wpList_store_row rfl 70 _ _ rfl (w.heap.size + 1) #[.int .i64 0, .int .i64 0, .int .i64 0, .string ⟨#[]⟩, .string ⟨#[]⟩] rfl rfl _ _ hg2.out (by kernel_rfl) rfl (yS _ _ _ _ _) ?_)
            exact gM (u := Ver.zero) rfl rfl hg2.out hbw2 HO.out (HV2.out trivial)
          | true =>
            go_wp2_with (first
              | (refine wpList_load_row rfl 70 _ rfl w1.heap.size rfl _ _ _ _ hgV.out Tryz.underlying70 rfl (by kernel_rfl) ?_)
              | (refine wpList_store_row rfl 70 _ _ rfl (w.heap.size + 1) _ rfl rfl _ _ hg2.out (by kernel_rfl) rfl (yS _ _ _ _ _) ?_))
            exact gM (u := Ver.rel (a) (b) (c + 1)) rfl rfl hg2.out hbw2 HO.out (HV.out trivial)
theorem rbump_any (v : Ver) (part : Int) (w : World) (hp : v.pre.length ≤ 1000000) (hq : v.build.length ≤ 1000000) :
    Calls Tryz.prog 173 #[zP v, .int .i64 part] w fun e w' => e = .returned (.tuple #[zP (x3 v part), .bool (zZ v part)]) ∧ Below w.heap.size w w' := rbump_go v part w hp hq
theorem d8 {v u : Ver} {b : Bool} {w wr : World} {tmps : Array Value} {old : Array Value} (h2 : tmps.getD 2 undef = .pointer (some ⟨w.heap.size + 1, 0, none⟩)) (h3 : tmps.getD 3 undef = .bool b)
    (hg : wr.heap[w.heap.size + 1]? = some (.cells old 70)) (hbel : Below w.heap.size w wr) (hb : x8 v = b) (hv : y8 v = u) :
    bodyPost Tryz.prog Tryz.f131 (NEnd v w) .ret ⟨tmps, []⟩ (wr.setRow (w.heap.size + 1) #[.int .i64 u.maj, .int .i64 u.min, .int .i64 u.pat, .string (mkS u.pre), .string (mkS u.build)]) := by
  have hrow := setRow_heap wr (w.heap.size + 1) _ #[.int .i64 u.maj, .int .i64 u.min, .int .i64 u.pat, .string (mkS u.pre), .string (mkS u.build)] _ _ hg
  have hr := run_loadVar_row (P := Tryz.prog) _ (w.heap.size + 1) 70 70 _ _ _ hrow Tryz.underlying70 rfl (by kernel_rfl)
  have h2' : tmps[2]?.getD undef = .pointer (some ⟨w.heap.size + 1, 0, none⟩) := by simpa using h2
  have h3' : tmps[3]?.getD undef = .bool b := by simpa using h3
  refine bodyPost_ret (v := .tuple #[zP u, .bool b]) (by simp [results, Tryz.results131, asAddr, h2', h3', hr, zP]) rfl ⟨by rw [hv, hb], xI hbel (by omega) _⟩
theorem rnext_go (v : Ver) (w : World) (hp : v.pre.length ≤ 1000000) (hq : v.build.length ≤ 1000000) :
    Calls Tryz.prog 131 #[zP v] w (NEnd v w) := by
  have cM := fun w' => qD v w' hp hq
  have ep := empty_mk2 v.pre
  obtain ⟨m, hm⟩ : ∃ m, v.may = m := ⟨_, rfl⟩
  rw [hm] at cM
  obtain ⟨a, b, c, p, q⟩ := v
  unfold zP at cM ⊢
  dsimp only at cM ep hp hq ⊢
  go_enter Tryz.func131, Tryz.ntmps131
  go_wp2_with fail
  refine (cM _).mono ?_
  rintro e w1 ⟨rfl, hb1⟩
  have hz1 := hb1.size
  simp only [zE] at hz1
  have hgB := (hb1.block w.heap.size (by simp only [zE]; omega)).trans ((yO _ _ (by simp only [zE]; omega)).trans (yZ w _))
  have hgR := (hb1.block (w.heap.size + 1) (by simp only [zE]; omega)).trans (vL _ _ _ (by simp only [zE]))
  have hbw : Below w.heap.size w w1 := (((Below.refl _ _).alloc (Nat.le_refl _) _).alloc (by simp only [zE]; omega) _).trans (hb1.mono (by simp only [zE]; omega))
  obtain ⟨k0, _⟩ := y6 (j := 0) hgB (by simp)
  obtain ⟨k1, _⟩ := y6 (j := 1) hgB (by simp)
  obtain ⟨k2, _⟩ := y6 (j := 2) hgB (by simp)
  obtain ⟨k3, _⟩ := y6 (j := 3) hgB (by simp)
  simp only [List.getElem_toArray, List.getElem_cons_succ, List.getElem_cons_zero] at k0 k1 k2 k3
  have HGB := Lib.hid hgB
  have HGR := Lib.hid hgR
  clear hgB hgR hb1 cM
  cases m with
  | false =>
    have HV : Hid (y8 ⟨a, b, c, p, q⟩ = Ver.zero) := by show _ = _; unfold y8; rw [if_neg (by simp [hm])]
    have HO : Hid (x8 ⟨a, b, c, p, q⟩ = false) := by show _ = _; unfold x8; rw [hm]; rfl
    clear hm
    go_wp2_with (refine wpList_store_row rfl 70 _ _ rfl (w.heap.size + 1) #[.int .i64 0, .int .i64 0, .int .i64 0, .string ⟨#[]⟩, .string ⟨#[]⟩] rfl rfl _ _ HGR.out (by kernel_rfl) rfl (yS _ _ _ _ _) ?_)
    exact d8 (u := Ver.zero) rfl rfl HGR.out hbw HO.out HV.out
  | true =>
    cases he : p.isEmpty with
    | true =>
      have HG : Hid ((!p.isEmpty && (Ver.mk a b c p q).may) = false) := by show _ = _; rw [he]; rfl
      rw [he] at ep
      clear he hm
      go_wp2
      go_loopw [4] (fun x wr => ∃ k : Nat, k ≤ 3 ∧ x = .int .i64 ((k : Int) - 1) ∧ wr.heap[w.heap.size]? = some (.cells #[.int .i64 a, .int .i64 b, .int .i64 c, .string (mkS p), .string (mkS q)] 70) ∧ wr.heap[w.heap.size + 1]? = some (.cells #[.int .i64 0, .int .i64 0, .int .i64 0, .string ⟨#[]⟩, .string ⟨#[]⟩] 70) ∧ Below w.heap.size w wr ∧ Hid (gG ⟨a, b, c, p, q⟩ k = gG ⟨a, b, c, p, q⟩ 3)) (fun x _ => ((intOf x) + 1).toNat)
      case atStart => exact ⟨3, by omega, rfl, HGB.out, HGR.out, hbw, rfl⟩
      case round =>
        obtain ⟨k, hk, rfl, hB, hR, hbel, HR⟩ := hrel
        have hlR := (Array.getElem?_eq_some_iff.1 hR).1
        have HB := Lib.hid hB
        have HR0 := Lib.hid hR
        clear hB hR
        cases k with
        | zero =>
          have HF : Hid (gG ⟨a, b, c, p, q⟩ 3 = (Ver.zero, false)) := HR.out.symm
          go_wp2_with (refine wpList_store_row rfl 70 _ _ rfl (w.heap.size + 1) #[.int .i64 0, .int .i64 0, .int .i64 0, .string ⟨#[]⟩, .string ⟨#[]⟩] rfl rfl _ _ HR0.out (by kernel_rfl) rfl (yS _ _ _ _ _) ?_)
          have hf := jQ ⟨a, b, c, p, q⟩ HG.out
          rw [HF.out] at hf
          exact d8 (u := Ver.zero) rfl rfl HR0.out hbel hf.2 hf.1
        | succ k =>
          have hk0 : (0 : Int) ≤ k := by omega
          have hke : (((k + 1 : Nat) : Int) - 1) = (k : Int) := by omega
          rw [hke]
          have cB := fun w' => rbump_any ⟨a, b, c, p, q⟩ (k : Int) w' hp hq
          unfold zP at cB
          dsimp only at cB
          cases hb : zZ ⟨a, b, c, p, q⟩ (k : Int) with
          | true =>
            rw [hb] at cB
            obtain ⟨u, hu⟩ : ∃ u, x3 ⟨a, b, c, p, q⟩ (k : Int) = u := ⟨_, rfl⟩
            rw [hu] at cB
            have hfq : gG ⟨a, b, c, p, q⟩ 3 = (u, true) := by rw [← HR.out, gG, hb, hu]; rfl
            have HF := Lib.hid hfq
            clear hfq hb hu hke
            go_wp2_with (first
              | (refine wpList_load_row rfl 70 _ rfl w.heap.size rfl _ _ _ _ HB.out Tryz.underlying70 rfl (by kernel_rfl) ?_)
              | (go_at_call 173; refine (cB _).mono ?_; rintro e w3 ⟨rfl, hb3⟩; have hR3 := Lib.hid ((hb3.block (w.heap.size + 1) hlR).trans HR0.out); have hbw3 := hbel.trans (hb3.mono hbel.size); have hl3 := Nat.lt_of_lt_of_le hlR hb3.size)
              | (refine wpList_store_row rfl 70 _ _ rfl (w.heap.size + 1) #[.int .i64 u.maj, .int .i64 u.min, .int .i64 u.pat, .string (mkS u.pre), .string (mkS u.build)] rfl rfl _ _ ((yO _ _ hl3).trans hR3.out) (by kernel_rfl) rfl (yS _ _ _ _ _) ?_))
            have hf := jQ ⟨a, b, c, p, q⟩ HG.out
            rw [HF.out] at hf
            exact d8 (u := u) rfl rfl ((yO _ _ hl3).trans hR3.out) (hbw3.alloc (by omega) _) hf.2 hf.1
          | false =>
            rw [hb] at cB
            obtain ⟨u, hu⟩ : ∃ u, x3 ⟨a, b, c, p, q⟩ (k : Int) = u := ⟨_, rfl⟩
            rw [hu] at cB
            have hfq : gG ⟨a, b, c, p, q⟩ k = gG ⟨a, b, c, p, q⟩ 3 := by rw [← HR.out, gG, hb]; rfl
            have HF := Lib.hid hfq
            clear hfq hb hu hke
            go_wp2_with (first
              | (refine wpList_load_row rfl 70 _ rfl w.heap.size rfl _ _ _ _ HB.out Tryz.underlying70 rfl (by kernel_rfl) ?_)
              | (go_at_call 173; refine (cB _).mono ?_; rintro e w3 ⟨rfl, hb3⟩; have hl3 := Nat.lt_of_lt_of_le hlR hb3.size))
            have hR3 := (hb3.block (w.heap.size + 1) hlR).trans HR0.out
            have hB3 := (hb3.block w.heap.size (by omega)).trans HB.out
            have hbw3 := hbel.trans (hb3.mono hbel.size)
            go_roundw
            case rel => exact ⟨k, by omega, rfl, (yO _ _ (by omega)).trans hB3, (yO _ _ hl3).trans hR3, hbw3.alloc (by omega) _, HF.out⟩
            case measure => simp [intOf]; try omega
    | false =>
      have HV : Hid (y8 ⟨a, b, c, p, q⟩ = Ver.rel a b c) := by show _ = _; unfold y8; rw [if_pos hm, if_neg (by simp [he])]
      have HO : Hid (x8 ⟨a, b, c, p, q⟩ = true) := by show _ = _; unfold x8; rw [hm]; simp [he]
      rw [he] at ep
      clear he hm
      go_wp2_with (refine wpList_store_row rfl 70 _ _ rfl (w.heap.size + 1) #[.int .i64 a, .int .i64 b, .int .i64 c, .string (mkS []), .string (mkS [])] rfl rfl _ _ HGR.out (by kernel_rfl) rfl (yS _ _ _ _ _) ?_)
      exact d8 (u := Ver.rel a b c) rfl rfl HGR.out hbw HO.out HV.out
theorem rnext_any (v : Ver) (w : World) (hp : v.pre.length ≤ 1000000) (hq : v.build.length ≤ 1000000) :
    Calls Tryz.prog 131 #[zP v] w fun e w' => e = .returned (.tuple #[zP (y8 v), .bool (x8 v)]) ∧ Below w.heap.size w w' := rnext_go v w hp hq
end
section
theorem hD (v : Ver) : (y8 v).pre = [] ∧ (y8 v).build = [] := by
  cases h : v.may with
  | false => unfold y8; rw [h]; exact ⟨rfl, rfl⟩
  | true =>
    rcases next_is h with ⟨h1, h2, _⟩ | ⟨_, a, b, c, e, _⟩
    · unfold x8 at h1
      rw [h, h2] at h1
      simp at h1
      unfold y8
      simp [h, h2, h1]
      exact ⟨rfl, rfl⟩
    · rw [e]; exact ⟨rfl, rfl⟩
theorem next_core (v : Ver) : yK (y8 v) = y8 v := by
  have h := (hD v).2
  generalize y8 v = u at h ⊢
  obtain ⟨a, b, c, p, q⟩ := u
  simp only at h; subst h; rfl
theorem next_short (v : Ver) : (y8 v).short := ⟨by rw [(hD v).1]; exact Nat.zero_le _, by rw [(hD v).2]; exact Nat.zero_le _⟩
theorem dA (v : Ver) : (kS v).short := ⟨by show ([] : List UInt8).length ≤ _; exact Nat.zero_le _, by show ([] : List UInt8).length ≤ _; exact Nat.zero_le _⟩
theorem rleast_any (v : Ver) (W : World) : Calls Tryz.prog 72 #[zP v] W fun e w' => e = .returned (.bool (gF v)) ∧ Below W.heap.size W w' := by
  refine zM (n := 16) Tryz.func72 rfl (by kernel_rfl) (by kernel_rfl) (ZO (Zb (zP v) (fun b1 => Zv (.bool false) (ZR (Zv (.pointer (some ⟨b1, 0, none⟩)) (Zl 0 ⟨b1, (zP v).cells, 70⟩ (off := 0) (.int .i64 v.maj) ?_))))))
  by_cases h1 : (v.maj : Int) = 0
  · refine xO (p := (v.maj : Int) = 0) true (by kernel_rfl) (fun _ => by kernel_rfl) (decide_eq_true (h1)) ?_
    refine Zv (.bool true) (Zv (.pointer (some ⟨b1, 1, none⟩)) (Zl 0 ⟨b1, (zP v).cells, 70⟩ (off := 1) (.int .i64 v.min) ?_))
    by_cases h2 : (v.min : Int) = 0
    · refine xO (p := (v.min : Int) = 0) true (by kernel_rfl) (fun _ => by kernel_rfl) (decide_eq_true (h2)) ?_
      refine Zv (.bool true) (Zv (.bool true) (Zv (.pointer (some ⟨b1, 2, none⟩)) (Zl 0 ⟨b1, (zP v).cells, 70⟩ (off := 2) (.int .i64 v.pat) ?_)))
      by_cases h3 : (v.pat : Int) = 0
      · refine xO (p := (v.pat : Int) = 0) true (by kernel_rfl) (fun _ => by kernel_rfl) (decide_eq_true (h3)) ?_
        exact Zv (.bool true) (Zv (.bool true) (ZN (zB (ZF (.bool true) Tryz.results72 (fun w hO => ⟨by simp [gF, h1, h2, h3], hO.below⟩)))))
      exact Zd (p := (v.pat : Int) = 0) false (decide_eq_false (h3)) (Zv (.bool false) (Zv (.bool false) (ZN (zB (ZF (.bool false) Tryz.results72 (fun w hO => ⟨by simp [gF, h1, h2, h3], hO.below⟩))))))
    refine Zd (p := (v.min : Int) = 0) false (decide_eq_false (h2)) (Zv (.bool false) (Zv (.bool false) (Zk (Zk (Zk (Zv (.bool false) (Zv (.bool false) (ZN (zB (ZF (.bool false) Tryz.results72 ?_))))))))))
    exact fun w hO => ⟨by simp [gF, h1, h2], hO.below⟩
  refine Zd (p := (v.maj : Int) = 0) false (decide_eq_false (h1)) (Zv (.bool false) (Zk (Zk (Zk (Zv (.bool false) (Zv (.bool false) (Zk (Zk (Zk (Zv (.bool false) (Zv (.bool false) ?_)))))))))))
  exact ZN (zB (ZF (.bool false) Tryz.results72 (fun w hO => ⟨by simp [gF, h1], hO.below⟩)))
theorem rright_any (c : Cu) (W : World) : Calls Tryz.prog 44 #[zC c] W fun e w' => e = .returned (.bool (yU c)) ∧ Below W.heap.size W w' := by
  refine zM (n := 23) Tryz.func44 rfl (by kernel_rfl) (by kernel_rfl) (ZO (Zb (zC c) (fun b1 => Zv (.bool false) (ZR (Zv (.pointer (some ⟨b1, 0, none⟩)) (Zl 0 ⟨b1, (zC c).cells, 72⟩ (off := 0) (.int .i64 c.e) ?_))))))
  by_cases h1 : (c.e : Int) = 0
  · refine wZ (p := (c.e : Int) = 0) true (by kernel_rfl) (fun _ => by kernel_rfl) (decide_eq_true (h1)) ?_
    refine Zv (.bool false) (Zv (.pointer (some ⟨b1, 6, none⟩)) (Zl 0 ⟨b1, (zC c).cells, 72⟩ (off := 6) (.bool c.aft) ?_))
    cases h2 : c.aft with
    | true =>
      refine Zv (.bool false) (Zv (.bool false) (Zk (Zk (Zk (Zk (Zv (.bool false) (Zv (.bool false) (Zk (Zk (Zk (Zk ?_)))))))))))
      exact Zv (.bool false) (Zv (.bool false) (Zv (.bool false) (ZN (zB (ZF (.bool false) Tryz.results44 (fun w hO => ⟨by simp [yU, h1, h2], hO.below⟩))))))
    | false =>
      refine Zv (.bool true) (Zv (.bool true) (Zv (.pointer (some ⟨b1, 1, none⟩)) (Zv (.pointer (some ⟨b1, 4, none⟩)) (Zl 0 ⟨b1, (zC c).cells, 72⟩ (off := 4) (.string (mkS c.v.pre)) ?_))))
      by_cases h3 : (c.v.pre : List UInt8) = []
      · refine zK (.bool true) (by kernel_rfl) (zI (a := c.v.pre) (b := ([])) rfl (by kernel_rfl) (by kernel_rfl) (decide_eq_true (h3))) ?_
        refine Zv (.bool true) (Zv (.bool true) (Zv (.pointer (some ⟨b1, 1, none⟩)) (Zl 0 ⟨b1, (zC c).cells, 72⟩ (off := 1) (.agg #[.int .i64 c.v.maj, .int .i64 c.v.min, .int .i64 c.v.pat, .string (mkS c.v.pre), .string (mkS c.v.build)]) (Zc (k := 72) (args := #[.agg #[.int .i64 c.v.maj, .int .i64 c.v.min, .int .i64 c.v.pat, .string (mkS c.v.pre), .string (mkS c.v.build)]]) (.bool (gF c.v)) (fun w _ => rleast_any c.v w) ?_))))
        cases h4 : gF c.v with
        | true =>
          exact Zv (.bool false) (Zv (.bool false) (Zv (.bool false) (Zv (.bool false) (ZN (zB (ZF (.bool false) Tryz.results44 (fun w hO => ⟨by simp [yU, h1, h2, h3, h4], hO.below⟩)))))))
        | false =>
          exact Zv (.bool true) (Zv (.bool true) (Zv (.bool true) (Zv (.bool true) (ZN (zB (ZF (.bool true) Tryz.results44 (fun w hO => ⟨by simp [yU, h1, h2, h3, h4], hO.below⟩)))))))
      refine zK (.bool false) (by kernel_rfl) (zI (a := c.v.pre) (b := ([])) rfl (by kernel_rfl) (by kernel_rfl) (decide_eq_false (h3))) (Zv (.bool false) (Zv (.bool false) (Zk (Zk (Zk (Zk (Zv (.bool false) (Zv (.bool false) (Zv (.bool false) (zL (z7 ?_)))))))))))
      exact zB (ZF (.bool false) Tryz.results44 (fun w hO => ⟨by simp [yU, h1, h2, h3], hO.below⟩))
  refine Zn (p := (c.e : Int) = 0) false (decide_eq_false (h1)) (Zv (.bool true) (Zk (Zk (Zk (Zk (Zk (Zk (Zk (Zk (Zk (Zk ?_)))))))))))
  exact Zk (Zk (Zk (Zk (Zk (Zv (.bool true) (Zv (.bool true) (ZN (zB (ZF (.bool true) Tryz.results44 (fun w hO => ⟨by simp [yU, h1], hO.below⟩))))))))))
theorem tW (v : Ver) (W : World) (hv : v.short) : Calls Tryz.prog 132 #[zP v] W fun e w' => e = .returned (zC ⟨0, yK v, false⟩) ∧ Below W.heap.size W w' := by
  refine zM (n := 6) Tryz.func132 rfl (by kernel_rfl) (by kernel_rfl) (ZO (Zb (zP v) (fun b1 => Za (.agg #[.int .i64 0, .int .i64 0, .int .i64 0, .int .i64 0, .string ⟨#[]⟩, .string ⟨#[]⟩, .bool false]) (fun b2 => ZR (Zl 1 ⟨b1, (zP v).cells, 70⟩ (off := 0) (zP v) (Zc (k := 174) (args := #[zP v]) (zP (yK v)) (fun w _ => rcore_any v w) (Zv (.agg #[.int .i64 0, .int .i64 ((yK v).maj), .int .i64 ((yK v).min), .int .i64 ((yK v).pat), .string (mkS (yK v).pre), .string (mkS (yK v).build), .bool false]) ?_)))))))
  exact Zs 0 ⟨b2, #[.int .i64 0, .int .i64 0, .int .i64 0, .int .i64 0, .string ⟨#[]⟩, .string ⟨#[]⟩, .bool false], 72⟩ (off := 0) (.agg #[.int .i64 0, .int .i64 ((yK v).maj), .int .i64 ((yK v).min), .int .i64 ((yK v).pat), .string (mkS (yK v).pre), .string (mkS (yK v).build), .bool false]) (ZN (zB (ZC 0 ⟨b2, #[.int .i64 0, .int .i64 ((yK v).maj), .int .i64 ((yK v).min), .int .i64 ((yK v).pat), .string (mkS (yK v).pre), .string (mkS (yK v).build), .bool false], 72⟩ (off := 0) (.agg #[.int .i64 0, .int .i64 ((yK v).maj), .int .i64 ((yK v).min), .int .i64 ((yK v).pat), .string (mkS (yK v).pre), .string (mkS (yK v).build), .bool false]) Tryz.results132 (fun w hO => ⟨rfl, hO.below⟩))))
theorem rahead_any (v : Ver) (W : World) (hv : v.short) : Calls Tryz.prog 82 #[zP v] W fun e w' => e = .returned (zC (wJ v)) ∧ Below W.heap.size W w' := by
  refine zM (n := 14) Tryz.func82 rfl (by kernel_rfl) (by kernel_rfl) (ZO (Zb (zP v) (fun b1 => Za (.agg #[.int .i64 0, .int .i64 0, .int .i64 0, .int .i64 0, .string ⟨#[]⟩, .string ⟨#[]⟩, .bool false]) (fun b2 => ZN (z8 (ZO (Zl 1 ⟨b1, (zP v).cells, 70⟩ (off := 0) (zP v) (Zc (k := 72) (args := #[zP v]) (.bool (gF v)) (fun w _ => rleast_any v w) ?_))))))))
  refine zL (z7 ?_)
  cases h1 : gF v with
  | true =>
    exact Zt (ZO (Zc (k := 62) (args := #[]) (zC (zQ (-1))) (fun w _ => mR w) (Zs 0 ⟨b2, #[.int .i64 0, .int .i64 0, .int .i64 0, .int .i64 0, .string ⟨#[]⟩, .string ⟨#[]⟩, .bool false], 72⟩ (off := 0) (zC (zQ (-1))) (ZN (zB (z6 (ZC 0 ⟨b2, (zC (zQ (-1))).cells, 72⟩ (off := 0) (zC (zQ (-1))) Tryz.results82 (fun w hO => ⟨by unfold wJ; rw [h1]; rfl, hO.below⟩))))))))
  | false =>
    refine Zf (ZB (ZO (Zv (.pointer (some ⟨b1, 0, none⟩)) (Zl 1 ⟨b1, (zP v).cells, 70⟩ (off := 0) (.int .i64 v.maj) (Zv (.pointer (some ⟨b1, 1, none⟩)) (Zl 1 ⟨b1, (zP v).cells, 70⟩ (off := 1) (.int .i64 v.min) (Zv (.pointer (some ⟨b1, 2, none⟩)) (Zl 1 ⟨b1, (zP v).cells, 70⟩ (off := 2) (.int .i64 v.pat) (Zv (.agg #[.int .i64 v.maj, .int .i64 v.min, .int .i64 v.pat, .string ⟨#[]⟩, .string ⟨#[]⟩]) ?_)))))))))
    exact Zc (k := 132) (args := #[.agg #[.int .i64 v.maj, .int .i64 v.min, .int .i64 v.pat, .string ⟨#[]⟩, .string ⟨#[]⟩]]) (zC ⟨0, yK (kS v), false⟩) (fun w _ => tW (kS v) w (dA v)) (Zs 0 ⟨b2, #[.int .i64 0, .int .i64 0, .int .i64 0, .int .i64 0, .string ⟨#[]⟩, .string ⟨#[]⟩, .bool false], 72⟩ (off := 0) (zC ⟨0, yK (kS v), false⟩) (ZN (zB (ZC 0 ⟨b2, (zC ⟨0, yK (kS v), false⟩).cells, 72⟩ (off := 0) (zC ⟨0, yK (kS v), false⟩) Tryz.results82 (fun w hO => ⟨by unfold wJ; rw [h1]; rfl, hO.below⟩)))))
theorem rbehind_any (v : Ver) (W : World) (hv : v.short) : Calls Tryz.prog 81 #[zP v] W fun e w' => e = .returned (zC (hZ v)) ∧ Below W.heap.size W w' := by
  have hnc : yK (y8 (kS v)) = y8 (kS v) := next_core (kS v)
  have hns : (y8 (kS v)).short := next_short (kS v)
  refine zM (n := 21) Tryz.func81 rfl (by kernel_rfl) (by kernel_rfl) (ZO (Zb (zP v) (fun b1 => Za (.agg #[.int .i64 0, .int .i64 0, .int .i64 0, .int .i64 0, .string ⟨#[]⟩, .string ⟨#[]⟩, .bool false]) (fun b2 => ZR (Zv (.pointer (some ⟨b1, 0, none⟩)) (Zl 1 ⟨b1, (zP v).cells, 70⟩ (off := 0) (.int .i64 v.maj) (Zv (.pointer (some ⟨b1, 1, none⟩)) ?_)))))))
  refine Zl 1 ⟨b1, (zP v).cells, 70⟩ (off := 1) (.int .i64 v.min) (Zv (.pointer (some ⟨b1, 2, none⟩)) (Zl 1 ⟨b1, (zP v).cells, 70⟩ (off := 2) (.int .i64 v.pat) (Zv (.agg #[.int .i64 v.maj, .int .i64 v.min, .int .i64 v.pat, .string ⟨#[]⟩, .string ⟨#[]⟩]) (Zc (k := 131) (args := #[.agg #[.int .i64 v.maj, .int .i64 v.min, .int .i64 v.pat, .string ⟨#[]⟩, .string ⟨#[]⟩]]) (.tuple #[zP (y8 (kS v)), .bool (x8 (kS v))]) (fun w _ => rnext_any (kS v) w (dA v).1 (dA v).2) (Zv (.tuple #[zP (y8 (kS v)), .bool (x8 (kS v))]) (Zv (zP (y8 (kS v))) (Zv (.bool (x8 (kS v))) (Za (.agg #[.int .i64 0, .int .i64 0, .int .i64 0, .string ⟨#[]⟩, .string ⟨#[]⟩]) (fun b3 => Zs 0 ⟨b3, #[.int .i64 0, .int .i64 0, .int .i64 0, .string ⟨#[]⟩, .string ⟨#[]⟩], 70⟩ (off := 0) (zP (y8 (kS v))) (Zv (.bool (x8 (kS v))) (zL ?_)))))))))))
  refine z7 (z8 (ZO (Zv (.bool (x8 (kS v))) ?_)))
  cases h1 : x8 (kS v) with
  | true =>
    refine Zv (.bool false) (ZX (ZB (ZO (Zl 0 ⟨b3, (zP (y8 (kS v))).cells, 70⟩ (off := 0) (zP (y8 (kS v))) (Zc (k := 132) (args := #[zP (y8 (kS v))]) (zC ⟨0, yK (y8 (kS v)), false⟩) (fun w _ => tW (y8 (kS v)) w hns) (Zs 1 ⟨b2, #[.int .i64 0, .int .i64 0, .int .i64 0, .int .i64 0, .string ⟨#[]⟩, .string ⟨#[]⟩, .bool false], 72⟩ (off := 0) (zC ⟨0, yK (y8 (kS v)), false⟩) (zL ?_)))))))
    exact z7 (zB (ZC 1 ⟨b2, (zC ⟨0, yK (y8 (kS v)), false⟩).cells, 72⟩ (off := 0) (zC ⟨0, yK (y8 (kS v)), false⟩) Tryz.results81 (fun w hO => ⟨by unfold hZ; rw [h1]; first | rfl | (rw [hnc]; rfl), hO.below⟩)))
  | false =>
    refine Zv (.bool true) (ZY (ZO (Zc (k := 63) (args := #[]) (zC (zQ 1)) (fun w _ => pY w) (Zs 1 ⟨b2, #[.int .i64 0, .int .i64 0, .int .i64 0, .int .i64 0, .string ⟨#[]⟩, .string ⟨#[]⟩, .bool false], 72⟩ (off := 0) (zC (zQ 1)) (ZN (zB (z6 ?_)))))))
    exact ZC 1 ⟨b2, (zC (zQ 1)).cells, 72⟩ (off := 0) (zC (zQ 1)) Tryz.results81 (fun w hO => ⟨by unfold hZ; rw [h1]; first | rfl | (rw [hnc]; rfl), hO.below⟩)
theorem j3 (c : Cu) (W : World) (hc : c.v.short) : Calls Tryz.prog 52 #[zC c] W fun e w' => e = .returned (zC (k7 c)) ∧ Below W.heap.size W w' := by
  refine zM (n := 21) Tryz.func52 rfl (by kernel_rfl) (by kernel_rfl) (ZO (Zb (zC c) (fun b1 => Za (.agg #[.int .i64 0, .int .i64 0, .int .i64 0, .int .i64 0, .string ⟨#[]⟩, .string ⟨#[]⟩, .bool false]) (fun b2 => ZN (z8 (ZO (Zv (.pointer (some ⟨b1, 0, none⟩)) (Zl 1 ⟨b1, (zC c).cells, 72⟩ (off := 0) (.int .i64 c.e) ?_))))))))
  by_cases h1 : (c.e : Int) = 0
  · refine wZ (p := (c.e : Int) = 0) true (by kernel_rfl) (fun _ => by kernel_rfl) (decide_eq_true (h1)) ?_
    refine ZX (ZB (z8 (ZO (Zv (.pointer (some ⟨b1, 6, none⟩)) (Zl 1 ⟨b1, (zC c).cells, 72⟩ (off := 6) (.bool c.aft) (Zv (.bool c.aft) ?_))))))
    cases h2 : c.aft with
    | true =>
      refine Zv (.pointer (some ⟨b1, 1, none⟩)) (Zv (.pointer (some ⟨b1, 4, none⟩)) (Zl 1 ⟨b1, (zC c).cells, 72⟩ (off := 4) (.string (mkS c.v.pre)) ?_))
      by_cases h3 : (c.v.pre : List UInt8) = []
      · refine zK (.bool true) (by kernel_rfl) (zI (a := c.v.pre) (b := ([])) rfl (by kernel_rfl) (by kernel_rfl) (decide_eq_true (h3))) ?_
        refine Zv (.bool true) (ZY (ZO (Zv (.pointer (some ⟨b1, 1, none⟩)) (Zl 1 ⟨b1, (zC c).cells, 72⟩ (off := 1) (.agg #[.int .i64 c.v.maj, .int .i64 c.v.min, .int .i64 c.v.pat, .string (mkS c.v.pre), .string (mkS c.v.build)]) (Zc (k := 81) (args := #[.agg #[.int .i64 c.v.maj, .int .i64 c.v.min, .int .i64 c.v.pat, .string (mkS c.v.pre), .string (mkS c.v.build)]]) (zC (hZ c.v)) (fun w _ => rbehind_any c.v w hc) (Zs 0 ⟨b2, #[.int .i64 0, .int .i64 0, .int .i64 0, .int .i64 0, .string ⟨#[]⟩, .string ⟨#[]⟩, .bool false], 72⟩ (off := 0) (zC (hZ c.v)) (zL (z7 ?_))))))))
        exact zB (z6 (ZC 0 ⟨b2, (zC (hZ c.v)).cells, 72⟩ (off := 0) (zC (hZ c.v)) Tryz.results52 (fun w hO => ⟨by unfold k7; simp [h1, h2, h3], hO.below⟩)))
      refine zK (.bool false) (by kernel_rfl) (zI (a := c.v.pre) (b := ([])) rfl (by kernel_rfl) (by kernel_rfl) (decide_eq_false (h3))) (Zv (.bool false) (ZX (ZB (ZO (Zv (.pointer (some ⟨b1, 1, none⟩)) (Zl 1 ⟨b1, (zC c).cells, 72⟩ (off := 1) (.agg #[.int .i64 c.v.maj, .int .i64 c.v.min, .int .i64 c.v.pat, .string (mkS c.v.pre), .string (mkS c.v.build)]) (Zc (k := 82) (args := #[.agg #[.int .i64 c.v.maj, .int .i64 c.v.min, .int .i64 c.v.pat, .string (mkS c.v.pre), .string (mkS c.v.build)]]) (zC (wJ c.v)) (fun w _ => rahead_any c.v w hc) ?_)))))))
      exact Zs 0 ⟨b2, #[.int .i64 0, .int .i64 0, .int .i64 0, .int .i64 0, .string ⟨#[]⟩, .string ⟨#[]⟩, .bool false], 72⟩ (off := 0) (zC (wJ c.v)) (ZN (zB (ZC 0 ⟨b2, (zC (wJ c.v)).cells, 72⟩ (off := 0) (zC (wJ c.v)) Tryz.results52 (fun w hO => ⟨by unfold k7; simp [h1, h2, h3], hO.below⟩))))
    | false =>
      refine Zk (Zk (Zk (Zk (Zv (.bool false) (ZX (ZB (z8 (zA ?_))))))))
      exact Zv (.pointer (some ⟨b1, 1, none⟩)) (Zl 1 ⟨b1, (zC c).cells, 72⟩ (off := 1) (.agg #[.int .i64 c.v.maj, .int .i64 c.v.min, .int .i64 c.v.pat, .string (mkS c.v.pre), .string (mkS c.v.build)]) (Zc (k := 82) (args := #[.agg #[.int .i64 c.v.maj, .int .i64 c.v.min, .int .i64 c.v.pat, .string (mkS c.v.pre), .string (mkS c.v.build)]]) (zC (wJ c.v)) (fun w _ => rahead_any c.v w hc) (Zs 0 ⟨b2, #[.int .i64 0, .int .i64 0, .int .i64 0, .int .i64 0, .string ⟨#[]⟩, .string ⟨#[]⟩, .bool false], 72⟩ (off := 0) (zC (wJ c.v)) (ZN (zB (ZC 0 ⟨b2, (zC (wJ c.v)).cells, 72⟩ (off := 0) (zC (wJ c.v)) Tryz.results52 (fun w hO => ⟨by unfold k7; simp [h1, h2], hO.below⟩)))))))
  refine Zn (p := (c.e : Int) = 0) false (decide_eq_false (h1)) (ZY (ZO (Zl 1 ⟨b1, (zC c).cells, 72⟩ (off := 0) (zC c) (Zs 0 ⟨b2, #[.int .i64 0, .int .i64 0, .int .i64 0, .int .i64 0, .string ⟨#[]⟩, .string ⟨#[]⟩, .bool false], 72⟩ (off := 0) (zC c) (ZN (zB (z6 ?_)))))))
  exact ZC 0 ⟨b2, (zC c).cells, 72⟩ (off := 0) (zC c) Tryz.results52 (fun w hO => ⟨by unfold k7; simp [h1], hO.below⟩)
theorem rnone_any (W : World) : Calls Tryz.prog 51 #[] W fun e w' => e = .returned (.agg #[.slice none 0 0, .slice none 0 0]) ∧ Below W.heap.size W w' := by
  refine zM (n := 2) Tryz.func51 rfl (by kernel_rfl) (by kernel_rfl) (ZO (Za (.agg #[.slice none 0 0, .slice none 0 0]) (fun b1 => ZR (Zv (.agg #[.slice none 0 0, .slice none 0 0]) (Zs 0 ⟨b1, #[.slice none 0 0, .slice none 0 0], 24⟩ (off := 0) (.agg #[.slice none 0 0, .slice none 0 0]) (zL (z7 ?_)))))))
  exact zB (ZC 0 ⟨b1, #[.slice none 0 0, .slice none 0 0], 24⟩ (off := 0) (.agg #[.slice none 0 0, .slice none 0 0]) Tryz.results51 (fun w hO => ⟨rfl, hO.below⟩))
end
section
structure SetIn (w : World) (B : Nat) (A A' : Option Addr) (a : St) : Prop where
  rel : Reads yB w B A a.rel
  pre : Reads yB w B A' a.pre
  lr : a.rel.length ≤ 100000
  lp : a.pre.length ≤ 100000
  sr : yL a.rel
  sp : yL a.pre
theorem SetIn.on {w w' : World} {B B' : Nat} {A A' : Option Addr} {a : St} (h : SetIn w B A A' a) (hb : Below B w w') (hB : B ≤ B') : SetIn w' B' A A' a := ⟨h.rel.on hb hB, h.pre.on hb hB, h.lr, h.lp, h.sr, h.sp⟩
theorem all_take (p : Sp → Bool) {l : List Sp} {k : Nat} (hk : k < l.length) (h : (l.take k).all p = true) (hs : p l[k] = true) : (l.take (k + 1)).all p = true := by
  rw [List.take_succ_eq_append_getElem hk, List.all_append, h]
  simp [hs]
theorem all_not (p : Sp → Bool) {l : List Sp} {k : Nat} (hk : k < l.length) (hs : p l[k] = false) : l.all p = false := by
  cases h : l.all p with
  | false => rfl
  | true => rw [List.all_eq_true.1 h _ (List.getElem_mem hk)] at hs; cases hs
theorem rsetMay_any (A B : Option Addr) (c d : Nat) (a : St) (W : World) (hs : SetIn W W.heap.size A B a) : Calls Tryz.prog 25 #[.agg #[.slice A a.rel.length c, .slice B a.pre.length d]] W fun e w' => e = .returned (.bool a.may) ∧ Below W.heap.size W w' := by
  refine zM (n := 39) Tryz.func25 rfl (by kernel_rfl) (by kernel_rfl) (ZO (Zb (.agg #[.slice A a.rel.length c, .slice B a.pre.length d]) (fun b1 => Zv (.bool false) (ZN (z8 (ZO (Zv (.pointer (some ⟨b1, 0, none⟩)) (Zl 0 ⟨b1, #[.slice A a.rel.length c, .slice B a.pre.length d], 24⟩ (off := 0) (.slice A a.rel.length c) ?_))))))))
  refine Zc (k := 43) (args := #[.slice A a.rel.length c]) (.bool (zS a.rel)) (fun w hO => wN A c a.rel w (hs.rel.on hO.below hO.below.size) (Nat.le_trans hs.lr (by decide)) hs.sr) ?_
  cases h1 : zS a.rel with
  | true =>
    refine Zv (.bool false) (Zv (.bool false) (Zv (.pointer (some ⟨b1, 1, none⟩)) (Zl 0 ⟨b1, #[.slice A a.rel.length c, .slice B a.pre.length d], 24⟩ (off := 1) (.slice B a.pre.length d) (Zc (k := 43) (args := #[.slice B a.pre.length d]) (.bool (zS a.pre)) (fun w hO => wN B d a.pre w (hs.pre.on hO.below hO.below.size) (Nat.le_trans hs.lp (by decide)) hs.sp) ?_))))
    cases h2 : zS a.pre with
    | true =>
      refine Zv (.bool false) (Zv (.bool false) (ZX (ZB (z8 (ZO (Zv (.int .i64 0) (zL ?_)))))))
      refine z7 (zX (kH (fun L f m => ∃ (k : Nat) (j : Nat → Value), (k ≤ a.rel.length ∧ (a.rel.take k).all (fun x => yU x.lo && yU x.hi) = true) ∧ L = [⟨b1, #[.slice A a.rel.length c, .slice B a.pre.length d], 24⟩] ∧ f = jD j [(1, .pointer (some ⟨b1, 0, none⟩)), (3, .int .i64 (k : Int))] ∧ m = a.rel.length - k) (a.rel.length - 0) ⟨0, _, ⟨Nat.zero_le _, by rw [List.take_zero]; rfl⟩, rfl, ZU, rfl⟩ ?_))
      rintro L f m ⟨k, j, hrel, rfl, rfl, rfl⟩
      have hkl := hrel.1; have hln := hs.lr
      refine z8 (ZO (Zv (.int .i64 (k : Int)) (Zv (.pointer (some ⟨b1, 0, none⟩)) (Zl 0 ⟨b1, #[.slice A a.rel.length c, .slice B a.pre.length d], 24⟩ (off := 0) (.slice A a.rel.length c) (Zv (.int .i64 (a.rel.length : Int)) ?_)))))
      by_cases h3 : (k : Int) < (a.rel.length : Int)
      · have hk : k < a.rel.length := by omega
        obtain ⟨b, off, hA, hlt, hcell⟩ := hs.rel (by omega)
        obtain ⟨s, he⟩ : ∃ s, a.rel[k] = s := ⟨_, rfl⟩
        refine Zd (p := (k : Int) < (a.rel.length : Int)) true (decide_eq_true (h3)) (ZY (ZB (z8 (zX (ZO (Zv (.pointer (some ⟨b1, 0, none⟩)) (Zl 0 ⟨b1, #[.slice A a.rel.length c, .slice B a.pre.length d], 24⟩ (off := 0) (.slice A a.rel.length c) ?_)))))))
        refine Zv (.int .i64 (k : Int)) (zK (.pointer (some ⟨b, off + k * 14, none⟩)) (by kernel_rfl) (ZA (b := b) (off := off) (c := c) (n := a.rel.length) (k := .i64) (j := (k : Int)) (e := 74) (sz := 14) hA) (Zv (.pointer (some ⟨b, off + k * 14 + 0, none⟩)) (Zo (zC s.lo) (a := ⟨b, off + k * 14 + 0, none⟩) (fun w hO => yH yD (fun j u h => (hO.below.cell (p := ⟨b, off + j, none⟩) hlt).trans (hcell j u h)) k 0 hk (by omega) _ (by rw [he]; kernel_rfl)) (Zc (k := 44) (args := #[zC s.lo]) (.bool (yU s.lo)) (fun w _ => rright_any s.lo w) ?_))))
        cases h4 : yU s.lo with
        | true =>
          refine Zv (.bool false) (Zv (.bool false) (Zv (.pointer (some ⟨b1, 0, none⟩)) (Zl 0 ⟨b1, #[.slice A a.rel.length c, .slice B a.pre.length d], 24⟩ (off := 0) (.slice A a.rel.length c) (Zv (.int .i64 (k : Int)) (zK (.pointer (some ⟨b, off + k * 14, none⟩)) (by kernel_rfl) (ZA (b := b) (off := off) (c := c) (n := a.rel.length) (k := .i64) (j := (k : Int)) (e := 74) (sz := 14) hA) (Zv (.pointer (some ⟨b, off + k * 14 + 7, none⟩)) (Zo (zC s.hi) (a := ⟨b, off + k * 14 + 7, none⟩) (fun w hO => yH yD (fun j u h => (hO.below.cell (p := ⟨b, off + j, none⟩) hlt).trans (hcell j u h)) k 7 hk (by omega) _ (by rw [he]; kernel_rfl)) (Zc (k := 44) (args := #[zC s.hi]) (.bool (yU s.hi)) (fun w _ => rright_any s.hi w) ?_))))))))
          cases h5 : yU s.hi with
          | true =>
            refine Zv (.bool false) (Zv (.bool false) (ZX (yT (zR (z7 (zA (Zv (.int .i64 (k : Int)) (Zu (k := .i64) (((k + 1 : Nat) : Int)) (IntWalk.i64_in _ (by omega)) (Zv (.int .i64 ((k + 1 : Nat) : Int)) ?_)))))))))
            refine zL ?_
            have hnext : (a.rel.take (k + 1)).all (fun x => yU x.lo && yU x.hi) = true := all_take _ hk hrel.2 (by simp [he, h1, h2, h3, h4, h5])
            exact zY (m' := a.rel.length - (k + 1)) (by omega) ⟨k + 1, _, ⟨by omega, hnext⟩, rfl, ZU, rfl⟩
          | false =>
            refine Zv (.bool true) (Zv (.bool true) (ZY (ZO (Zv (.bool false) (ZN (zB (zD ?_)))))))
            exact z6 (yG (zD (z6 (ZF (.bool false) Tryz.results25 (fun w hO => ⟨by unfold St.may; rw [all_not _ hk (by simp [he, h1, h2, h3, h4, h5])]; simp, hO.below⟩)))))
        | false =>
          refine Zv (.bool true) (Zv (.bool true) (Zk (Zk (Zk (Zk (Zk (Zk (Zk (Zk (Zv (.bool true) (zL ?_)))))))))))
          refine z7 (Zt (ZO (Zv (.bool false) (ZN (zB (zD (z6 (yG (zD ?_)))))))))
          exact z6 (ZF (.bool false) Tryz.results25 (fun w hO => ⟨by unfold St.may; rw [all_not _ hk (by simp [he, h1, h2, h3, h4])]; simp, hO.below⟩))
      have hall : a.rel.all (fun x => yU x.lo && yU x.hi) = true := by have h := hrel.2; rwa [List.take_of_length_le (by omega)] at h
      refine Zd (p := (k : Int) < (a.rel.length : Int)) false (decide_eq_false (h3)) (ZX (xQ (yA (y5 (zW (z7 (ZO (Zv (.bool true) ?_))))))))
      exact ZN (zB (ZF (.bool true) Tryz.results25 (fun w hO => ⟨by unfold St.may; simp [hall, h1, h2, h3], hO.below⟩)))
    | false =>
      refine Zv (.bool true) (Zv (.bool true) (ZY (ZO (Zv (.bool false) (ZN (zB (z6 ?_)))))))
      exact ZF (.bool false) Tryz.results25 (fun w hO => ⟨by unfold St.may; simp [h1, h2], hO.below⟩)
  | false =>
    refine Zv (.bool true) (Zv (.bool true) (Zk (Zk (Zk (Zk (Zv (.bool true) (ZY (z8 (zA ?_)))))))))
    exact Zv (.bool false) (ZN (zB (z6 (ZF (.bool false) Tryz.results25 (fun w hO => ⟨by unfold St.may; simp [h1], hO.below⟩)))))
theorem qH (A B A' B' : Option Addr) (c d c' d' : Nat) (a b : St) (W : World) (hs : SetIn W W.heap.size A B a) (ht : SetIn W W.heap.size A' B' b) : Calls Tryz.prog 15 #[.agg #[.slice A a.rel.length c, .slice B a.pre.length d], .agg #[.slice A' b.rel.length c', .slice B' b.pre.length d']] W fun e w' => e = .returned (.bool (decide (a.rel = b.rel) && decide (a.pre = b.pre))) ∧ Below W.heap.size W w' := by
  refine zM (n := 17) Tryz.func15 rfl (by kernel_rfl) (by kernel_rfl) (ZO (Zb (.agg #[.slice A a.rel.length c, .slice B a.pre.length d]) (fun b1 => Zb (.agg #[.slice A' b.rel.length c', .slice B' b.pre.length d']) (fun b2 => Zv (.bool false) (ZR (Zv (.pointer (some ⟨b1, 0, none⟩)) (Zl 1 ⟨b1, #[.slice A a.rel.length c, .slice B a.pre.length d], 24⟩ (off := 0) (.slice A a.rel.length c) ?_)))))))
  refine Zv (.pointer (some ⟨b2, 0, none⟩)) (Zl 0 ⟨b2, #[.slice A' b.rel.length c', .slice B' b.pre.length d'], 24⟩ (off := 0) (.slice A' b.rel.length c') (Zc (k := 31) (args := #[.slice A a.rel.length c, .slice A' b.rel.length c']) (.bool (decide (a.rel = b.rel))) (fun w hO => rsame_any A A' c c' a.rel b.rel w (hs.rel.on hO.below hO.size) (ht.rel.on hO.below hO.size) (Nat.le_trans hs.lr (by decide)) (Nat.le_trans ht.lr (by decide))) (Zv (.bool (decide (a.rel = b.rel))) ?_)))
  cases h1 : decide (a.rel = b.rel) with
  | true =>
    exact Zv (.pointer (some ⟨b1, 1, none⟩)) (Zl 1 ⟨b1, #[.slice A a.rel.length c, .slice B a.pre.length d], 24⟩ (off := 1) (.slice B a.pre.length d) (Zv (.pointer (some ⟨b2, 1, none⟩)) (Zl 0 ⟨b2, #[.slice A' b.rel.length c', .slice B' b.pre.length d'], 24⟩ (off := 1) (.slice B' b.pre.length d') (Zc (k := 31) (args := #[.slice B a.pre.length d, .slice B' b.pre.length d']) (.bool (decide (a.pre = b.pre))) (fun w hO => rsame_any B B' d d' a.pre b.pre w (hs.pre.on hO.below hO.size) (ht.pre.on hO.below hO.size) (Nat.le_trans hs.lp (by decide)) (Nat.le_trans ht.lp (by decide))) (Zv (.bool (decide (a.pre = b.pre))) (Zv (.bool (decide (a.pre = b.pre))) (ZN (zB (ZF (.bool (decide (a.pre = b.pre))) Tryz.results15 (fun w hO => ⟨by simp [h1], hO.below⟩))))))))))
  | false =>
    exact Zk (Zk (Zk (Zk (Zk (Zv (.bool false) (Zv (.bool false) (ZN (zB (ZF (.bool false) Tryz.results15 (fun w hO => ⟨by simp [h1], hO.below⟩))))))))))
end
section
section
variable {M : List Nat} {P : Program} {n : Nat} {ops : Array Oper} {W : World} {L0 : List Blk} {Q : Exit → Act → World → Prop} {fuel : Nat} {listed : Array Bool} {L : List Blk} {f : Nat → Value}
end
theorem kG {M : List Nat} {W w : World} {L : List Blk} (h : Own M W w L) : Own M W w [] := h.sublist (List.nil_sublist _)
end
section
theorem sls_cap {A : Option Addr} {n c : Nat} {l : List Sp} {ob : List Blk} (h : SlS (.slice A n c) l ob) : l.length ≤ c := by
  rcases h.2 with ⟨h1, h2, _⟩ | ⟨g, c', cur, h1, _, h3, _⟩
  · rw [h2]; exact Nat.zero_le _
  · simp only [Value.slice.injEq] at h1
    rw [h1.2.2]; exact h3
def SetO (v : Value) (a : St) (ob : List Blk) : Prop := ∃ v1 v2 o1 o2, v = .agg #[v1, v2] ∧ ob = o2 ++ o1 ∧ SlS v1 a.rel o1 ∧ SlS v2 a.pre o2
theorem SetO.form {v : Value} {a : St} {ob : List Blk} (h : SetO v a ob) : ∃ A B c d, v = .agg #[.slice A a.rel.length c, .slice B a.pre.length d] := by
  obtain ⟨v1, v2, o1, o2, rfl, _, h1, h2⟩ := h
  obtain ⟨A, c, rfl⟩ := h1.form
  obtain ⟨B, d, rfl⟩ := h2.form
  exact ⟨A, B, c, d, rfl⟩
theorem agg_two {a b c d : Value} (h : (Value.agg #[a, b]) = .agg #[c, d]) : a = c ∧ b = d := by
  injection h with h
  have h2 := congrArg Array.toList h
  simp only [List.cons.injEq, and_true] at h2
  exact h2
theorem SetO.inn {A B : Option Addr} {c d n : Nat} {a : St} {ob L : List Blk} {M : List Nat} {W w : World} (h : SetO (.agg #[.slice A a.rel.length c, .slice B a.pre.length d]) a ob) (hO : Own M W w L) (hob : ∀ x ∈ ob, x ∈ L) (hf : SF a n) (hn : n ≤ 100000) : SetIn w w.heap.size A B a := by
  obtain ⟨v1, v2, o1, o2, e, rfl, h1, h2⟩ := h
  obtain ⟨rfl, rfl⟩ := agg_two e
  exact ⟨Sl.reads h1 rfl hO (fun x hx => hob x (by simp [hx])), Sl.reads h2 rfl hO (fun x hx => hob x (by simp [hx])), Nat.le_trans hf.rel.len hn, Nat.le_trans hf.pre.len hn, hf.rel.short, hf.pre.short⟩
theorem SetO.caps {A B : Option Addr} {c d : Nat} {a : St} {ob : List Blk} (h : SetO (.agg #[.slice A a.rel.length c, .slice B a.pre.length d]) a ob) : a.rel.length ≤ c ∧ a.pre.length ≤ d := by
  obtain ⟨v1, v2, o1, o2, e, rfl, h1, h2⟩ := h
  obtain ⟨rfl, rfl⟩ := agg_two e
  exact ⟨sls_cap h1, sls_cap h2⟩
theorem SetO.none : SetO (.agg #[.slice none 0 0, .slice none 0 0]) xV [] := ⟨_, _, [], [], rfl, rfl, Sl.nil _ _, Sl.nil _ _⟩
end
section
def coV (c : Co) : Value := .agg #[.int .i64 c.op, .int .i64 c.parts, .int .i64 c.v.maj, .int .i64 c.v.min, .int .i64 c.v.pat, .string (mkS c.v.pre), .string (mkS c.v.build)]
def Co.short (c : Co) : Prop := c.v.short
def toldV (p : Int) (v : Ver) : Ver := ⟨if p < 1 then 0 else v.maj, if p < 2 then 0 else v.min, if p < 3 then 0 else v.pat, if p < 3 then [] else v.pre, []⟩
def genCo (l : List Int) (i : Nat) : Co :=
  ⟨1 + plc (atL l (i + 5)) 9, if 1 + plc (atL l (i + 5)) 9 = 9 then plc (atL l (i + 6)) 3 else 1 + plc (atL l (i + 6)) 3, toldV (if 1 + plc (atL l (i + 5)) 9 = 9 then plc (atL l (i + 6)) 3 else 1 + plc (atL l (i + 6)) 3) (xS l i)⟩
end
section
end
section
end
section
def SlT (v : Value) (l : List (List UInt8)) (ob : List Blk) : Prop := Sl 9 1 v l.length (d5 l) ob
theorem SlT.form {v : Value} {l : List (List UInt8)} {ob : List Blk} (h : SlT v l ob) : ∃ A cap, v = .slice A l.length cap := by
  rcases h.2 with ⟨h1, h2, _⟩ | ⟨g, cap, cur, h1, _⟩
  · exact ⟨none, 0, by rw [h1, h2]⟩
  · exact ⟨_, _, h1⟩
theorem Own.row {w w' : World} {T sz n : Nat} {v : Value} {xs : List Value} (h : w'.ownsRow w.heap.size T sz v n xs) (hb : Below w.heap.size w w') : ∃ ob, Sl T sz v n xs ob ∧ Own [] w w' ob := by
  rcases h.2 with ⟨h1, h2⟩ | ⟨g, cap, cur, h1, h2, h3, h4, h5, h6, h7⟩
  · exact ⟨[], ⟨h.1, .inl ⟨h1, h2, rfl⟩⟩, ⟨hb.os, hb.tape, hb.output, hb.size, hb.drawn, fun k hk _ => hb.block k hk, by simp, by simp, by simp⟩⟩
  · refine ⟨[⟨g, cur, T⟩], ⟨h.1, .inr ⟨g, cap, cur, h1, rfl, h4, h5, h6, h7⟩⟩, ⟨hb.os, hb.tape, hb.output, hb.size, hb.drawn, fun k hk _ => hb.block k hk, ?_, ?_, by simp⟩⟩
    · intro x hx
      rw [List.mem_singleton.1 hx]; exact h3
    · intro x hx
      rw [List.mem_singleton.1 hx]; exact .inl h2
def strC (x : List UInt8) : List Value := [.string (mkS x)]
theorem q9 (x : List UInt8) : (strC x).length = 1 := rfl
theorem pU : ∀ (l : List (List UInt8)), d5 l = l.flatMap strC
  | [] => rfl
  | x :: l => by
    show Value.string (mkS x) :: d5 l = [Value.string (mkS x)] ++ l.flatMap strC
    rw [pU l]; rfl
theorem SlT.reads {A : Option Addr} {n cap : Nat} {l : List (List UInt8)} {ob L : List Blk} {M : List Nat} {W w : World} (h : SlT (.slice A n cap) l ob) (hn : l.length = n) (hO : Own M W w L) (hs : ∀ x ∈ ob, x ∈ L) : Reads strC w w.heap.size A l := by
  subst hn
  unfold SlT at h
  rw [pU] at h
  exact Sl.reads h rfl hO hs
theorem slt_lit (l : List (List UInt8)) (b : Nat) (cur : Array Value) (h : cur.toList = d5 l) (hm : l.length ≤ maxLen) : SlT (.slice (some ⟨b, 0, none⟩) l.length l.length) l [⟨b, cur, 9⟩] := by
  have hc : cur.toList.length = l.length := by rw [h, dT]
  refine ⟨by rw [dT]; omega, .inr ⟨b, l.length, cur, rfl, rfl, Nat.le_refl _, hm, by rw [← Array.length_toList, hc]; omega, ?_⟩⟩
  rw [h]
  exact List.take_of_length_le (by rw [dT]; omega)
end
section
theorem mk_take (s : List UInt8) (j : Nat) : (mkS s).extract 0 j = mkS (s.take j) := by rw [qW, mk_data]; simp
theorem mk_drop (s : List UInt8) (j : Nat) : (mkS s).extract j (mkS s).size = mkS (s.drop j) := by
  rw [qW, mk_data, yC]
  congr 1
  exact List.take_of_length_le (by rw [List.length_drop]; omega)
theorem pX {P : Program} {ρ : Operand → Value} {o : Oper} {t : TypeId} {x z : Operand} {s : List UInt8} {k : IntKind} {j : Int} (ho : o.op = .slice t x none (some z) none) (hx : ρ x = .string (mkS s)) (hz : ρ z = .int k j)
    (hu : P.underlying t = some .string) (h0 : 0 ≤ j) (h1 : j ≤ s.length) (w : World) : (execOp ρ o).run P w = .ok (.value (.string (mkS (s.take j.toNat)))) w := by
  unfold execOp
  have h2 : j ≤ ((mkS s).size : Int) := by rw [yC]; exact h1
  simp [ho, hx, hz, Instr.sliceAt, Instr.slice, Instr.sliceBounds, Instr.sliceBound, Sem.run_bind, asIntOf, run_underlying hu, h0, h2, mk_take]
theorem jJ {P : Program} {ρ : Operand → Value} {o : Oper} {t : TypeId} {x y : Operand} {s : List UInt8} {k : IntKind} {j : Int} (ho : o.op = .slice t x (some y) none none) (hx : ρ x = .string (mkS s)) (hy : ρ y = .int k j)
    (hu : P.underlying t = some .string) (h0 : 0 ≤ j) (h1 : j ≤ s.length) (w : World) : (execOp ρ o).run P w = .ok (.value (.string (mkS (s.drop j.toNat)))) w := by
  unfold execOp
  have h2 : j ≤ ((mkS s).size : Int) := by rw [yC]; exact h1
  simp [ho, hx, hy, Instr.sliceAt, Instr.slice, Instr.sliceBounds, Instr.sliceBound, Sem.run_bind, asIntOf, run_underlying hu, h0, h2, mk_drop]
theorem yQ {P : Program} {ρ : Operand → Value} {o : Oper} {t t' : TypeId} {x y : Operand} {a b : List UInt8} (ho : o.op = .binOp .add t x y t') (hx : ρ x = .string (mkS a)) (hy : ρ y = .string (mkS b)) (hb : a.length + b.length ≤ 4000000000) (w : World) : (execOp ρ o).run P w = .ok (.value (.string (mkS (a ++ b)))) w := by
  unfold execOp
  have h1 : ¬ (9223372036854775807 : Int) < ((mkS a).size : Int) + ((mkS b).size : Int) := by rw [yC, yC]; omega
  simp [ho, hx, hy, Sem.run_bind, eqGuard, binOp, Op.stringOp, xR, h1]
section
variable {M : List Nat} {P : Program} {n0 : Nat} {ops : Array Oper} {W : World} {Q : Exit → Act → World → Prop} {rest : List Oper} {o : Oper} {L : List Blk} {f : Nat → Value}
end
section
variable {M : List Nat} {P : Program} {n : Nat} {ops : Array Oper} {W : World} {L0 : List Blk} {Q : Exit → Act → World → Prop} {fuel : Nat} {listed : Array Bool} {f : Nat → Value}
end
end
section
def highZ (v : Ver) (z : Int) : Cu := if z < 0 then zQ 1 else highC v z.toNat
end
section
end
section
theorem rplace_any (s : List UInt8) (c : UInt8) (w : World) (hs : s.length ≤ 1000000) :
    Calls Tryz.prog 171 #[.string (mkS s), .int .u8 c.toNat] w fun e w' => e = .returned (.int .i64 ((zN c s).1.length : Nat)) ∧ w = w' := by
  have hz : (mkS s).size ≤ 1000000 := by rw [yC]; exact hs
  have HZ := Lib.hid (yC s)
  go_enter Tryz.func171, Tryz.ntmps171
  go_wp2
  go_loop [5] (fun i => ∃ k : Nat, k ≤ (mkS s).size ∧ i = .int .i64 k ∧ Hid (k + (zN c (s.drop k)).1.length = (zN c s).1.length)) (fun i => (mkS s).size - (intOf i).toNat)
  case atStart => exact ⟨0, Nat.zero_le _, rfl, by show 0 + _ = _; rw [List.drop_zero, Nat.zero_add]⟩
  case round =>
    obtain ⟨k, hk, rfl, HR⟩ := hrel
    by_cases hp : k < (mkS s).size
    · have hd0 := qJ (mkS s) k hp
      rw [mk_data] at hd0
      have HD := Lib.hid hd0
      clear hd0
      by_cases hc : (mkS s)[k]'hp = c
      · have hcb : ((((mkS s)[k]'hp).toNat : Int) == (c.toNat : Int)) = true := by rw [hc]; simp
        have hk2 : k = (zN c s).1.length := by
          rw [← HR.out, HD.out, hc, zN, if_pos rfl]; rfl
        have HK := Lib.hid hk2
        clear hc hk2
        go_wp2
        go_ret
        exact ⟨xX (by rw [← HK.out]), rfl⟩
      · have hcb : ((((mkS s)[k]'hp).toNat : Int) == (c.toNat : Int)) = false := bA (fun e => hc (UInt8.toNat_inj.1 (by omega)))
        have hq : k + 1 + (zN c (s.drop (k + 1))).1.length = (zN c s).1.length := by
          rw [← HR.out, HD.out, zN, if_neg hc]; simp; omega
        have HQ := Lib.hid hq
        clear hc hq
        go_wp2
        go_round
        case rel => exact ⟨k + 1, by omega, by go_num, HQ.out⟩
        case measure => simp [intOf]; omega
    · have hd0 := wE (mkS s) k hp
      rw [mk_data] at hd0
      have hk2 : (mkS s).size = (zN c s).1.length := by
        rw [← HR.out, hd0]; show _ = k + 0; omega
      have HK := Lib.hid hk2
      clear hd0 hk2
      go_wp2
      go_ret
      exact ⟨xX (by rw [← HK.out]), rfl⟩
def wI (l : List (List UInt8)) : Ver := if l.length = 3 then ⟨x7 (tg l 0), x7 (tg l 1), x7 (tg l 2), [], []⟩ else Ver.zero
def triB (l : List (List UInt8)) : Bool := decide (l.length = 3) && (kT (tg l 0) && kT (tg l 1) && kT (tg l 2))
theorem tg_get (l : List (List UInt8)) (k : Nat) (h : k < l.length) : l[k] = tg l k := by unfold tg; rw [List.getElem?_eq_getElem h]; rfl
theorem rthree_any (g : Nat) (cap : Nat) (l : List (List UInt8)) (w : World) (hlt : g < w.heap.size) (hc : ∀ j (h : j < l.length), w.cell? ⟨g, j, none⟩ = some (.string (mkS l[j]))) (hx : ∀ x ∈ l, x.length ≤ 1000000) :
    Calls Tryz.prog 172 #[.slice (some ⟨g, 0, none⟩) l.length cap] w fun e w' => e = .returned (.tuple #[zP (wI l), .bool (triB l)]) ∧ Below w.heap.size w w' := by
  by_cases h3 : l.length = 3
  · have k0 := hc 0 (by omega)
    have k1 := hc 1 (by omega)
    have k2 := hc 2 (by omega)
    rw [tg_get] at k0 k1 k2
    have t0 : (tg l 0).length ≤ maxLen := by have := hx _ (List.getElem_mem (by omega : 0 < l.length)); rw [tg_get] at this; unfold maxLen; omega
    have t1 : (tg l 1).length ≤ maxLen := by have := hx _ (List.getElem_mem (by omega : 1 < l.length)); rw [tg_get] at this; unfold maxLen; omega
    have t2 : (tg l 2).length ≤ maxLen := by have := hx _ (List.getElem_mem (by omega : 2 < l.length)); rw [tg_get] at this; unfold maxLen; omega
    have n0 := fun w' => vT (tg l 0) w' t0
    have n1 := fun w' => vT (tg l 1) w' t1
    have n2 := fun w' => vT (tg l 2) w' t2
    have HV : Hid (wI l = ⟨x7 (tg l 0), x7 (tg l 1), x7 (tg l 2), [], []⟩) := by show _ = _; unfold wI; rw [if_pos h3]
    have HB : Hid (triB l = (kT (tg l 0) && kT (tg l 1) && kT (tg l 2))) := by show _ = _; unfold triB; rw [decide_eq_true h3, Bool.true_and]
    obtain ⟨x0, e0⟩ : ∃ x, x7 (tg l 0) = x := ⟨_, rfl⟩
    obtain ⟨x1, e1⟩ : ∃ x, x7 (tg l 1) = x := ⟨_, rfl⟩
    obtain ⟨x2, e2⟩ : ∃ x, x7 (tg l 2) = x := ⟨_, rfl⟩
    obtain ⟨g0, d0⟩ : ∃ x, kT (tg l 0) = x := ⟨_, rfl⟩
    obtain ⟨g1, d1⟩ : ∃ x, kT (tg l 1) = x := ⟨_, rfl⟩
    obtain ⟨g2, d2⟩ : ∃ x, kT (tg l 2) = x := ⟨_, rfl⟩
    rw [e0, d0] at n0
    rw [e1, d1] at n1
    rw [e2, d2] at n2
    rw [e0, e1, e2] at HV
    rw [d0, d1, d2] at HB
    have HL := Lib.hid h3
    rw [h3]
    have q0 : ∀ o1 o2, ((w.alloc o1).alloc o2).cell? ⟨g, 0, none⟩ = some (.string (mkS (tg l 0))) := fun o1 o2 => by
      rw [World.cell?_alloc_lt _ _ _ (by rw [zE]; show g < _; omega), World.cell?_alloc_lt _ _ _ hlt]; exact k0
    have q1 : ∀ o1 o2, ((w.alloc o1).alloc o2).cell? ⟨g, 1, none⟩ = some (.string (mkS (tg l 1))) := fun o1 o2 => by
      rw [World.cell?_alloc_lt _ _ _ (by rw [zE]; show g < _; omega), World.cell?_alloc_lt _ _ _ hlt]; exact k1
    have q2 : ∀ o1 o2, ((w.alloc o1).alloc o2).cell? ⟨g, 2, none⟩ = some (.string (mkS (tg l 2))) := fun o1 o2 => by
      rw [World.cell?_alloc_lt _ _ _ (by rw [zE]; show g < _; omega), World.cell?_alloc_lt _ _ _ hlt]; exact k2
    clear e0 e1 e2 d0 d1 d2 hc h3 hx k0 k1 k2
    go_enter Tryz.func172, Tryz.ntmps172
    go_wp2_with fail
    refine (n0 _).mono ?_
    rintro e w1 ⟨rfl, rfl⟩
    go_wp2_with fail
    refine (n1 _).mono ?_
    rintro e w1 ⟨rfl, rfl⟩
    go_wp2_with fail
    refine (n2 _).mono ?_
    rintro e w1 ⟨rfl, rfl⟩
    cases g0 <;> cases g1
    all_goals
      go_wp2
      exact bodyPost_ret (v := .tuple #[zP (wI l), .bool (triB l)]) (by rw [HV.out, HB.out]; simp [results, Tryz.results172, go_sem, zP, mkS]) rfl ⟨rfl, ((Below.refl _ _).alloc (Nat.le_refl _) _).alloc (by simp) _⟩
  · have h3i : ((l.length : Int) != 3) = true := by simp; omega
    have HV : Hid (wI l = Ver.zero) := by show _ = _; unfold wI; rw [if_neg h3]
    have HB : Hid (triB l = false) := by show _ = _; unfold triB; rw [decide_eq_false h3]; rfl
    clear h3 hc
    go_enter Tryz.func172, Tryz.ntmps172
    go_wp2
    exact bodyPost_ret (v := .tuple #[zP (wI l), .bool (triB l)]) (by rw [HV.out, HB.out]; simp [results, Tryz.results172, go_sem, zP, Ver.zero, mkS]) rfl ⟨rfl, ((Below.refl _ _).alloc (Nat.le_refl _) _).alloc (by simp) _⟩
theorem one_keep {w w' w2 : World} {v1 v2 v3 : Value} (hS : w'.cell? ⟨w.heap.size, 0, none⟩ = some v1 ∧ w'.cell? ⟨w.heap.size, 1, none⟩ = some v2 ∧ w'.cell? ⟨w.heap.size, 2, none⟩ = some v3 ∧ Below w.heap.size w w' ∧ w.heap.size < w'.heap.size) (hb : Below w'.heap.size w' w2) : w2.cell? ⟨w.heap.size, 0, none⟩ = some v1 ∧ w2.cell? ⟨w.heap.size, 1, none⟩ = some v2 ∧ w2.cell? ⟨w.heap.size, 2, none⟩ = some v3 ∧ Below w.heap.size w w2 ∧ w.heap.size < w2.heap.size := by
  obtain ⟨a0, a1, a2, h, hA⟩ := hS
  have k : ∀ C i v, C < w'.heap.size → w'.cell? ⟨C, i, none⟩ = some v → w2.cell? ⟨C, i, none⟩ = some v := fun C i v hC e => (hb.cell (p := ⟨C, i, none⟩) hC).trans e
  exact ⟨k _ _ _ hA a0, k _ _ _ hA a1, k _ _ _ hA a2, h.trans (hb.mono h.size), Nat.lt_of_lt_of_le hA hb.size⟩
theorem one_start (w : World) (v1 v2 v3 v4 v5 : Value) (T : TypeId) : (w.alloc (.cells #[v1, v2, v3, v4, v5] T)).drew.cell? ⟨w.heap.size, 0, none⟩ = some v1 ∧ (w.alloc (.cells #[v1, v2, v3, v4, v5] T)).drew.cell? ⟨w.heap.size, 1, none⟩ = some v2 ∧ (w.alloc (.cells #[v1, v2, v3, v4, v5] T)).drew.cell? ⟨w.heap.size, 2, none⟩ = some v3 ∧ Below w.heap.size w (w.alloc (.cells #[v1, v2, v3, v4, v5] T)).drew ∧ w.heap.size < (w.alloc (.cells #[v1, v2, v3, v4, v5] T)).drew.heap.size := by
  have h0 : (w.alloc (.cells #[v1, v2, v3, v4, v5] T)).drew.heap[w.heap.size]? = some (.cells #[v1, v2, v3, v4, v5] T) := yZ w _
  have k0 : ∀ i v, (#[v1, v2, v3, v4, v5] : Array Value)[i]? = some v → (w.alloc (.cells #[v1, v2, v3, v4, v5] T)).drew.cell? ⟨w.heap.size, i, none⟩ = some v := fun i v e => (cell_of_row _ _ i _ _ _ h0).trans e
  have hs : (w.alloc (.cells #[v1, v2, v3, v4, v5] T)).drew.heap.size = w.heap.size + 1 := zE w _
  have hB : Below w.heap.size w (w.alloc (.cells #[v1, v2, v3, v4, v5] T)) := (Below.refl _ w).alloc (Nat.le_refl _) _
  exact ⟨k0 0 _ rfl, k0 1 _ rfl, k0 2 _ rfl, hB.drew, by omega⟩
theorem mT (n : Int) (h : zV n = true) (w : World) :
    Calls Tryz.prog 165 #[.int .i64 n] w fun e w' => e = .returned (.string (mkS (Lib.itoa n))) ∧ Below w.heap.size w w' := by
  unfold zV at h; simp at h
  exact rdigits_any n (by omega) (by omega) w
theorem numsL_mk (a b c : Int) (p q : List UInt8) : mkS (vF ⟨a, b, c, p, q⟩) = mkS (Lib.itoa a) ++ ⟨#[46]⟩ ++ mkS (Lib.itoa b) ++ ⟨#[46]⟩ ++ mkS (Lib.itoa c) := by
  rw [show (⟨#[46]⟩ : ByteArray) = mkS [46] from rfl, xR, xR, xR, xR]
  congr 1
  unfold vF
  simp
theorem rnumbers_any (v : Ver) (w : World) (h1 : zV v.maj = true) (h2 : zV v.min = true) (h3 : zV v.pat = true) :
    Calls Tryz.prog 118 #[zP v] w fun e w' => e = .returned (.string (mkS (vF v))) ∧ Below w.heap.size w w' := by
  obtain ⟨a, b, c, p, q⟩ := v
  have HN := Lib.hid (numsL_mk a b c p q)
  dsimp only at h1 h2 h3
  have cA := fun w' => mT a h1 w'
  have cB := fun w' => mT b h2 w'
  have cC := fun w' => mT c h3 w'
  have la := bQ h1
  have lb := bQ h2
  have lc := bQ h3
  rw [← yC] at la lb lc
  unfold zP
  dsimp only
  obtain ⟨x, hx⟩ : ∃ x, mkS (Lib.itoa a) = x := ⟨_, rfl⟩
  obtain ⟨y, hy⟩ : ∃ x, mkS (Lib.itoa b) = x := ⟨_, rfl⟩
  obtain ⟨z, hz⟩ : ∃ x, mkS (Lib.itoa c) = x := ⟨_, rfl⟩
  rw [hx] at cA la HN
  rw [hy] at cB lb HN
  rw [hz] at cC lc HN
  clear hx hy hz h1 h2 h3
  have s1 : (x ++ (⟨#[46]⟩ : ByteArray)).size ≤ 5 := by rw [ByteArray.size_append]; show x.size + 1 ≤ 5; omega
  have s2 : (x ++ (⟨#[46]⟩ : ByteArray) ++ y).size ≤ 9 := by rw [ByteArray.size_append]; omega
  have s3 : (x ++ (⟨#[46]⟩ : ByteArray) ++ y ++ (⟨#[46]⟩ : ByteArray)).size ≤ 10 := by rw [ByteArray.size_append]; show _ + 1 ≤ 10; omega
  go_enter Tryz.func118, Tryz.ntmps118
  go_wp2_with fail
  have hS0 := one_start w (.int .i64 a) (.int .i64 b) (.int .i64 c) (.string (mkS p)) (.string (mkS q)) 70
  go_region_with (first
      | (go_at_call 165; with_reducible refine (cA _).mono ?_; rintro e w1 ⟨rfl, hb1⟩; have hS1 := one_keep ‹_› hb1)
      | (go_at_call 165; with_reducible refine (cB _).mono ?_; rintro e w2 ⟨rfl, hb2⟩; have hS2 := one_keep ‹_› hb2))
  all_goals
    obtain ⟨_, _, k1, hbk1, _⟩ := hS1
    obtain ⟨_, _, k2, hbk2, _⟩ := hS2
    go_wp2_with (go_at_call 165; refine (cC _).mono ?_; rintro e w3 ⟨rfl, hb3⟩)
    go_ret
    first
      | exact ⟨v8 HN.out.symm, hbk2.trans (hb3.mono hbk2.size)⟩
      | exact ⟨v8 HN.out.symm, hbk1.trans (hb3.mono hbk1.size)⟩
theorem rprint_good (v : Ver) (w : World) (hp : v.pre.length ≤ 1000000) (hq : v.build.length ≤ 1000000) (hm : v.may = true) :
    Calls Tryz.prog 73 #[zP v] w fun e w' => e = .returned (.string (mkS v.text)) ∧ Below w.heap.size w w' := by
  have cM := fun w' => qD v w' hp hq
  obtain ⟨n1, n2, n3⟩ := vH hm
  have cN := fun w' => rnumbers_any v w' n1 n2 n3
  have hT : v.text = vF v ++ kE 45 v.pre ++ kE 43 v.build := rfl
  have hnl : (vF v).length ≤ 14 := nums_len n1 n2 n3
  obtain ⟨J, hJ⟩ : ∃ J, vF v = J := ⟨_, rfl⟩
  rw [hJ] at cN hT hnl
  obtain ⟨a, b, c, p, q⟩ := v
  rw [hm] at cM
  unfold zP at cN cM ⊢
  dsimp only at cN cM hp hq hT ⊢
  have HT := Lib.hid hT
  clear hT hm n1 n2 n3 hJ
  have hj0 : (mkS J).size ≤ 14 := by rw [yC]; exact hnl
  have hp0 : (mkS p).size ≤ 1000000 := by rw [yC]; exact hp
  have hq0 : (mkS q).size ≤ 1000000 := by rw [yC]; exact hq
  have hj1 : (mkS J ++ (⟨#[45]⟩ : ByteArray)).size ≤ 15 := by rw [ByteArray.size_append]; show _ + 1 ≤ _; omega
  have hj2 : (mkS J ++ (⟨#[45]⟩ : ByteArray) ++ mkS p).size ≤ 1000015 := by rw [ByteArray.size_append]; omega
  have hj3 : (mkS J ++ (⟨#[45]⟩ : ByteArray) ++ mkS p ++ (⟨#[43]⟩ : ByteArray)).size ≤ 1000016 := by rw [ByteArray.size_append]; show _ + 1 ≤ _; omega
  have hj4 : (mkS J ++ (⟨#[43]⟩ : ByteArray)).size ≤ 15 := by rw [ByteArray.size_append]; show _ + 1 ≤ _; omega
  have hpe0 : (mkS p).toList.isEmpty = p.isEmpty := by rw [Lib.toList_data, mk_data]
  have hqe0 : (mkS q).toList.isEmpty = q.isEmpty := by rw [Lib.toList_data, mk_data]
  have hcase : (p.isEmpty = true ∧ kE 45 p = [] ∨ p.isEmpty = false ∧ kE 45 p = 45 :: p) ∧ (q.isEmpty = true ∧ kE 43 q = [] ∨ q.isEmpty = false ∧ kE 43 q = 43 :: q) := by
    unfold kE; cases p <;> cases q <;> simp
  obtain ⟨hc1, hc2⟩ := hcase
  rcases hc1 with ⟨e1, t1⟩ | ⟨e1, t1⟩ <;> rcases hc2 with ⟨e2, t2⟩ | ⟨e2, t2⟩
  all_goals
    rw [e1] at hpe0
    rw [e2] at hqe0
    have T1 := Lib.hid t1
    have T2 := Lib.hid t2
    clear t1 t2 e1 e2
    go_enter Tryz.func73, Tryz.ntmps73
    go_wp2_with fail
    refine (cM _).mono ?_
    rintro e w1 ⟨rfl, hb1⟩
    have hg1 := Lib.hid ((hb1.block w.heap.size (by simp)).trans (yZ w _))
    have hbw1 : Below w.heap.size w w1 := ((Below.refl _ _).alloc (Nat.le_refl _) _).trans (hb1.mono (by simp))
    have hsw : w.heap.size < w1.heap.size := by have := hb1.size; rw [zE] at this; omega
    go_wp2_with (first
      | (refine wpList_load_row rfl 70 _ rfl w.heap.size rfl _ _ _ _ hg1.out Tryz.underlying70 rfl (by kernel_rfl) ?_)
      | (go_at_call 118; refine (cN _).mono ?_; rintro e w2 ⟨rfl, hb2⟩; obtain ⟨c3, f3⟩ := y6 (j := 3) ((hb2.block w.heap.size hsw).trans hg1.out) (by simp); obtain ⟨c4, f4⟩ := y6 (j := 4) ((hb2.block w.heap.size hsw).trans hg1.out) (by simp); simp only [List.getElem_toArray, List.getElem_cons_succ, List.getElem_cons_zero] at c3 c4))
    go_ret
    exact ⟨v8 (by
      rw [HT.out, T1.out, T2.out]; try rw [show (⟨#[45]⟩ : ByteArray) = mkS [45] from rfl]
      try rw [show (⟨#[43]⟩ : ByteArray) = mkS [43] from rfl]
      simp [xR]), hbw1.trans (hb2.mono hbw1.size)⟩
theorem rprint_none (v : Ver) (w : World) (hp : v.pre.length ≤ 1000000) (hq : v.build.length ≤ 1000000) (hm : v.may = false) :
    Calls Tryz.prog 73 #[zP v] w fun e w' => e = .returned (.string (mkS [])) ∧ Below w.heap.size w w' := by
  have cM := fun w' => qD v w' hp hq
  rw [hm] at cM
  obtain ⟨a, b, c, p, q⟩ := v
  unfold zP at cM ⊢
  dsimp only at cM ⊢
  clear hm
  go_enter Tryz.func73, Tryz.ntmps73
  go_wp2_with (go_at_call 117; refine (cM _).mono ?_; rintro e w1 ⟨rfl, hb1⟩)
  go_ret
  exact ⟨rfl, ((Below.refl _ _).alloc (Nat.le_refl _) _).trans (hb1.mono (by simp))⟩
theorem qC (v : Ver) (w : World) (hp : v.pre.length ≤ 1000000) (hq : v.build.length ≤ 1000000) :
    Calls Tryz.prog 73 #[zP v] w fun e w' => e = .returned (.string (mkS v.print)) ∧ Below w.heap.size w w' := by
  cases hm : v.may with
  | true => rw [xY hm]; exact rprint_good v w hp hq hm
  | false => rw [t6 hm]; exact rprint_none v w hp hq hm
end
section
def toldC (v : Ver) : Array Value := #[.string (mkS (Lib.itoa v.maj)), .string (mkS (Lib.itoa v.min)), .string (mkS (Lib.itoa v.pat))]
end
section
def numsOk (l : List (List UInt8)) : Bool := decide (l.length ≤ 3) && l.all kT
def numsVal (l : List (List UInt8)) : Ver := if numsOk l then ⟨x7 (tg l 0), x7 (tg l 1), x7 (tg l 2), [], []⟩ else Ver.zero
end
section
def pcV (s : List UInt8) : Co := (parseC s).getD ⟨0, 0, Ver.zero⟩
def pcE (s : List UInt8) : Int := if (parseC s).isSome then 0 else 6
end
section
def coC (c : Co) : List Value := (coV c).cells.toList
structure Al where
  A : Option Addr
  l : List Co
  cap : Nat
def alC (x : Al) : List Value := [.slice x.A x.l.length x.cap]
def rgOf (xs : List Al) : List (List Co) := xs.map Al.l
def ShortA (l : List Co) : Prop := ∀ c ∈ l, c.short
structure RgIn (w : World) (B : Nat) (A : Option Addr) (xs : List Al) : Prop where
  top : Reads alC w B A xs
  each : ∀ x ∈ xs, Reads coC w B x.A x.l
  n : xs.length ≤ 1000
  m : ∀ x ∈ xs, x.l.length ≤ 1000
  short : ∀ x ∈ xs, ShortA x.l
theorem joinB_step (sep : List UInt8) {l : List (List UInt8)} {i : Nat} (hi : i < l.length) : gQ sep (l.take (i + 1)) = (if i = 0 then [] else gQ sep (l.take i) ++ sep) ++ l[i] := by
  rw [List.take_succ_eq_append_getElem hi, joinB_snoc]
  by_cases h : i = 0
  · subst h; rfl
  · have hne : l.take i ≠ [] := fun e => by
      have h3 : (l.take i).length = 0 := by rw [e]; rfl
      rw [List.length_take] at h3; omega
    rw [if_neg hne, if_neg h]
end
section
theorem gS {v : Ver} (h : v.may = true) (hb : v.build = []) : v.text.length ≤ 60 := by
  obtain ⟨h1, h2, h3⟩ := vH h
  have hn := nums_len h1 h2 h3
  rw [jP] at hn
  have hp := tX (pB h)
  have e : kE 43 ([] : List UInt8) = [] := rfl
  have hq : (kE 45 v.pre).length ≤ 37 := by
    unfold kE
    split
    · exact Nat.zero_le _
    · rw [List.length_cons]; omega
  unfold Ver.text
  rw [hb, e, List.append_nil, List.length_append]
  unfold vF
  omega
theorem lo_len {c : Cu} (h : In c) : (xF c).length ≤ 62 := by
  have := gS h.m h.b
  unfold xF
  rw [List.length_append]
  split
  · rw [List.length_cons, List.length_nil]; omega
  · rw [List.length_cons, List.length_cons, List.length_nil]; omega
theorem nK {c : Cu} (h : In c) : (xK c).length ≤ 62 := by
  have := gS h.m h.b
  unfold xK
  rw [List.length_append]
  split
  · rw [List.length_cons, List.length_cons, List.length_nil]; omega
  · rw [List.length_cons, List.length_nil]; omega
theorem gX (s : Sp) : yF s = if s.lo.e = 0 then (if s.hi.e = 0 then xF s.lo ++ 32 :: xK s.hi else xF s.lo) else (if s.hi.e = 0 then xK s.hi else [42]) := by
  unfold yF spW loW hiW
  by_cases a : s.lo.e = 0
  · by_cases b : s.hi.e = 0
    · rw [if_pos a, if_pos b, if_pos a, if_pos b, if_neg (by simp)]; rfl
    · rw [if_pos a, if_neg b, if_pos a, if_neg b, if_neg (by simp)]; rfl
  · by_cases b : s.hi.e = 0
    · rw [if_neg a, if_pos b, if_neg a, if_pos b, if_neg (by simp)]; rfl
    · rw [if_neg a, if_neg b, if_neg a, if_neg b]; rfl
theorem sp_len {s : Sp} (h : s.may = true) : (yF s).length ≤ 130 := by
  obtain ⟨h1, h2⟩ := xA h
  rw [gX]
  by_cases a : s.lo.e = 0
  · have := lo_len (In.of h1 a)
    by_cases b : s.hi.e = 0
    · have := nK (In.of h2 b)
      rw [if_pos a, if_pos b, List.length_append, List.length_cons]; omega
    · rw [if_pos a, if_neg b]; omega
  · by_cases b : s.hi.e = 0
    · have := nK (In.of h2 b)
      rw [if_neg a, if_pos b]; omega
    · rw [if_neg a, if_neg b]; decide
def gB (l : List Sp) (k : Nat) : List UInt8 := gQ [32, 111, 114, 32] ((l.take k).map yF)
theorem p4 {l : List Sp} (h : ∀ s ∈ l, s.may = true) (k : Nat) : (gB l k).length ≤ l.length * 140 := by
  unfold gB
  rw [joinB_len]
  have key : ∀ (m : List Sp), (∀ s ∈ m, s.may = true) → sumN ((m.map yF).map (·.length)) + (m.length - 1) * 4 ≤ m.length * 140 := by
    intro m hm
    induction m with
    | nil => simp [sumN]
    | cons s m ih =>
      have := ih fun x hx => hm x (List.mem_cons_of_mem _ hx)
      have := sp_len (hm s (List.mem_cons_self ..))
      rw [List.map_cons, List.map_cons, sumN, List.length_cons]; omega
  have h1 := key (l.take k) fun s hs => h s (List.mem_of_mem_take hs)
  have h2 : (l.take k).length ≤ l.length := by rw [List.length_take]; exact Nat.min_le_right ..
  rw [List.length_map]
  have h3 : ([32, 111, 114, 32] : List UInt8).length = 4 := rfl
  rw [h3]
  omega
theorem rowK_zero (l : List Sp) : gB l 0 = [] := rfl
theorem fU {l : List Sp} {k : Nat} (hk : k < l.length) : gB l (k + 1) = (if k = 0 then [] else gB l k ++ [32, 111, 114, 32]) ++ yF l[k] := by
  unfold gB
  have h := joinB_step [32, 111, 114, 32] (l := l.map yF) (i := k) (by rw [List.length_map]; exact hk)
  rw [← List.map_take, ← List.map_take, List.getElem_map] at h
  exact h
theorem rowK_all {l : List Sp} {k : Nat} (h0 : l ≠ []) (hk : l.length ≤ k) : gB l k = zT l := by
  unfold gB zT
  rw [List.take_of_length_le hk, if_neg h0]
theorem jK {l : List Sp} (h : ∀ s ∈ l, s.may = true) : (zT l).length ≤ 1 + l.length * 140 := by
  by_cases h0 : l = []
  · subst h0; decide
  · rw [← rowK_all h0 (Nat.le_refl _)]
    have := p4 h l.length
    omega
theorem stext_len {s : St} (h : s.may = true) : (yI s).length ≤ 5 + (s.rel.length + s.pre.length) * 140 := by
  obtain ⟨h1, h2, h3⟩ := St.facts h
  have q1 := jK (xL h1)
  have q2 := jK (xL h2)
  unfold yI
  split
  · omega
  · rw [List.length_append, List.length_append]
    have : ([32, 47, 32] : List UInt8).length = 3 := rfl
    omega
theorem stext_ne {s : St} (h : s.may = true) : yI s ≠ [] := by
  obtain ⟨h1, h2, h3⟩ := St.facts h
  unfold yI
  split
  · exact nY h1
  · simp
end
section
def SlCo (v : Value) (l : List Co) (ob : List Blk) : Prop := Sl 94 7 v l.length (l.flatMap coC) ob
theorem Sl.form {T sz n : Nat} {v : Value} {xs : List Value} {ob : List Blk} (h : Sl T sz v n xs ob) : ∃ A cap, v = .slice A n cap := by
  rcases h.2 with ⟨h1, h2, _⟩ | ⟨g, cap, cur, h1, _⟩
  · exact ⟨none, 0, by rw [h1, h2]⟩
  · exact ⟨_, _, h1⟩
structure RgA (u : Value) (xs : List Al) (o1 o2 : List Blk) : Prop where
  top : Sl 92 1 u xs.length (xs.flatMap alC) o1
  each : ∀ x ∈ xs, ∃ o, (∀ b ∈ o, b ∈ o2) ∧ SlCo (.slice x.A x.l.length x.cap) x.l o
def RgO (v : Value) (r : List (List Co)) (ob : List Blk) : Prop := ∃ xs u o1 o2, v = .agg #[u] ∧ ob = o1 ++ o2 ∧ rgOf xs = r ∧ RgA u xs o1 o2
structure FineR (r : List (List Co)) : Prop where
  n : r.length ≤ 1000
  m : ∀ a ∈ r, a.length ≤ 1000 ∧ ShortA a
theorem SlT.blk {v : Value} {l : List (List UInt8)} {ob : List Blk} (h : SlT v l ob) (hn : l ≠ []) : ∃ g cur cap, v = .slice (some ⟨g, 0, none⟩) l.length cap ∧ ob = [⟨g, cur, 9⟩] ∧ cur.toList.take (l.length * 1) = l.flatMap strC := by
  obtain ⟨A, cap, rfl⟩ := h.form
  have h0 : 0 < l.length := by cases l with
    | nil => exact absurd rfl hn
    | cons _ _ => simp
  obtain ⟨g, cur, rfl, e, _, _, _, e2⟩ := Sl.block h h0
  exact ⟨g, cur, cap, rfl, e, by rw [e2, pU]⟩
section
variable {M : List Nat} {W w : World}
end
end
section
section
variable {M : List Nat} {P : Program} {n : Nat} {ops : Array Oper} {W : World} {L0 : List Blk} {Q : Exit → Act → World → Prop} {fuel : Nat} {listed : Array Bool} {f : Nat → Value}
end
end
section
theorem mk_mid (s : List UInt8) (i j : Nat) : (mkS s).extract i j = mkS ((s.drop i).take (j - i)) := by rw [qW, mk_data]
theorem run_strmid {P : Program} {ρ : Operand → Value} {o : Oper} {t : TypeId} {x y z : Operand} {s : List UInt8} {k q : IntKind} {i j : Int} (ho : o.op = .slice t x (some y) (some z) none) (hx : ρ x = .string (mkS s)) (hy : ρ y = .int k i) (hz : ρ z = .int q j)
    (hu : P.underlying t = some .string) (h0 : 0 ≤ i) (h1 : i ≤ j) (h3 : j ≤ s.length) (w : World) : (execOp ρ o).run P w = .ok (.value (.string (mkS ((s.drop i.toNat).take (j.toNat - i.toNat))))) w := by
  unfold execOp
  have h2 : j ≤ ((mkS s).size : Int) := by rw [yC]; exact h3
  have h4 : 0 ≤ j := Int.le_trans h0 h1
  simp [ho, hx, hy, hz, Instr.sliceAt, Instr.slice, Instr.sliceBounds, Instr.sliceBound, Sem.run_bind, asIntOf, run_underlying hu, h0, h1, h2, h4, mk_mid]
  try (intro h9; exfalso; omega)
end
section
section
variable {M : List Nat} {P : Program} {n : Nat} {ops : Array Oper} {W : World} {L0 : List Blk} {Q : Exit → Act → World → Prop} {fuel : Nat} {listed : Array Bool} {f : Nat → Value}
theorem hs_cast {i : Nat} {L L' : List Blk} (e : L = L') (h : bW M P n ops W L0 Q fuel listed i L' f) : bW M P n ops W L0 Q fuel listed i L f := by subst e; exact h
end
end
section
theorem Own.belowB {M : List Nat} {W w : World} {L : List Blk} {B : Nat} (h : Own M W w L) (hM : ∀ k ∈ M, B ≤ k) (hB : B ≤ W.heap.size) : Below B W w :=
  ⟨h.os, h.tape, h.output, h.size, h.drawn, fun k hk => h.kept k (Nat.lt_of_lt_of_le hk hB) fun hm => absurd (hM k hm) (Nat.not_le.2 hk)⟩
theorem Own.allB {M : List Nat} {W w : World} {L : List Blk} {B : Nat} (h : Own M W w L) (hM : ∀ k ∈ M, B ≤ k) (hB : B ≤ W.heap.size) : ∀ x ∈ L, B ≤ x.b := fun x hx => (h.base x hx).elim (fun q => Nat.le_trans hB q) (fun q => hM _ q)
structure LibOn (B : Nat) (W : World) : Prop where
  go : ∀ w, Below B W w → HasTab w
theorem LibOn.on {B : Nat} {W w : World} (h : LibOn B W) (hb : Below B W w) : LibOn B w := ⟨fun w' h' => h.go w' (hb.trans h')⟩
theorem own_fst {M : List Nat} {W w : World} {A B C : List Blk} (h : Own M W w ((A ++ B) ++ C)) : Own M W w A := h.sublist (by rw [List.append_assoc]; exact List.sublist_append_left _ _)
theorem map_ge {ob : List Blk} {B : Nat} (h : ∀ x ∈ ob, B ≤ x.b) : ∀ k ∈ ob.map Blk.b, B ≤ k := fun k hk => by
  obtain ⟨x, hx, rfl⟩ := List.mem_map.1 hk; exact h x hx
theorem part_lo {c : Cu} (h : In c) : (if c.aft = true then [62] else [62, 61]) ++ c.v.print = xF c := by rw [xY h.m]; rfl
theorem part_hi {c : Cu} (h : In c) : (if c.aft = true then [60, 61] else [60]) ++ c.v.print = xK c := by rw [xY h.m]; rfl
theorem qU (b : Nat) (l : List UInt8) (s : List UInt8) (ob : List Blk) (W : World) (hB : Bu b l ob) (hO : Own (ob.map Blk.b) W W ob) (hl : l.length ≤ 1000000000000) (hs : s.length ≤ 1000000000000) :
    Calls Tryz.prog 23 #[.pointer (some ⟨b, 0, none⟩), .string (mkS s)] W fun e w' => ∃ ob', e = .returned (.tuple #[.int .i64 ((mkS s).size : Int), .nilIface]) ∧ Bu b (l ++ s) ob' ∧ Own (ob.map Blk.b) W w' ob' := by
  obtain ⟨p, v, g, rfl, hp, hv⟩ := hB
  obtain ⟨A, cap, rfl⟩ := Sl.form hv
  have hsz := yC s
  refine vY (n := 19) hO Tryz.func23 rfl (by kernel_rfl) (by kernel_rfl) (ZO (Zv (.int .i64 0) (Zv (.nilIface) (ZR (Zv (.pointer (some ⟨b, 0, none⟩)) (y9 (k := 42) (args := #[.pointer (some ⟨b, 0, none⟩)]) (fun v' L' => v' = .tuple #[] ∧ L' = ⟨b, #[.pointer (some ⟨b, 0, none⟩), .slice A l.length cap], 46⟩ :: g) (by kernel_rfl) (fun _ => by kernel_rfl) (fun w hO => (wcheck_any b p _ _ _ _ w hp hO).mono fun e w' ⟨k1, k2⟩ => ⟨_, _, k1, ⟨rfl, rfl⟩, k2⟩) (fun v0 L0 hv0 => ?_)))))))
  obtain ⟨rfl, rfl⟩ := hv0
  refine ZR (Zv (.pointer (some ⟨b, 0, none⟩)) (Zv (.pointer (some ⟨b, 0, none⟩)) (Zv (.pointer (some ⟨b, 0, none⟩)) (Zv (.pointer (some ⟨b, 1, none⟩)) (Zl 0 ⟨b, #[.pointer (some ⟨b, 0, none⟩), .slice A l.length cap], 46⟩ (off := 1) (.slice A l.length cap) (Zv (.string (mkS s)) ?_))))))
  obtain ⟨i0, e1, e2, e3, e4⟩ := infoU8
  refine kI (L' := [⟨b, #[.pointer (some ⟨b, 0, none⟩), .slice A l.length cap], 46⟩] ++ g ++ []) (by simp) (s_appstr (by kernel_rfl) rfl Tryz.underlying35 Tryz.underlying9 e1 e2 e3 e4 (by kernel_rfl) hv (s := mkS s) (by kernel_rfl) (by rw [hsz]; unfold maxLen; omega) (by rw [hsz]; omega) (fun v2 g2 hv2 => ?_))
  have hv3 : Sl 5 1 v2 (l ++ s).length (Lib.byteCells (l ++ s)) g2 := by rw [List.length_append, Lib.byteCells_append]; rw [hsz, tS] at hv2; exact hv2
  obtain ⟨A2, cap2, rfl⟩ := Sl.form hv3
  refine kI (L' := ⟨b, #[.pointer (some ⟨b, 0, none⟩), .slice A l.length cap], 46⟩ :: (g2)) (by simp) (Zv (.pointer (some ⟨b, 0, none⟩)) (Zv (.pointer (some ⟨b, 1, none⟩)) (Zs 0 ⟨b, #[.pointer (some ⟨b, 0, none⟩), .slice A l.length cap], 46⟩ (off := 1) (.slice A2 ((l ++ s).length) cap2) (ZR (Zv (.string (mkS s)) (Zv (.int .i64 ((mkS s).size)) (Zv (.int .i64 ((mkS s).size)) (Zv (.nilIface) ?_))))))))
  exact ZN (zB (vM (.int .i64 ((mkS s).size)) (.nilIface) Tryz.results23 (by kernel_rfl) (by kernel_rfl) (fun w hO => ⟨_, rfl, ⟨_, _, g2, rfl, .inr rfl, hv3⟩, hO⟩)))
theorem wByte_any (b : Nat) (l : List UInt8) (c : UInt8) (z : Int) (ob : List Blk) (W : World) (hB : Bu b l ob) (hO : Own (ob.map Blk.b) W W ob) (hl : l.length ≤ 1000000000000) (hz : (c.toNat : Int) = z) :
    Calls Tryz.prog 69 #[.pointer (some ⟨b, 0, none⟩), .int .u8 z] W fun e w' => ∃ ob', e = .returned (.nilIface) ∧ Bu b (l ++ [c]) ob' ∧ Own (ob.map Blk.b) W w' ob' := by
  obtain ⟨p, v, g, rfl, hp, hv⟩ := hB
  obtain ⟨A, cap, rfl⟩ := Sl.form hv
  subst hz
  refine vY (n := 17) hO Tryz.func69 rfl (by kernel_rfl) (by kernel_rfl) (ZO (Zv (.nilIface) (ZR (Zv (.pointer (some ⟨b, 0, none⟩)) (y9 (k := 42) (args := #[.pointer (some ⟨b, 0, none⟩)]) (fun v' L' => v' = .tuple #[] ∧ L' = ⟨b, #[.pointer (some ⟨b, 0, none⟩), .slice A l.length cap], 46⟩ :: g) (by kernel_rfl) (fun _ => by kernel_rfl) (fun w hO => (wcheck_any b p _ _ _ _ w hp hO).mono fun e w' ⟨k1, k2⟩ => ⟨_, _, k1, ⟨rfl, rfl⟩, k2⟩) (fun v0 L0 hv0 => ?_))))))
  obtain ⟨rfl, rfl⟩ := hv0
  refine ZR (Zv (.pointer (some ⟨b, 0, none⟩)) (Zv (.pointer (some ⟨b, 0, none⟩)) (Zv (.pointer (some ⟨b, 0, none⟩)) (Zv (.pointer (some ⟨b, 1, none⟩)) (Zl 0 ⟨b, #[.pointer (some ⟨b, 0, none⟩), .slice A l.length cap], 46⟩ (off := 1) (.slice A l.length cap) (Zv (.int .u8 (c.toNat : Int)) (bG 5 #[.int .u8 (c.toNat : Int)] (by kernel_rfl) rfl (fun _ => by kernel_rfl) (fun b1 => ?_))))))))
  obtain ⟨i0, e1, e2, e3, e4⟩ := infoU8
  refine kI (L' := [⟨b1, #[.int .u8 (c.toNat : Int)], 5⟩, ⟨b, #[.pointer (some ⟨b, 0, none⟩), .slice A l.length cap], 46⟩] ++ g ++ []) (by simp) (qA (sz := 1) (by kernel_rfl) rfl Tryz.underlying35 e1 e2 e3 rfl (by kernel_rfl) hv (a := ⟨b1, 0, none⟩) (m := 1) (c := 1) (news := Lib.byteCells [c]) (by kernel_rfl) rfl (fun w hO j u hj => ?_) (fun u hu => by rw [List.mem_singleton.1 hu]; rfl) (by unfold maxLen; omega) (by rw [e4]; omega) (fun v2 g2 hv2 => ?_))
  · rw [yM, cell_of_row w b1 (0 + j) (Lib.byteCells [c]).toArray 5 _ (hO.held ⟨b1, (Lib.byteCells [c]).toArray, 5⟩ (List.mem_append_left _ (List.mem_append_left _ (List.mem_cons_self ..))))]; simpa using hj
  have hv3 : Sl 5 1 v2 (l ++ [c]).length (Lib.byteCells (l ++ [c])) g2 := by rw [List.length_append, Lib.byteCells_append]; exact hv2
  obtain ⟨A2, cap2, rfl⟩ := Sl.form hv3
  refine kI (L' := ⟨b1, #[.int .u8 (c.toNat : Int)], 5⟩ :: (⟨b, #[.pointer (some ⟨b, 0, none⟩), .slice A l.length cap], 46⟩ :: (g2))) (by simp) (Zv (.pointer (some ⟨b, 0, none⟩)) (Zv (.pointer (some ⟨b, 1, none⟩)) (Zs 1 ⟨b, #[.pointer (some ⟨b, 0, none⟩), .slice A l.length cap], 46⟩ (off := 1) (.slice A2 ((l ++ [c]).length) cap2) (ZR (Zv (.nilIface) (ZN (zB ?_)))))))
  exact ZF (.nilIface) Tryz.results69 (fun w hO => ⟨_, rfl, ⟨_, _, g2, rfl, .inr rfl, hv3⟩, Own.sub [⟨b1, #[.int .u8 (c.toNat : Int)], 5⟩] hO⟩)
theorem fM (b : Nat) (l x y : List UInt8) (c : Cu) (ob : List Blk) (W : World) (hB : Bu b l ob) (hO : Own (ob.map Blk.b) W W ob) (B : Nat) (hM : ∀ x ∈ ob, B ≤ x.b) (hBW : B ≤ W.heap.size) (hT : LibOn B W) (hl : l.length ≤ 100000000000) (hx : x.length ≤ 10) (hy : y.length ≤ 10) (hc : c.short) (hpl : c.v.print.length ≤ 1000000) :
    Calls Tryz.prog 68 #[.pointer (some ⟨b, 0, none⟩), zC c, .string (mkS x), .string (mkS y)] W fun e w' => ∃ ob', e = .returned (.tuple #[]) ∧ Bu b (l ++ ((if c.aft = true then y else x) ++ c.v.print)) ob' ∧ Own (ob.map Blk.b) W w' ob' := by
  have hM' := map_ge hM
  refine vY (n := 25) hO Tryz.func68 rfl (by kernel_rfl) (by kernel_rfl) (ZO (Zb (zC c) (fun b1 => ZR (Zv (.string (mkS x)) (Zv (.string (mkS x)) (zL (z7 ?_)))))))
  refine z8 (ZO (Zv (.pointer (some ⟨b1, 6, none⟩)) (Zl 0 ⟨b1, (zC c).cells, 72⟩ (off := 6) (.bool c.aft) (zL (z7 ?_)))))
  cases h1 : c.aft with
  | true =>
    refine Zt (zA (Zv (.string (mkS y)) (Zv (.string (mkS y)) (ZR (Zv (.pointer (some ⟨b, 0, none⟩)) (Zv (.pointer (some ⟨b, 0, none⟩)) (Zv (.pointer (some ⟨b, 0, none⟩)) (Zv (.string (mkS y)) ?_))))))))
    refine yY (L' := ob ++ ([⟨b1, (zC c).cells, 72⟩] : List Blk)) (fun w hO => hO.perm (List.perm_append_comm (l₁ := ([⟨b1, (zC c).cells, 72⟩] : List Blk)) (l₂ := ob))) (y9 (k := 23) (args := #[.pointer (some ⟨b, 0, none⟩), .string (mkS y)]) (fun v' L' => v' = .tuple #[.int .i64 ((mkS y).size : Int), .nilIface] ∧ ∃ ob', L' = ob' ++ ([⟨b1, (zC c).cells, 72⟩] : List Blk) ∧ Bu b (l ++ y) ob') (by kernel_rfl) (fun _ => by kernel_rfl) (fun w hO => (qU b l y ob w hB (Own.lent (R := ([⟨b1, (zC c).cells, 72⟩] : List Blk)) hO) (by first | omega | (simp only [List.length_append, List.length_cons, List.length_nil]; omega)) (by first | omega | (simp only [List.length_append, List.length_cons, List.length_nil]; omega))).mono fun e w' ⟨ob', k1, k2, k3⟩ => ⟨_, _, k1, ⟨rfl, ob', rfl, k2⟩, Own.back hO k3⟩) (fun vl1 Ll1 hvl1 => ?_))
    obtain ⟨rfl, ob1, rfl, hB1⟩ := hvl1
    refine yY (L' := ⟨b1, (zC c).cells, 72⟩ :: (ob1)) (fun w hO => hO.perm (List.perm_append_comm (l₁ := ob1) (l₂ := ([⟨b1, (zC c).cells, 72⟩] : List Blk)))) (ZN (ok_take (L' := (ob1 ++ ([] : List Blk)) ++ [⟨b1, (zC c).cells, 72⟩]) (fun w hO => hO.perm (by simpa using (List.perm_append_comm (l₁ := [⟨b1, (zC c).cells, 72⟩]) (l₂ := ob1)))) (bN ([⟨b1, (zC c).cells, 72⟩]) (by kernel_rfl) (fun w hO => Own.sub (ob1 ++ ([] : List Blk)) hO) (ZT 0 (ob1 ++ ([] : List Blk)) _ (.pointer (some ⟨b, 0, none⟩)) zU rfl (ZT 1 (ob1 ++ ([] : List Blk)) _ (.pointer (some ⟨b, 0, none⟩)) zU rfl (ZT 2 (ob1 ++ ([] : List Blk)) _ (.pointer (some ⟨b, 0, none⟩)) zU rfl (ZT 3 (ob1 ++ ([] : List Blk)) _ (.pointer (some ⟨b1, 1, none⟩)) zU rfl (ZL 4 (ob1 ++ ([] : List Blk)) _ 0 ⟨b1, (zC c).cells, 72⟩ (off := 1) (.agg #[.int .i64 c.v.maj, .int .i64 c.v.min, .int .i64 c.v.pat, .string (mkS c.v.pre), .string (mkS c.v.build)]) zU rfl rfl (gJ 5 (by kernel_rfl) (dG (ob1 ++ ([] : List Blk)) _ (k := 114) (args := #[.agg #[.int .i64 c.v.maj, .int .i64 c.v.min, .int .i64 c.v.pat, .string (mkS c.v.pre), .string (mkS c.v.build)]]) (.string (mkS c.v.print)) rfl (by kernel_rfl) (fun _ => by kernel_rfl) (fun w hO => mG c.v w hc.1 hc.2 (hT.go w (hO.belowB hM' hBW))) ?_))))))))))
    refine gJ 6 (by kernel_rfl) (hs_cast (L' := ob1 ++ (([] : List Blk) ++ ([⟨b1, (zC c).cells, 72⟩]))) (by simp <;> rfl) (fB _ (k := 23) (args := #[.pointer (some ⟨b, 0, none⟩), .string (mkS c.v.print)]) (fun v' L' => v' = .tuple #[.int .i64 ((mkS c.v.print).size : Int), .nilIface] ∧ ∃ ob', L' = ob' ++ (([] : List Blk) ++ ([⟨b1, (zC c).cells, 72⟩])) ∧ Bu b (l ++ y ++ c.v.print) ob') rfl (by kernel_rfl) (fun _ => by kernel_rfl) (fun w hO => (qU b (l ++ y) c.v.print ob1 w hB1 (Own.lent hO) (by first | omega | (simp only [List.length_append, List.length_cons, List.length_nil]; omega)) (Nat.le_trans hpl (by decide))).mono fun e w' ⟨ob', k1, k2, k3⟩ => ⟨_, _, k1, ⟨rfl, ob', rfl, k2⟩, Own.back hO k3⟩) (fun v' L' ⟨_, ob', e, _⟩ w hO => by subst e; exact Own.sub ([] : List Blk) (Own.sub ob' hO)) (fun vlob9 Llob9 hvlob9 => ?_)))
    obtain ⟨rfl, ob9, rfl, hB9⟩ := hvlob9
    exact fC (L' := (ob9 ++ ([] : List Blk)) ++ ([⟨b1, (zC c).cells, 72⟩])) (by simp <;> rfl) (wC (by kernel_rfl) (jA Tryz.results68 (fun w hO => ⟨ob9, rfl, by simpa using hB9, own_fst hO⟩)))
  | false =>
    refine Zf (ZB (ZO (Zv (.pointer (some ⟨b, 0, none⟩)) (Zv (.pointer (some ⟨b, 0, none⟩)) (Zv (.pointer (some ⟨b, 0, none⟩)) (Zv (.string (mkS x)) (yY (L' := ob ++ ([⟨b1, (zC c).cells, 72⟩] : List Blk)) (fun w hO => hO.perm (List.perm_append_comm (l₁ := ([⟨b1, (zC c).cells, 72⟩] : List Blk)) (l₂ := ob))) (y9 (k := 23) (args := #[.pointer (some ⟨b, 0, none⟩), .string (mkS x)]) (fun v' L' => v' = .tuple #[.int .i64 ((mkS x).size : Int), .nilIface] ∧ ∃ ob', L' = ob' ++ ([⟨b1, (zC c).cells, 72⟩] : List Blk) ∧ Bu b (l ++ x) ob') (by kernel_rfl) (fun _ => by kernel_rfl) (fun w hO => (qU b l x ob w hB (Own.lent (R := ([⟨b1, (zC c).cells, 72⟩] : List Blk)) hO) (by first | omega | (simp only [List.length_append, List.length_cons, List.length_nil]; omega)) (by first | omega | (simp only [List.length_append, List.length_cons, List.length_nil]; omega))).mono fun e w' ⟨ob', k1, k2, k3⟩ => ⟨_, _, k1, ⟨rfl, ob', rfl, k2⟩, Own.back hO k3⟩) (fun vl2 Ll2 hvl2 => ?_)))))))))
    obtain ⟨rfl, ob2, rfl, hB2⟩ := hvl2
    refine yY (L' := ⟨b1, (zC c).cells, 72⟩ :: (ob2)) (fun w hO => hO.perm (List.perm_append_comm (l₁ := ob2) (l₂ := ([⟨b1, (zC c).cells, 72⟩] : List Blk)))) (ZN (ok_take (L' := (ob2 ++ ([] : List Blk)) ++ [⟨b1, (zC c).cells, 72⟩]) (fun w hO => hO.perm (by simpa using (List.perm_append_comm (l₁ := [⟨b1, (zC c).cells, 72⟩]) (l₂ := ob2)))) (bN ([⟨b1, (zC c).cells, 72⟩]) (by kernel_rfl) (fun w hO => Own.sub (ob2 ++ ([] : List Blk)) hO) (ZT 0 (ob2 ++ ([] : List Blk)) _ (.pointer (some ⟨b, 0, none⟩)) zU rfl (ZT 1 (ob2 ++ ([] : List Blk)) _ (.pointer (some ⟨b, 0, none⟩)) zU rfl (ZT 2 (ob2 ++ ([] : List Blk)) _ (.pointer (some ⟨b, 0, none⟩)) zU rfl (ZT 3 (ob2 ++ ([] : List Blk)) _ (.pointer (some ⟨b1, 1, none⟩)) zU rfl (ZL 4 (ob2 ++ ([] : List Blk)) _ 0 ⟨b1, (zC c).cells, 72⟩ (off := 1) (.agg #[.int .i64 c.v.maj, .int .i64 c.v.min, .int .i64 c.v.pat, .string (mkS c.v.pre), .string (mkS c.v.build)]) zU rfl rfl (gJ 5 (by kernel_rfl) (dG (ob2 ++ ([] : List Blk)) _ (k := 114) (args := #[.agg #[.int .i64 c.v.maj, .int .i64 c.v.min, .int .i64 c.v.pat, .string (mkS c.v.pre), .string (mkS c.v.build)]]) (.string (mkS c.v.print)) rfl (by kernel_rfl) (fun _ => by kernel_rfl) (fun w hO => mG c.v w hc.1 hc.2 (hT.go w (hO.belowB hM' hBW))) ?_))))))))))
    refine gJ 6 (by kernel_rfl) (hs_cast (L' := ob2 ++ (([] : List Blk) ++ ([⟨b1, (zC c).cells, 72⟩]))) (by simp <;> rfl) (fB _ (k := 23) (args := #[.pointer (some ⟨b, 0, none⟩), .string (mkS c.v.print)]) (fun v' L' => v' = .tuple #[.int .i64 ((mkS c.v.print).size : Int), .nilIface] ∧ ∃ ob', L' = ob' ++ (([] : List Blk) ++ ([⟨b1, (zC c).cells, 72⟩])) ∧ Bu b (l ++ x ++ c.v.print) ob') rfl (by kernel_rfl) (fun _ => by kernel_rfl) (fun w hO => (qU b (l ++ x) c.v.print ob2 w hB2 (Own.lent hO) (by first | omega | (simp only [List.length_append, List.length_cons, List.length_nil]; omega)) (Nat.le_trans hpl (by decide))).mono fun e w' ⟨ob', k1, k2, k3⟩ => ⟨_, _, k1, ⟨rfl, ob', rfl, k2⟩, Own.back hO k3⟩) (fun v' L' ⟨_, ob', e, _⟩ w hO => by subst e; exact Own.sub ([] : List Blk) (Own.sub ob' hO)) (fun vlob9 Llob9 hvlob9 => ?_)))
    obtain ⟨rfl, ob9, rfl, hB9⟩ := hvlob9
    exact fC (L' := (ob9 ++ ([] : List Blk)) ++ ([⟨b1, (zC c).cells, 72⟩])) (by simp <;> rfl) (wC (by kernel_rfl) (jA Tryz.results68 (fun w hO => ⟨ob9, rfl, by simpa using hB9, own_fst hO⟩)))
end
section
theorem wspan_any (b : Nat) (l : List UInt8) (s : Sp) (ob : List Blk) (W : World) (hB : Bu b l ob) (hO : Own (ob.map Blk.b) W W ob) (B : Nat) (hM : ∀ x ∈ ob, B ≤ x.b) (hBW : B ≤ W.heap.size) (hT : LibOn B W) (hl : l.length ≤ 10000000000) (hm : s.may = true) (hsh : s.short) :
    Calls Tryz.prog 41 #[.pointer (some ⟨b, 0, none⟩), zF s] W fun e w' => ∃ ob', e = .returned (.tuple #[]) ∧ Bu b (l ++ yF s) ob' ∧ Own (ob.map Blk.b) W w' ob' := by
  have hM' := map_ge hM
  obtain ⟨m1, m2⟩ := xA hm
  refine vY (n := 42) hO Tryz.func41 rfl (by kernel_rfl) (by kernel_rfl) (ZO (Zb (zF s) (fun b1 => ZN (z8 (g7 (by kernel_rfl) (by kernel_rfl) (Zw (.pointer (some ⟨b1, 0, none⟩)) (Zw (.pointer (some ⟨b1, 0, none⟩)) (Zm 0 ⟨b1, (zF s).cells, 74⟩ (off := 0) (.int .i64 s.lo.e) ?_))))))))
  by_cases h1 : (s.lo.e : Int) = 0
  · have il := In.of m1 h1
    have ill := lo_len il
    refine Ze (p := (s.lo.e : Int) = 0) true (decide_eq_true (h1)) (Zw (.pointer (some ⟨b1, 7, none⟩)) (Zw (.pointer (some ⟨b1, 7, none⟩)) (Zm 0 ⟨b1, (zF s).cells, 74⟩ (off := 7) (.int .i64 s.hi.e) ?_)))
    by_cases h2 : (s.hi.e : Int) = 0
    · have ih := In.of m2 h2
      have ihl := nK ih
      refine Ze (p := (s.hi.e : Int) = 0) true (decide_eq_true (h2)) (Zw (.bool true) (Zw (.bool true) (xP (z7 (z8 (ZO (Zv (.bool true) (ZN (Zt ?_)))))))))
      refine zA (Zv (.pointer (some ⟨b, 0, none⟩)) (Zv (.pointer (some ⟨b1, 0, none⟩)) (Zl 0 ⟨b1, (zF s).cells, 74⟩ (off := 0) (.agg #[.int .i64 s.lo.e, .int .i64 s.lo.v.maj, .int .i64 s.lo.v.min, .int .i64 s.lo.v.pat, .string (mkS s.lo.v.pre), .string (mkS s.lo.v.build), .bool s.lo.aft]) (yY (L' := ob ++ ([⟨b1, (zF s).cells, 74⟩] : List Blk)) (fun w hO => hO.perm (List.perm_append_comm (l₁ := ([⟨b1, (zF s).cells, 74⟩] : List Blk)) (l₂ := ob))) (y9 (k := 68) (args := #[.pointer (some ⟨b, 0, none⟩), .agg #[.int .i64 s.lo.e, .int .i64 s.lo.v.maj, .int .i64 s.lo.v.min, .int .i64 s.lo.v.pat, .string (mkS s.lo.v.pre), .string (mkS s.lo.v.build), .bool s.lo.aft], .string ⟨#[62, 61]⟩, .string ⟨#[62]⟩]) (fun v' L' => v' = .tuple #[] ∧ ∃ ob', L' = ob' ++ ([⟨b1, (zF s).cells, 74⟩] : List Blk) ∧ Bu b (l ++ xF s.lo) ob') (by kernel_rfl) (fun _ => by kernel_rfl) (fun w hO => (fM b l [62, 61] [62] s.lo ob w hB (Own.lent (R := ([⟨b1, (zF s).cells, 74⟩] : List Blk)) hO) B (fun x hx => hO.allB hM' hBW x (List.mem_append_left _ hx)) (Nat.le_trans hBW hO.size) (hT.on (hO.belowB hM' hBW)) (by first | omega | (simp only [List.length_append, List.length_cons, List.length_nil]; omega)) (by decide) (by decide) hsh.1 (by rw [xY il.m]; exact Nat.le_trans (gS il.m il.b) (by decide))).mono fun e w' ⟨ob', k1, k2, k3⟩ => ⟨_, _, k1, ⟨rfl, ob', rfl, by rw [part_lo il] at k2; exact k2⟩, Own.back hO k3⟩) (fun vl1 Ll1 hvl1 => ?_))))))
      obtain ⟨rfl, ob1, rfl, hB1⟩ := hvl1
      refine yY (L' := ⟨b1, (zF s).cells, 74⟩ :: (ob1)) (fun w hO => hO.perm (List.perm_append_comm (l₁ := ob1) (l₂ := ([⟨b1, (zF s).cells, 74⟩] : List Blk)))) (ZN (z8 (ZO (Zv (.bool true) (Zv (.bool true) (Zv (.bool true) (Zv (.bool true) (zL (z7 ?_)))))))))
      refine Zt (zA (Zv (.pointer (some ⟨b, 0, none⟩)) (Zv (.pointer (some ⟨b, 0, none⟩)) (Zv (.pointer (some ⟨b, 0, none⟩)) (yY (L' := ob1 ++ ([⟨b1, (zF s).cells, 74⟩] : List Blk)) (fun w hO => hO.perm (List.perm_append_comm (l₁ := ([⟨b1, (zF s).cells, 74⟩] : List Blk)) (l₂ := ob1))) (y9 (k := 69) (args := #[.pointer (some ⟨b, 0, none⟩), .int .u8 32]) (fun v' L' => v' = .nilIface ∧ ∃ ob', L' = ob' ++ ([⟨b1, (zF s).cells, 74⟩] : List Blk) ∧ Bu b (l ++ xF s.lo ++ [32]) ob') (by kernel_rfl) (fun _ => by kernel_rfl) (fun w hO => (wByte_any b (l ++ xF s.lo) 32 32 ob1 w hB1 (Own.lent (R := ([⟨b1, (zF s).cells, 74⟩] : List Blk)) hO) (by first | omega | (simp only [List.length_append, List.length_cons, List.length_nil]; omega)) (by decide)).mono fun e w' ⟨ob', k1, k2, k3⟩ => ⟨_, _, k1, ⟨rfl, ob', rfl, k2⟩, Own.back hO k3⟩) (fun vl2 Ll2 hvl2 => ?_)))))))
      obtain ⟨rfl, ob2, rfl, hB2⟩ := hvl2
      refine yY (L' := ⟨b1, (zF s).cells, 74⟩ :: (ob2)) (fun w hO => hO.perm (List.perm_append_comm (l₁ := ob2) (l₂ := ([⟨b1, (zF s).cells, 74⟩] : List Blk)))) (ZN (z8 (ZO (Zv (.bool true) (ZY (zA (Zv (.pointer (some ⟨b, 0, none⟩)) ?_)))))))
      refine Zv (.pointer (some ⟨b1, 7, none⟩)) (Zl 0 ⟨b1, (zF s).cells, 74⟩ (off := 7) (.agg #[.int .i64 s.hi.e, .int .i64 s.hi.v.maj, .int .i64 s.hi.v.min, .int .i64 s.hi.v.pat, .string (mkS s.hi.v.pre), .string (mkS s.hi.v.build), .bool s.hi.aft]) (yY (L' := ob2 ++ ([⟨b1, (zF s).cells, 74⟩] : List Blk)) (fun w hO => hO.perm (List.perm_append_comm (l₁ := ([⟨b1, (zF s).cells, 74⟩] : List Blk)) (l₂ := ob2))) (y9 (k := 68) (args := #[.pointer (some ⟨b, 0, none⟩), .agg #[.int .i64 s.hi.e, .int .i64 s.hi.v.maj, .int .i64 s.hi.v.min, .int .i64 s.hi.v.pat, .string (mkS s.hi.v.pre), .string (mkS s.hi.v.build), .bool s.hi.aft], .string ⟨#[60]⟩, .string ⟨#[60, 61]⟩]) (fun v' L' => v' = .tuple #[] ∧ ∃ ob', L' = ob' ++ ([⟨b1, (zF s).cells, 74⟩] : List Blk) ∧ Bu b (l ++ xF s.lo ++ [32] ++ xK s.hi) ob') (by kernel_rfl) (fun _ => by kernel_rfl) (fun w hO => (fM b (l ++ xF s.lo ++ [32]) [60] [60, 61] s.hi ob2 w hB2 (Own.lent (R := ([⟨b1, (zF s).cells, 74⟩] : List Blk)) hO) B (fun x hx => hO.allB hM' hBW x (List.mem_append_left _ hx)) (Nat.le_trans hBW hO.size) (hT.on (hO.belowB hM' hBW)) (by first | omega | (simp only [List.length_append, List.length_cons, List.length_nil]; omega)) (by decide) (by decide) hsh.2 (by rw [xY ih.m]; exact Nat.le_trans (gS ih.m ih.b) (by decide))).mono fun e w' ⟨ob', k1, k2, k3⟩ => ⟨_, _, k1, ⟨rfl, ob', rfl, by rw [part_hi ih] at k2; exact k2⟩, Own.back hO k3⟩) (fun vl3 Ll3 hvl3 => ?_))))
      obtain ⟨rfl, ob3, rfl, hB3⟩ := hvl3
      refine yY (L' := ⟨b1, (zF s).cells, 74⟩ :: (ob3)) (fun w hO => hO.perm (List.perm_append_comm (l₁ := ob3) (l₂ := ([⟨b1, (zF s).cells, 74⟩] : List Blk)))) (ZR (Zv (.bool true) (Zv (.bool false) (Zv (.bool false) (Zk (Zk (Zv (.bool false) (zL ?_))))))))
      exact z7 (Zf (yT (jA Tryz.results41 (fun w hO => ⟨ob3, rfl, by rw [gX, if_pos h1, if_pos h2]; simpa using hB3, Own.sub [_] hO⟩))))
    refine Ze (p := (s.hi.e : Int) = 0) false (decide_eq_false (h2)) (Zw (.bool true) (Zw (.bool false) (xP (z7 (z8 (ZO (Zv (.bool true) (ZN (Zt ?_)))))))))
    refine zA (Zv (.pointer (some ⟨b, 0, none⟩)) (Zv (.pointer (some ⟨b1, 0, none⟩)) (Zl 0 ⟨b1, (zF s).cells, 74⟩ (off := 0) (.agg #[.int .i64 s.lo.e, .int .i64 s.lo.v.maj, .int .i64 s.lo.v.min, .int .i64 s.lo.v.pat, .string (mkS s.lo.v.pre), .string (mkS s.lo.v.build), .bool s.lo.aft]) (yY (L' := ob ++ ([⟨b1, (zF s).cells, 74⟩] : List Blk)) (fun w hO => hO.perm (List.perm_append_comm (l₁ := ([⟨b1, (zF s).cells, 74⟩] : List Blk)) (l₂ := ob))) (y9 (k := 68) (args := #[.pointer (some ⟨b, 0, none⟩), .agg #[.int .i64 s.lo.e, .int .i64 s.lo.v.maj, .int .i64 s.lo.v.min, .int .i64 s.lo.v.pat, .string (mkS s.lo.v.pre), .string (mkS s.lo.v.build), .bool s.lo.aft], .string ⟨#[62, 61]⟩, .string ⟨#[62]⟩]) (fun v' L' => v' = .tuple #[] ∧ ∃ ob', L' = ob' ++ ([⟨b1, (zF s).cells, 74⟩] : List Blk) ∧ Bu b (l ++ xF s.lo) ob') (by kernel_rfl) (fun _ => by kernel_rfl) (fun w hO => (fM b l [62, 61] [62] s.lo ob w hB (Own.lent (R := ([⟨b1, (zF s).cells, 74⟩] : List Blk)) hO) B (fun x hx => hO.allB hM' hBW x (List.mem_append_left _ hx)) (Nat.le_trans hBW hO.size) (hT.on (hO.belowB hM' hBW)) (by first | omega | (simp only [List.length_append, List.length_cons, List.length_nil]; omega)) (by decide) (by decide) hsh.1 (by rw [xY il.m]; exact Nat.le_trans (gS il.m il.b) (by decide))).mono fun e w' ⟨ob', k1, k2, k3⟩ => ⟨_, _, k1, ⟨rfl, ob', rfl, by rw [part_lo il] at k2; exact k2⟩, Own.back hO k3⟩) (fun vl4 Ll4 hvl4 => ?_))))))
    obtain ⟨rfl, ob4, rfl, hB4⟩ := hvl4
    refine yY (L' := ⟨b1, (zF s).cells, 74⟩ :: (ob4)) (fun w hO => hO.perm (List.perm_append_comm (l₁ := ob4) (l₂ := ([⟨b1, (zF s).cells, 74⟩] : List Blk)))) (ZN (z8 (ZO (Zv (.bool true) (Zv (.bool true) (Zv (.bool false) (Zv (.bool false) (zL (z7 ?_)))))))))
    refine Zf (ZB (z8 (ZO (Zv (.bool false) (ZX (yT (z7 ?_)))))))
    refine ZO (Zv (.bool true) (Zv (.bool false) (Zv (.bool false) (Zk (Zk (Zv (.bool false) (ZX (yT ?_))))))))
    exact jA Tryz.results41 (fun w hO => ⟨ob4, rfl, by rw [gX, if_pos h1, if_neg h2]; simpa using hB4, Own.sub [_] hO⟩)
  refine Ze (p := (s.lo.e : Int) = 0) false (decide_eq_false (h1)) (Zw (.pointer (some ⟨b1, 7, none⟩)) (Zw (.pointer (some ⟨b1, 7, none⟩)) (Zm 0 ⟨b1, (zF s).cells, 74⟩ (off := 7) (.int .i64 s.hi.e) ?_)))
  by_cases h3 : (s.hi.e : Int) = 0
  · have ih := In.of m2 h3
    have ihl := nK ih
    refine Ze (p := (s.hi.e : Int) = 0) true (decide_eq_true (h3)) (Zw (.bool false) (Zw (.bool true) (xP (z7 (z8 (ZO (Zv (.bool false) (ZN (Zf ?_)))))))))
    refine ZB (z8 (ZO (Zv (.bool false) (Zv (.bool false) (Zk (Zv (.bool false) (ZN (Zf ?_))))))))
    refine ZB (z8 (ZO (Zv (.bool true) (ZY (zA (Zv (.pointer (some ⟨b, 0, none⟩)) (Zv (.pointer (some ⟨b1, 7, none⟩)) ?_)))))))
    refine Zl 0 ⟨b1, (zF s).cells, 74⟩ (off := 7) (.agg #[.int .i64 s.hi.e, .int .i64 s.hi.v.maj, .int .i64 s.hi.v.min, .int .i64 s.hi.v.pat, .string (mkS s.hi.v.pre), .string (mkS s.hi.v.build), .bool s.hi.aft]) (yY (L' := ob ++ ([⟨b1, (zF s).cells, 74⟩] : List Blk)) (fun w hO => hO.perm (List.perm_append_comm (l₁ := ([⟨b1, (zF s).cells, 74⟩] : List Blk)) (l₂ := ob))) (y9 (k := 68) (args := #[.pointer (some ⟨b, 0, none⟩), .agg #[.int .i64 s.hi.e, .int .i64 s.hi.v.maj, .int .i64 s.hi.v.min, .int .i64 s.hi.v.pat, .string (mkS s.hi.v.pre), .string (mkS s.hi.v.build), .bool s.hi.aft], .string ⟨#[60]⟩, .string ⟨#[60, 61]⟩]) (fun v' L' => v' = .tuple #[] ∧ ∃ ob', L' = ob' ++ ([⟨b1, (zF s).cells, 74⟩] : List Blk) ∧ Bu b (l ++ xK s.hi) ob') (by kernel_rfl) (fun _ => by kernel_rfl) (fun w hO => (fM b l [60] [60, 61] s.hi ob w hB (Own.lent (R := ([⟨b1, (zF s).cells, 74⟩] : List Blk)) hO) B (fun x hx => hO.allB hM' hBW x (List.mem_append_left _ hx)) (Nat.le_trans hBW hO.size) (hT.on (hO.belowB hM' hBW)) (by first | omega | (simp only [List.length_append, List.length_cons, List.length_nil]; omega)) (by decide) (by decide) hsh.2 (by rw [xY ih.m]; exact Nat.le_trans (gS ih.m ih.b) (by decide))).mono fun e w' ⟨ob', k1, k2, k3⟩ => ⟨_, _, k1, ⟨rfl, ob', rfl, by rw [part_hi ih] at k2; exact k2⟩, Own.back hO k3⟩) (fun vl5 Ll5 hvl5 => ?_)))
    obtain ⟨rfl, ob5, rfl, hB5⟩ := hvl5
    refine yY (L' := ⟨b1, (zF s).cells, 74⟩ :: (ob5)) (fun w hO => hO.perm (List.perm_append_comm (l₁ := ob5) (l₂ := ([⟨b1, (zF s).cells, 74⟩] : List Blk)))) (ZR (Zv (.bool false) (Zv (.bool true) (Zv (.bool true) (Zv (.bool true) (Zv (.bool false) (Zv (.bool false) (zL ?_))))))))
    exact z7 (Zf (yT (jA Tryz.results41 (fun w hO => ⟨ob5, rfl, by rw [gX, if_neg h1, if_pos h3]; simpa using hB5, Own.sub [_] hO⟩))))
  refine Ze (p := (s.hi.e : Int) = 0) false (decide_eq_false (h3)) (Zw (.bool false) (Zw (.bool false) (xP (z7 (z8 (ZO (Zv (.bool false) (ZN (Zf ?_)))))))))
  refine ZB (z8 (ZO (Zv (.bool false) (Zv (.bool false) (Zk (Zv (.bool false) (ZN (Zf ?_))))))))
  refine ZB (z8 (ZO (Zv (.bool false) (ZX (ZB (z8 ?_))))))
  refine zA (Zv (.bool false) (Zv (.bool true) (Zv (.bool true) (Zv (.bool false) (Zv (.bool true) (Zv (.bool true) (ZY (zA (Zv (.pointer (some ⟨b, 0, none⟩)) ?_)))))))))
  refine Zv (.pointer (some ⟨b, 0, none⟩)) (Zv (.pointer (some ⟨b, 0, none⟩)) (yY (L' := ob ++ ([⟨b1, (zF s).cells, 74⟩] : List Blk)) (fun w hO => hO.perm (List.perm_append_comm (l₁ := ([⟨b1, (zF s).cells, 74⟩] : List Blk)) (l₂ := ob))) (y9 (k := 69) (args := #[.pointer (some ⟨b, 0, none⟩), .int .u8 42]) (fun v' L' => v' = .nilIface ∧ ∃ ob', L' = ob' ++ ([⟨b1, (zF s).cells, 74⟩] : List Blk) ∧ Bu b (l ++ [42]) ob') (by kernel_rfl) (fun _ => by kernel_rfl) (fun w hO => (wByte_any b l 42 42 ob w hB (Own.lent (R := ([⟨b1, (zF s).cells, 74⟩] : List Blk)) hO) (by first | omega | (simp only [List.length_append, List.length_cons, List.length_nil]; omega)) (by decide)).mono fun e w' ⟨ob', k1, k2, k3⟩ => ⟨_, _, k1, ⟨rfl, ob', rfl, k2⟩, Own.back hO k3⟩) (fun vl6 Ll6 hvl6 => ?_))))
  obtain ⟨rfl, ob6, rfl, hB6⟩ := hvl6
  exact yY (L' := ⟨b1, (zF s).cells, 74⟩ :: (ob6)) (fun w hO => hO.perm (List.perm_append_comm (l₁ := ob6) (l₂ := ([⟨b1, (zF s).cells, 74⟩] : List Blk)))) (zL (jA Tryz.results41 (fun w hO => ⟨ob6, rfl, by rw [gX, if_neg h1, if_neg h3]; simpa using hB6, Own.sub [_] hO⟩)))
theorem wrow_any (b : Nat) (l0 : List UInt8) (A : Option Addr) (cap : Nat) (l : List Sp) (ob : List Blk) (W : World) (hB : Bu b l0 ob) (hO : Own (ob.map Blk.b) W W ob) (B : Nat) (hM : ∀ x ∈ ob, B ≤ x.b) (hBW : B ≤ W.heap.size) (hT : LibOn B W) (hv : Reads yB W B A l) (hm : ∀ s ∈ l, s.may = true) (hsh : yL l) (hl0 : l0.length ≤ 1000000000) (hn : l.length ≤ 1000000) :
    Calls Tryz.prog 22 #[.pointer (some ⟨b, 0, none⟩), .slice A l.length cap] W fun e w' => ∃ ob', e = .returned (.tuple #[]) ∧ Bu b (l0 ++ zT l) ob' ∧ Own (ob.map Blk.b) W w' ob' := by
  have hM' := map_ge hM
  refine vY (n := 30) hO Tryz.func22 rfl (by kernel_rfl) (by kernel_rfl) (z8 (ZO (Zv (.slice A l.length cap) (Zv (.int .i64 (l.length : Int)) ?_))))
  by_cases h1 : (l.length : Int) = 0
  · refine xO (p := (l.length : Int) = 0) true (by kernel_rfl) (fun _ => by kernel_rfl) (decide_eq_true (h1)) ?_
    refine ZY (zA (Zv (.pointer (some ⟨b, 0, none⟩)) (Zv (.pointer (some ⟨b, 0, none⟩)) (Zv (.pointer (some ⟨b, 0, none⟩)) (kI (L' := ob ++ ([] : List Blk)) (List.append_nil _).symm (y9 (k := 23) (args := #[.pointer (some ⟨b, 0, none⟩), .string ⟨#[45]⟩]) (fun v' L' => v' = .tuple #[.int .i64 ((mkS [45]).size : Int), .nilIface] ∧ ∃ ob', L' = ob' ++ ([] : List Blk) ∧ Bu b (l0 ++ [45]) ob') (by kernel_rfl) (fun _ => by kernel_rfl) (fun w hO => (qU b l0 [45] ob w hB (Own.lent (R := ([] : List Blk)) hO) (by first | omega | (simp only [List.length_append, List.length_cons, List.length_nil]; omega)) (by first | omega | (simp only [List.length_append, List.length_cons, List.length_nil]; omega))).mono fun e w' ⟨ob', k1, k2, k3⟩ => ⟨_, _, k1, ⟨rfl, ob', rfl, k2⟩, Own.back hO k3⟩) (fun vl1 Ll1 hvl1 => ?_)))))))
    obtain ⟨rfl, ob1, rfl, hB1⟩ := hvl1
    refine kI (L' := ob1) (List.append_nil _) (ZR (Zv (.slice A l.length cap) (Zv (.int .i64 (l.length : Int)) (Zv (.int .i64 0) (ZN (zX (qS (L' := ob1 ++ ([] : List Blk)) (List.append_nil _).symm ?_)))))))
    refine kH (fun L f m => ∃ (k : Nat) (oc : List Blk) (j : Nat → Value), (k ≤ l.length ∧ Bu b (l0 ++ [45] ++ gB l k) oc) ∧ L = oc ++ ([] : List Blk) ∧ f = jD j [(0, .pointer (some ⟨b, 0, none⟩)), (13, .slice A l.length cap), (14, .int .i64 (l.length : Int)), (15, .int .i64 (k : Int))] ∧ m = l.length - k) (l.length - 0) ⟨0, ob1, _, ⟨Nat.zero_le _, by rw [rowK_zero, List.append_nil]; exact hB1⟩, rfl, ZU, rfl⟩ ?_
    rintro L f m ⟨k, oc, j, hrel, rfl, rfl, rfl⟩
    obtain ⟨hkl, hBk⟩ := hrel; have hrk := p4 hm k; refine qS (L' := oc) (List.append_nil oc) ?_
    refine ZO (Zd (p := (k : Int) < (l.length : Int)) false (decide_eq_false (by omega)) (ZN (z8 (Zf (xQ (yA (y5 (zW (jA Tryz.results22 ?_)))))))))
    intro w hO
    have e0 : l = [] := List.eq_nil_of_length_eq_zero (by omega)
    have e2 : gB l k = [] := by rw [e0]; unfold gB; simp [gQ]
    rw [e2] at hBk
    exact ⟨oc, rfl, by rw [show zT l = [45] from by rw [e0]; rfl]; simpa using hBk, hO⟩
  refine Zd (p := (l.length : Int) = 0) false (decide_eq_false (h1)) (ZX (ZB (ZO (Zv (.slice A l.length cap) (Zv (.int .i64 (l.length : Int)) (Zv (.int .i64 0) (zL ?_)))))))
  refine z7 (zX (qS (L' := ob ++ ([] : List Blk)) (List.append_nil _).symm (kH (fun L f m => ∃ (k : Nat) (oc : List Blk) (j : Nat → Value), (k ≤ l.length ∧ Bu b (l0 ++ gB l k) oc) ∧ L = oc ++ ([] : List Blk) ∧ f = jD j [(0, .pointer (some ⟨b, 0, none⟩)), (13, .slice A l.length cap), (14, .int .i64 (l.length : Int)), (15, .int .i64 (k : Int))] ∧ m = l.length - k) (l.length - 0) ⟨0, ob, _, ⟨Nat.zero_le _, by rw [rowK_zero, List.append_nil]; exact hB⟩, rfl, ZU, rfl⟩ ?_)))
  rintro L f m ⟨k, oc, j, hrel, rfl, rfl, rfl⟩
  obtain ⟨hkl, hBk⟩ := hrel; have hrk := p4 hm k; refine qS (L' := oc) (List.append_nil oc) ?_
  refine z8 (zA ?_)
  by_cases h2 : (k : Int) < (l.length : Int)
  · have hk : k < l.length := by omega
    obtain ⟨bp, off, hA, hlt, hcell⟩ := hv (by omega)
    obtain ⟨s, hs⟩ : ∃ s, l[k] = s := ⟨_, rfl⟩
    have hsm : s ∈ l := hs ▸ List.getElem_mem hk
    have hsl := sp_len (hm s hsm)
    refine Zd (p := (k : Int) < (l.length : Int)) true (decide_eq_true (h2)) (ZN (z8 (Zt (ZB (z8 (zX (ZO (Zv (.int .i64 (k : Int)) ?_))))))))
    refine zK (.pointer (some ⟨bp, off + k * 14, none⟩)) (by kernel_rfl) (ZA (b := bp) (off := off) (c := cap) (n := l.length) (k := .i64) (j := (k : Int)) (e := 74) (sz := 14) hA) (Zo (zF s) (a := ⟨bp, off + k * 14, none⟩) (fun w hO => yH yD (fun j u h => ((hO.belowB hM' hBW).cell (p := ⟨bp, off + j, none⟩) hlt).trans (hcell j u h)) k 0 hk (by omega) _ (by rw [hs]; kernel_rfl)) (Za (.agg #[.int .i64 0, .int .i64 0, .int .i64 0, .int .i64 0, .string ⟨#[]⟩, .string ⟨#[]⟩, .bool false, .int .i64 0, .int .i64 0, .int .i64 0, .int .i64 0, .string ⟨#[]⟩, .string ⟨#[]⟩, .bool false]) (fun b1 => Zv (.int .i64 (k : Int)) (Zs 0 ⟨b1, #[.int .i64 0, .int .i64 0, .int .i64 0, .int .i64 0, .string ⟨#[]⟩, .string ⟨#[]⟩, .bool false, .int .i64 0, .int .i64 0, .int .i64 0, .int .i64 0, .string ⟨#[]⟩, .string ⟨#[]⟩, .bool false], 74⟩ (off := 0) (zF s) (ZN (z8 (ZO (Zv (.int .i64 (k : Int)) ?_))))))))
    by_cases h3 : (0 : Int) < (k : Int)
    · refine xO (p := (0 : Int) < (k : Int)) true (by kernel_rfl) (fun _ => by kernel_rfl) (decide_eq_true (h3)) ?_
      refine ZY (zA (Zv (.pointer (some ⟨b, 0, none⟩)) (Zv (.pointer (some ⟨b, 0, none⟩)) (Zv (.pointer (some ⟨b, 0, none⟩)) (yY (L' := oc ++ ([⟨b1, (zF s).cells, 74⟩] : List Blk)) (fun w hO => hO.perm (List.perm_append_comm (l₁ := ([⟨b1, (zF s).cells, 74⟩] : List Blk)) (l₂ := oc))) (y9 (k := 23) (args := #[.pointer (some ⟨b, 0, none⟩), .string ⟨#[32, 111, 114, 32]⟩]) (fun v' L' => v' = .tuple #[.int .i64 ((mkS ([32, 111, 114, 32])).size : Int), .nilIface] ∧ ∃ ob', L' = ob' ++ ([⟨b1, (zF s).cells, 74⟩] : List Blk) ∧ Bu b (l0 ++ gB l k ++ ([32, 111, 114, 32])) ob') (by kernel_rfl) (fun _ => by kernel_rfl) (fun w hO => (qU b (l0 ++ gB l k) ([32, 111, 114, 32]) oc w hBk (Own.lent (R := ([⟨b1, (zF s).cells, 74⟩] : List Blk)) hO) (by first | omega | (simp only [List.length_append, List.length_cons, List.length_nil]; omega)) (by first | omega | (simp only [List.length_append, List.length_cons, List.length_nil]; omega))).mono fun e w' ⟨ob', k1, k2, k3⟩ => ⟨_, _, k1, ⟨rfl, ob', rfl, k2⟩, Own.back hO k3⟩) (fun vl2 Ll2 hvl2 => ?_)))))))
      obtain ⟨rfl, ob2, rfl, hB2⟩ := hvl2
      refine yY (L' := ⟨b1, (zF s).cells, 74⟩ :: (ob2)) (fun w hO => hO.perm (List.perm_append_comm (l₁ := ob2) (l₂ := ([⟨b1, (zF s).cells, 74⟩] : List Blk)))) (ZN (zA (Zv (.pointer (some ⟨b, 0, none⟩)) (Zl 0 ⟨b1, (zF s).cells, 74⟩ (off := 0) (zF s) (yY (L' := ob2 ++ ([⟨b1, (zF s).cells, 74⟩] : List Blk)) (fun w hO => hO.perm (List.perm_append_comm (l₁ := ([⟨b1, (zF s).cells, 74⟩] : List Blk)) (l₂ := ob2))) (y9 (k := 41) (args := #[.pointer (some ⟨b, 0, none⟩), zF s]) (fun v' L' => v' = .tuple #[] ∧ ∃ ob', L' = ob' ++ ([⟨b1, (zF s).cells, 74⟩] : List Blk) ∧ Bu b (l0 ++ gB l k ++ ([32, 111, 114, 32]) ++ yF s) ob') (by kernel_rfl) (fun _ => by kernel_rfl) (fun w hO => (wspan_any b (l0 ++ gB l k ++ ([32, 111, 114, 32])) s ob2 w hB2 (Own.lent (R := ([⟨b1, (zF s).cells, 74⟩] : List Blk)) hO) B (fun x hx => hO.allB hM' hBW x (List.mem_append_left _ hx)) (Nat.le_trans hBW hO.size) (hT.on (hO.belowB hM' hBW)) (by first | omega | (simp only [List.length_append, List.length_cons, List.length_nil]; omega)) (hm s hsm) (hsh s hsm)).mono fun e w' ⟨ob', k1, k2, k3⟩ => ⟨_, _, k1, ⟨rfl, ob', rfl, k2⟩, Own.back hO k3⟩) (fun vl3 Ll3 hvl3 => ?_)))))))
      obtain ⟨rfl, ob3, rfl, hB3⟩ := hvl3
      refine yY (L' := ⟨b1, (zF s).cells, 74⟩ :: (ob3)) (fun w hO => hO.perm (List.perm_append_comm (l₁ := ob3) (l₂ := ([⟨b1, (zF s).cells, 74⟩] : List Blk)))) (zL (zR (z7 (zA (Zu (k := .i64) (((k + 1 : Nat) : Int)) (IntWalk.i64_in _ (by omega)) (Zv (.int .i64 ((k + 1 : Nat) : Int)) (zL ?_)))))))
      have hnx : Bu b (l0 ++ gB l (k + 1)) ob3 := by rw [fU hk, if_neg (show ¬ k = 0 by omega), hs]; simpa using hB3
      exact xT (L' := ob3 ++ ([] : List Blk)) (fun w hO => by rw [List.append_nil]; exact Own.sub [⟨b1, (zF s).cells, 74⟩] hO) (zY (m' := l.length - (k + 1)) (by omega) ⟨k + 1, ob3, _, ⟨by omega, hnx⟩, rfl, ZU, rfl⟩)
    refine Zd (p := (0 : Int) < (k : Int)) false (decide_eq_false (h3)) (ZX (ZB (zA (Zv (.pointer (some ⟨b, 0, none⟩)) (Zl 0 ⟨b1, (zF s).cells, 74⟩ (off := 0) (zF s) (yY (L' := oc ++ ([⟨b1, (zF s).cells, 74⟩] : List Blk)) (fun w hO => hO.perm (List.perm_append_comm (l₁ := ([⟨b1, (zF s).cells, 74⟩] : List Blk)) (l₂ := oc))) (y9 (k := 41) (args := #[.pointer (some ⟨b, 0, none⟩), zF s]) (fun v' L' => v' = .tuple #[] ∧ ∃ ob', L' = ob' ++ ([⟨b1, (zF s).cells, 74⟩] : List Blk) ∧ Bu b (l0 ++ gB l k ++ yF s) ob') (by kernel_rfl) (fun _ => by kernel_rfl) (fun w hO => (wspan_any b (l0 ++ gB l k) s oc w hBk (Own.lent (R := ([⟨b1, (zF s).cells, 74⟩] : List Blk)) hO) B (fun x hx => hO.allB hM' hBW x (List.mem_append_left _ hx)) (Nat.le_trans hBW hO.size) (hT.on (hO.belowB hM' hBW)) (by first | omega | (simp only [List.length_append, List.length_cons, List.length_nil]; omega)) (hm s hsm) (hsh s hsm)).mono fun e w' ⟨ob', k1, k2, k3⟩ => ⟨_, _, k1, ⟨rfl, ob', rfl, k2⟩, Own.back hO k3⟩) (fun vl4 Ll4 hvl4 => ?_))))))))
    obtain ⟨rfl, ob4, rfl, hB4⟩ := hvl4
    refine yY (L' := ⟨b1, (zF s).cells, 74⟩ :: (ob4)) (fun w hO => hO.perm (List.perm_append_comm (l₁ := ob4) (l₂ := ([⟨b1, (zF s).cells, 74⟩] : List Blk)))) (zL (zR (z7 (zA (Zu (k := .i64) (((k + 1 : Nat) : Int)) (IntWalk.i64_in _ (by omega)) (Zv (.int .i64 ((k + 1 : Nat) : Int)) (zL ?_)))))))
    have e0 : gB l k = [] := by rw [show k = 0 by omega]; rfl
    rw [e0] at hB4
    have hnx : Bu b (l0 ++ gB l (k + 1)) ob4 := by rw [fU hk, if_pos (show k = 0 by omega), hs]; simpa using hB4
    exact xT (L' := ob4 ++ ([] : List Blk)) (fun w hO => by rw [List.append_nil]; exact Own.sub [⟨b1, (zF s).cells, 74⟩] hO) (zY (m' := l.length - (k + 1)) (by omega) ⟨k + 1, ob4, _, ⟨by omega, hnx⟩, rfl, ZU, rfl⟩)
  exact Zd (p := (k : Int) < (l.length : Int)) false (decide_eq_false (h2)) (ZN (z8 (Zf (xQ (yA (y5 (zW (jA Tryz.results22 (fun w hO => ⟨oc, rfl, by rw [← rowK_all (l := l) (k := k) (fun e => h1 (by rw [e]; rfl)) (by omega)]; exact hBk, hO⟩)))))))))
end
section
theorem sls_lit (s : Sp) (b : Nat) (cur : Array Value) (h : cur.toList = yB s) : SlS (.slice (some ⟨b, 0, none⟩) 1 1) [s] [⟨b, cur, 74⟩] := by
  have e : ([s] : List Sp).flatMap yB = yB s := List.append_nil _
  have hc : cur.toList.length = 14 := by rw [h]; rfl
  refine ⟨by rw [e]; rfl, .inr ⟨b, 1, cur, rfl, rfl, Nat.le_refl _, by decide, by rw [← Array.length_toList, hc], ?_⟩⟩
  rw [e, h]
  exact List.take_of_length_le (Nat.le_refl 14)
end
section
theorem turn_short {c : Cu} (h : c.short) : (k7 c).short := by
  unfold k7
  split
  · exact h
  · split
    · unfold hZ
      split
      · exact next_short _
      · exact ⟨by simp [zQ, Ver.zero], by simp [zQ, Ver.zero]⟩
    · unfold wJ
      split
      · exact ⟨by simp [zQ, Ver.zero], by simp [zQ, Ver.zero]⟩
      · exact dA _
def nS (l : List Sp) (k : Nat) : List Sp := ((l.take k).map dQ).filter (·.may)
theorem turnL_step {l : List Sp} {k : Nat} (hk : k < l.length) {s : Sp} (hs : l[k] = s) : nS l (k + 1) = nS l k ++ (if (dQ s).may then [dQ s] else []) := by
  unfold nS
  rw [List.take_succ_eq_append_getElem hk, List.map_append, List.filter_append, hs]
  congr 1
  show List.filter _ [dQ s] = _
  cases h : (dQ s).may <;> simp [h]
theorem fO (l : List Sp) (k : Nat) : (nS l k).length ≤ k := by
  unfold nS
  refine Nat.le_trans (List.length_filter_le _ _) ?_
  rw [List.length_map, List.length_take]; omega
structure MkI (l : List Sp) (k : Nat) (u : Value) (acc : List Sp) (ob : List Blk) : Prop where
  le : k ≤ l.length
  sl : SlS u acc ob
  eq : acc = nS l k
theorem MkI.keep {l : List Sp} {k : Nat} {u : Value} {acc : List Sp} {ob : List Blk} (h : MkI l k u acc ob) (hk : k < l.length) {s : Sp} {x y : Cu} (hs : l[k] = s) (hx : k7 s.lo = x) (hy : k7 s.hi = y) (hm : (Sp.mk x y).may = false) : MkI l (k + 1) u acc ob :=
  ⟨hk, h.sl, by rw [turnL_step hk hs, show dQ s = ⟨x, y⟩ from by unfold dQ; rw [hx, hy], hm, h.eq]; simp⟩
theorem MkI.grow {l : List Sp} {k : Nat} {u u2 : Value} {acc : List Sp} {ob ob2 : List Blk} (h : MkI l k u acc ob) (hk : k < l.length) {s : Sp} {x y : Cu} (hs : l[k] = s) (hx : k7 s.lo = x) (hy : k7 s.hi = y) (hm : (Sp.mk x y).may = true) (h2 : Sl 74 14 u2 (acc.length + 1) (acc.flatMap yB ++ yB ⟨x, y⟩) ob2) : MkI l (k + 1) u2 (acc ++ [⟨x, y⟩]) ob2 :=
  ⟨hk, h2.to (by simp) (by simp), by rw [turnL_step hk hs, show dQ s = ⟨x, y⟩ from by unfold dQ; rw [hx, hy], hm, ← h.eq, if_pos rfl]⟩
theorem turnL_may (l : List Sp) (k : Nat) : ∀ s ∈ nS l k, s.may = true := fun s hs => by
  unfold nS at hs
  exact (List.mem_filter.1 hs).2
theorem own_mk {M : List Nat} {W w : World} {x : Blk} {A B C : List Blk} (h : Own M W w ([] ++ A ++ (B ++ (C ++ [x])))) : Own M W w (x :: (A ++ B)) := by
  have h1 : Own M W w (A ++ (B ++ (C ++ [x]))) := h
  have h2 : Own M W w (A ++ (B ++ [x])) := h1.sublist ((List.Sublist.refl A).append ((List.Sublist.refl B).append (List.sublist_append_right C [x])))
  exact h2.perm (by rw [← List.append_assoc]; exact List.perm_append_comm)
theorem own_mid0 {M : List Nat} {W w : World} {x : Blk} {A : List Blk} (h : Own M W w (x :: A)) : Own M W w A := h.sublist (List.sublist_cons_self x A)
theorem own_drop {M : List Nat} {W w : World} {x y z : Blk} {A : List Blk} (h : Own M W w ([x, y] ++ A ++ [z])) : Own M W w (A ++ [z]) := h.sublist (by rw [List.append_assoc]; exact List.sublist_append_right [x, y] _)
theorem rsetMake_any (A B : Option Addr) (c d : Nat) (l q : List Sp) (W : World) (hv : Reads yB W W.heap.size A l) (hu : Reads yB W W.heap.size B q) (hn : l.length ≤ 100000) (hk : q.length ≤ 100000) (hl : yL l) (hm : yL q) :
    Calls Tryz.prog 32 #[.slice A l.length c, .slice B q.length d] W fun e w' => ∃ v' ob', e = .returned (.tuple #[v', .bool (zS l && zS q)]) ∧ SetO v' (if zS l && zS q then ⟨xM l, q⟩ else xV) ob' ∧ Own [] W w' ob' := by
  refine zM (n := 54) Tryz.func32 rfl (by kernel_rfl) (by kernel_rfl) (ZO (Za (.agg #[.slice none 0 0, .slice none 0 0]) (fun b1 => Zv (.bool false) (ZN (z8 (ZO (Zv (.slice A l.length c) (Zc (k := 43) (args := #[.slice A l.length c]) (.bool (zS l)) (fun w hO => wN A c l w (hv.on hO.below hO.below.size) (Nat.le_trans hn (by decide)) hl) ?_))))))))
  cases h1 : zS l with
  | true =>
    refine Zv (.bool false) (Zv (.bool false) (Zv (.slice B q.length d) (Zc (k := 43) (args := #[.slice B q.length d]) (.bool (zS q)) (fun w hO => wN B d q w (hu.on hO.below hO.below.size) (Nat.le_trans hk (by decide)) hm) ?_)))
    cases h2 : zS q with
    | true =>
      refine Zv (.bool false) (Zv (.bool false) (ZX (ZB (ZO (Zv (.slice none 0 0) (zL (z7 ?_)))))))
      refine z8 (ZO (Zv (.int .i64 0) (ZN (zX (qS (L' := [] ++ [⟨b1, #[.slice none 0 0, .slice none 0 0], 24⟩]) rfl (kH (fun L f m => ∃ (k : Nat) (u : Value) (acc : List Sp) (ob : List Blk) (j : Nat → Value), (MkI l k u acc ob) ∧ L = ob ++ [⟨b1, #[.slice none 0 0, .slice none 0 0], 24⟩] ∧ f = jD j [(0, .slice A l.length c), (1, .slice B q.length d), (4, .pointer (some ⟨b1, 0, none⟩)), (6, u), (7, .int .i64 (k : Int))] ∧ m = l.length - k) (l.length - 0) ⟨0, _, [], [], _, ⟨Nat.zero_le _, Sl.nil _ _, rfl⟩, rfl, ZU, rfl⟩ ?_))))))
      rintro L f m ⟨k, u, acc, ob, j, hrel, rfl, rfl, rfl⟩
      have hkl := hrel.le
      refine z8 (ZO (Zv (.int .i64 (k : Int)) (Zv (.slice A l.length c) (Zv (.int .i64 (l.length : Int)) ?_))))
      by_cases h3 : (k : Int) < (l.length : Int)
      · have hlk : k < l.length := by omega
        obtain ⟨b, off, hA, hlt, hcell⟩ := hv (by omega)
        obtain ⟨s, he⟩ : ∃ s, l[k] = s := ⟨_, rfl⟩
        have hsk : s.short := he ▸ hl _ (List.getElem_mem _)
        obtain ⟨x, hx⟩ : ∃ x, k7 s.lo = x := ⟨_, rfl⟩
        obtain ⟨y, hy⟩ : ∃ y, k7 s.hi = y := ⟨_, rfl⟩
        have hxS : x.short := hx ▸ turn_short hsk.1
        have hyS : y.short := hy ▸ turn_short hsk.2
        refine Zd (p := (k : Int) < (l.length : Int)) true (decide_eq_true (h3)) (ZY (ZB (z8 (zX (z8 (ok_anyh (by kernel_rfl) (ZT 0 [] _ (.slice A l.length c) (zJ (zH (zJ (yE (zH (zJ zU)))))) rfl (ZT 1 [] _ (.int .i64 (k : Int)) (zJ (zH (zJ (yE (zH (zJ zU)))))) rfl ?_))))))))
        refine h_take 2 [] _ (.pointer (some ⟨b, off + k * 14, none⟩)) rfl (by kernel_rfl) (by kernel_rfl) (by kernel_rfl) (zJ (zH (zJ (yE (zH (zJ zU)))))) (by kernel_rfl) (fun w _ => qR (b := b) (off := off) (c := c) (n := l.length) (k := .i64) (j := (k : Int)) (e := 74) (sz := 14) rfl (by kernel_rfl) hA (by kernel_rfl) (by kernel_rfl) (by kernel_rfl) (by omega) (by omega) (by omega) w) (ZT 3 [] _ (.pointer (some ⟨b, off + k * 14 + 0, none⟩)) (zJ (zH (zJ (yE (zH (zJ zU)))))) rfl (hl_old 4 _ (a := ⟨b, off + k * 14 + 0, none⟩) (zC s.lo) rfl (by kernel_rfl) (by kernel_rfl) (by kernel_rfl) (zJ (zH (zJ (yE (zH (zJ zU)))))) (fun w hO => Own.sub [] hO) (by kernel_rfl) rfl (by kernel_rfl) (fun w hO => yH yD (fun j u h => (hO.below.cell (p := ⟨b, off + j, none⟩) hlt).trans (hcell j u h)) k 0 hlk (by omega) _ (by rw [he]; kernel_rfl)) (ZT 6 [] _ (.slice A l.length c) (zJ (zH (zJ (yE (zH (zJ zU)))))) rfl (ZT 7 [] _ (.int .i64 (k : Int)) (zJ (zH (zJ (yE (zH (zJ zU)))))) rfl (h_take 8 [] _ (.pointer (some ⟨b, off + k * 14, none⟩)) rfl (by kernel_rfl) (by kernel_rfl) (by kernel_rfl) (zJ (zH (zJ (yE (zH (zJ zU)))))) (by kernel_rfl) (fun w _ => qR (b := b) (off := off) (c := c) (n := l.length) (k := .i64) (j := (k : Int)) (e := 74) (sz := 14) rfl (by kernel_rfl) hA (by kernel_rfl) (by kernel_rfl) (by kernel_rfl) (by omega) (by omega) (by omega) w) (ZT 9 [] _ (.pointer (some ⟨b, off + k * 14 + 7, none⟩)) (zJ (zH (zJ (yE (zH (zJ zU)))))) rfl (hl_old 10 _ (a := ⟨b, off + k * 14 + 7, none⟩) (zC s.hi) rfl (by kernel_rfl) (by kernel_rfl) (by kernel_rfl) (zJ (zH (zJ (yE (zH (zJ zU)))))) (fun w hO => Own.sub [] hO) (by kernel_rfl) rfl (by kernel_rfl) (fun w hO => yH yD (fun j u h => (hO.below.cell (p := ⟨b, off + j, none⟩) hlt).trans (hcell j u h)) k 7 hlk (by omega) _ (by rw [he]; kernel_rfl)) (h_two 5 13 (by kernel_rfl) ?_ ?_))))))))
        · refine dG [] _ (k := 52) (args := #[zC s.lo]) (zC x) rfl (by kernel_rfl) (fun _ => by kernel_rfl) (fun w _ => qM (by rw [hx]) (j3 s.lo w hsk.1)) ?_
          refine h_two 11 13 (by kernel_rfl) ?_ ?_
          · refine dG [] _ (k := 52) (args := #[zC s.hi]) (zC y) rfl (by kernel_rfl) (fun _ => by kernel_rfl) (fun w _ => qM (by rw [hy]) (j3 s.hi w hsk.2)) ?_
            refine ZT 12 [] _ (.agg #[.int .i64 x.e, .int .i64 x.v.maj, .int .i64 x.v.min, .int .i64 x.v.pat, .string (mkS x.v.pre), .string (mkS x.v.build), .bool x.aft, .int .i64 y.e, .int .i64 y.v.maj, .int .i64 y.v.min, .int .i64 y.v.pat, .string (mkS y.v.pre), .string (mkS y.v.build), .bool y.aft]) (zJ (zH (zJ (yE (zH (zJ zU)))))) rfl (gJ 13 (by kernel_rfl) (hs_alloc [] _ (.agg #[.int .i64 0, .int .i64 0, .int .i64 0, .int .i64 0, .string ⟨#[]⟩, .string ⟨#[]⟩, .bool false, .int .i64 0, .int .i64 0, .int .i64 0, .int .i64 0, .string ⟨#[]⟩, .string ⟨#[]⟩, .bool false]) rfl (by kernel_rfl) rfl (by kernel_rfl) (fun b2 => gJ 14 (by kernel_rfl) (ZS [⟨b2, #[.int .i64 0, .int .i64 0, .int .i64 0, .int .i64 0, .string ⟨#[]⟩, .string ⟨#[]⟩, .bool false, .int .i64 0, .int .i64 0, .int .i64 0, .int .i64 0, .string ⟨#[]⟩, .string ⟨#[]⟩, .bool false], 74⟩] _ 0 ⟨b2, #[.int .i64 0, .int .i64 0, .int .i64 0, .int .i64 0, .string ⟨#[]⟩, .string ⟨#[]⟩, .bool false, .int .i64 0, .int .i64 0, .int .i64 0, .int .i64 0, .string ⟨#[]⟩, .string ⟨#[]⟩, .bool false], 74⟩ (off := 0) (.agg #[.int .i64 x.e, .int .i64 x.v.maj, .int .i64 x.v.min, .int .i64 x.v.pat, .string (mkS x.v.pre), .string (mkS x.v.build), .bool x.aft, .int .i64 y.e, .int .i64 y.v.maj, .int .i64 y.v.min, .int .i64 y.v.pat, .string (mkS y.v.pre), .string (mkS y.v.build), .bool y.aft]) rfl rfl (wC (by kernel_rfl) (z7 (ZO (Zl 0 ⟨b2, #[.int .i64 x.e, .int .i64 x.v.maj, .int .i64 x.v.min, .int .i64 x.v.pat, .string (mkS x.v.pre), .string (mkS x.v.build), .bool x.aft, .int .i64 y.e, .int .i64 y.v.maj, .int .i64 y.v.min, .int .i64 y.v.pat, .string (mkS y.v.pre), .string (mkS y.v.build), .bool y.aft], 74⟩ (off := 0) (.agg #[.int .i64 x.e, .int .i64 x.v.maj, .int .i64 x.v.min, .int .i64 x.v.pat, .string (mkS x.v.pre), .string (mkS x.v.build), .bool x.aft, .int .i64 y.e, .int .i64 y.v.maj, .int .i64 y.v.min, .int .i64 y.v.pat, .string (mkS y.v.pre), .string (mkS y.v.build), .bool y.aft]) (Zc (k := 53) (args := #[.agg #[.int .i64 x.e, .int .i64 x.v.maj, .int .i64 x.v.min, .int .i64 x.v.pat, .string (mkS x.v.pre), .string (mkS x.v.build), .bool x.aft, .int .i64 y.e, .int .i64 y.v.maj, .int .i64 y.v.min, .int .i64 y.v.pat, .string (mkS y.v.pre), .string (mkS y.v.build), .bool y.aft]]) (.bool ((⟨x, y⟩ : Sp).may)) (fun w _ => gL ⟨x, y⟩ w ⟨hxS, hyS⟩) (zL ?_))))))))))
            refine z7 ?_
            cases h4 : (⟨x, y⟩ : Sp).may with
            | true =>
              refine Zt (zA (Zv (u) (Zl 0 ⟨b2, #[.int .i64 x.e, .int .i64 x.v.maj, .int .i64 x.v.min, .int .i64 x.v.pat, .string (mkS x.v.pre), .string (mkS x.v.build), .bool x.aft, .int .i64 y.e, .int .i64 y.v.maj, .int .i64 y.v.min, .int .i64 y.v.pat, .string (mkS y.v.pre), .string (mkS y.v.build), .bool y.aft], 74⟩ (off := 0) (.agg #[.int .i64 x.e, .int .i64 x.v.maj, .int .i64 x.v.min, .int .i64 x.v.pat, .string (mkS x.v.pre), .string (mkS x.v.build), .bool x.aft, .int .i64 y.e, .int .i64 y.v.maj, .int .i64 y.v.min, .int .i64 y.v.pat, .string (mkS y.v.pre), .string (mkS y.v.build), .bool y.aft]) (bG 74 #[.int .i64 x.e, .int .i64 x.v.maj, .int .i64 x.v.min, .int .i64 x.v.pat, .string (mkS x.v.pre), .string (mkS x.v.build), .bool x.aft, .int .i64 y.e, .int .i64 y.v.maj, .int .i64 y.v.min, .int .i64 y.v.pat, .string (mkS y.v.pre), .string (mkS y.v.build), .bool y.aft] (by kernel_rfl) rfl (fun _ => by kernel_rfl) (fun b3 => ?_)))))
              obtain ⟨i0, z0, e1, e2, e3, e4, e5⟩ := gD
              have hln : acc.length ≤ k := by rw [hrel.eq]; exact fO l k
              refine kI (L' := [⟨b3, #[.int .i64 x.e, .int .i64 x.v.maj, .int .i64 x.v.min, .int .i64 x.v.pat, .string (mkS x.v.pre), .string (mkS x.v.build), .bool x.aft, .int .i64 y.e, .int .i64 y.v.maj, .int .i64 y.v.min, .int .i64 y.v.pat, .string (mkS y.v.pre), .string (mkS y.v.build), .bool y.aft], 74⟩, ⟨b2, #[.int .i64 x.e, .int .i64 x.v.maj, .int .i64 x.v.min, .int .i64 x.v.pat, .string (mkS x.v.pre), .string (mkS x.v.build), .bool x.aft, .int .i64 y.e, .int .i64 y.v.maj, .int .i64 y.v.min, .int .i64 y.v.pat, .string (mkS y.v.pre), .string (mkS y.v.build), .bool y.aft], 74⟩] ++ ob ++ [⟨b1, #[.slice none 0 0, .slice none 0 0], 24⟩]) (by rw [List.append_assoc]; kernel_rfl) (qA (sz := 14) (by kernel_rfl) rfl Tryz.underlying22 e1 e2 e3 e4 (by kernel_rfl) hrel.sl (a := ⟨b3, 0, none⟩) (m := 1) (c := 1) (news := yB ⟨x, y⟩) (by kernel_rfl) rfl (fun w hO j u hj => ?_) (kP _) (by unfold maxLen; omega) (by rw [e5]; omega) (fun u2 ob2 hu2 => ?_))
              · rw [yM, cell_of_row w b3 (0 + j) (yB ⟨x, y⟩).toArray 74 _ (hO.held ⟨b3, (yB ⟨x, y⟩).toArray, 74⟩ (List.mem_append_left _ (List.mem_append_left _ (List.mem_cons_self ..))))]; simpa using hj
              exact Zv (u2) (zL (zR (z7 (zA (Zv (.int .i64 (k : Int)) (Zu (k := .i64) (((k + 1 : Nat) : Int)) (IntWalk.i64_in _ (by omega)) (Zv (.int .i64 ((k + 1 : Nat) : Int)) (zL (xT (L' := ob2 ++ [⟨b1, #[.slice none 0 0, .slice none 0 0], 24⟩]) (fun w hO => own_drop hO) (zY (m' := l.length - (k + 1)) (by omega) ⟨k + 1, u2, _, ob2, _, hrel.grow hlk he hx hy (by assumption) hu2, rfl, ZU, rfl⟩))))))))))
            | false =>
              exact Zf (yT (zR (z7 (zA (Zv (.int .i64 (k : Int)) (Zu (k := .i64) (((k + 1 : Nat) : Int)) (IntWalk.i64_in _ (by omega)) (Zv (.int .i64 ((k + 1 : Nat) : Int)) (zL (xT (L' := ob ++ [⟨b1, #[.slice none 0 0, .slice none 0 0], 24⟩]) (fun w hO => Own.sub [_] hO) (zY (m' := l.length - (k + 1)) (by omega) ⟨k + 1, u, acc, ob, _, hrel.keep hlk he hx hy (by assumption), rfl, ZU, rfl⟩))))))))))
          refine hs_alloc [] _ (.agg #[.int .i64 0, .int .i64 0, .int .i64 0, .int .i64 0, .string ⟨#[]⟩, .string ⟨#[]⟩, .bool false, .int .i64 0, .int .i64 0, .int .i64 0, .int .i64 0, .string ⟨#[]⟩, .string ⟨#[]⟩, .bool false]) rfl (by kernel_rfl) rfl (by kernel_rfl) (fun b2 => gJ 11 (by kernel_rfl) (dG [⟨b2, #[.int .i64 0, .int .i64 0, .int .i64 0, .int .i64 0, .string ⟨#[]⟩, .string ⟨#[]⟩, .bool false, .int .i64 0, .int .i64 0, .int .i64 0, .int .i64 0, .string ⟨#[]⟩, .string ⟨#[]⟩, .bool false], 74⟩] _ (k := 52) (args := #[zC s.hi]) (zC y) rfl (by kernel_rfl) (fun _ => by kernel_rfl) (fun w _ => qM (by rw [hy]) (j3 s.hi w hsk.2)) (ZT 12 [⟨b2, #[.int .i64 0, .int .i64 0, .int .i64 0, .int .i64 0, .string ⟨#[]⟩, .string ⟨#[]⟩, .bool false, .int .i64 0, .int .i64 0, .int .i64 0, .int .i64 0, .string ⟨#[]⟩, .string ⟨#[]⟩, .bool false], 74⟩] _ (.agg #[.int .i64 x.e, .int .i64 x.v.maj, .int .i64 x.v.min, .int .i64 x.v.pat, .string (mkS x.v.pre), .string (mkS x.v.build), .bool x.aft, .int .i64 y.e, .int .i64 y.v.maj, .int .i64 y.v.min, .int .i64 y.v.pat, .string (mkS y.v.pre), .string (mkS y.v.build), .bool y.aft]) (zJ (zH (zJ (yE (zH (zJ zU)))))) rfl (gJ 14 (by kernel_rfl) (ZS [⟨b2, #[.int .i64 0, .int .i64 0, .int .i64 0, .int .i64 0, .string ⟨#[]⟩, .string ⟨#[]⟩, .bool false, .int .i64 0, .int .i64 0, .int .i64 0, .int .i64 0, .string ⟨#[]⟩, .string ⟨#[]⟩, .bool false], 74⟩] _ 0 ⟨b2, #[.int .i64 0, .int .i64 0, .int .i64 0, .int .i64 0, .string ⟨#[]⟩, .string ⟨#[]⟩, .bool false, .int .i64 0, .int .i64 0, .int .i64 0, .int .i64 0, .string ⟨#[]⟩, .string ⟨#[]⟩, .bool false], 74⟩ (off := 0) (.agg #[.int .i64 x.e, .int .i64 x.v.maj, .int .i64 x.v.min, .int .i64 x.v.pat, .string (mkS x.v.pre), .string (mkS x.v.build), .bool x.aft, .int .i64 y.e, .int .i64 y.v.maj, .int .i64 y.v.min, .int .i64 y.v.pat, .string (mkS y.v.pre), .string (mkS y.v.build), .bool y.aft]) rfl rfl (wC (by kernel_rfl) (z7 (ZO (Zl 0 ⟨b2, #[.int .i64 x.e, .int .i64 x.v.maj, .int .i64 x.v.min, .int .i64 x.v.pat, .string (mkS x.v.pre), .string (mkS x.v.build), .bool x.aft, .int .i64 y.e, .int .i64 y.v.maj, .int .i64 y.v.min, .int .i64 y.v.pat, .string (mkS y.v.pre), .string (mkS y.v.build), .bool y.aft], 74⟩ (off := 0) (.agg #[.int .i64 x.e, .int .i64 x.v.maj, .int .i64 x.v.min, .int .i64 x.v.pat, .string (mkS x.v.pre), .string (mkS x.v.build), .bool x.aft, .int .i64 y.e, .int .i64 y.v.maj, .int .i64 y.v.min, .int .i64 y.v.pat, .string (mkS y.v.pre), .string (mkS y.v.build), .bool y.aft]) (Zc (k := 53) (args := #[.agg #[.int .i64 x.e, .int .i64 x.v.maj, .int .i64 x.v.min, .int .i64 x.v.pat, .string (mkS x.v.pre), .string (mkS x.v.build), .bool x.aft, .int .i64 y.e, .int .i64 y.v.maj, .int .i64 y.v.min, .int .i64 y.v.pat, .string (mkS y.v.pre), .string (mkS y.v.build), .bool y.aft]]) (.bool ((⟨x, y⟩ : Sp).may)) (fun w _ => gL ⟨x, y⟩ w ⟨hxS, hyS⟩) ?_))))))))))
          refine zL (z7 ?_)
          cases h5 : (⟨x, y⟩ : Sp).may with
          | true =>
            refine Zt (zA (Zv (u) (Zl 0 ⟨b2, #[.int .i64 x.e, .int .i64 x.v.maj, .int .i64 x.v.min, .int .i64 x.v.pat, .string (mkS x.v.pre), .string (mkS x.v.build), .bool x.aft, .int .i64 y.e, .int .i64 y.v.maj, .int .i64 y.v.min, .int .i64 y.v.pat, .string (mkS y.v.pre), .string (mkS y.v.build), .bool y.aft], 74⟩ (off := 0) (.agg #[.int .i64 x.e, .int .i64 x.v.maj, .int .i64 x.v.min, .int .i64 x.v.pat, .string (mkS x.v.pre), .string (mkS x.v.build), .bool x.aft, .int .i64 y.e, .int .i64 y.v.maj, .int .i64 y.v.min, .int .i64 y.v.pat, .string (mkS y.v.pre), .string (mkS y.v.build), .bool y.aft]) (bG 74 #[.int .i64 x.e, .int .i64 x.v.maj, .int .i64 x.v.min, .int .i64 x.v.pat, .string (mkS x.v.pre), .string (mkS x.v.build), .bool x.aft, .int .i64 y.e, .int .i64 y.v.maj, .int .i64 y.v.min, .int .i64 y.v.pat, .string (mkS y.v.pre), .string (mkS y.v.build), .bool y.aft] (by kernel_rfl) rfl (fun _ => by kernel_rfl) (fun b3 => ?_)))))
            obtain ⟨i0, z0, e1, e2, e3, e4, e5⟩ := gD
            have hln : acc.length ≤ k := by rw [hrel.eq]; exact fO l k
            refine kI (L' := [⟨b3, #[.int .i64 x.e, .int .i64 x.v.maj, .int .i64 x.v.min, .int .i64 x.v.pat, .string (mkS x.v.pre), .string (mkS x.v.build), .bool x.aft, .int .i64 y.e, .int .i64 y.v.maj, .int .i64 y.v.min, .int .i64 y.v.pat, .string (mkS y.v.pre), .string (mkS y.v.build), .bool y.aft], 74⟩, ⟨b2, #[.int .i64 x.e, .int .i64 x.v.maj, .int .i64 x.v.min, .int .i64 x.v.pat, .string (mkS x.v.pre), .string (mkS x.v.build), .bool x.aft, .int .i64 y.e, .int .i64 y.v.maj, .int .i64 y.v.min, .int .i64 y.v.pat, .string (mkS y.v.pre), .string (mkS y.v.build), .bool y.aft], 74⟩] ++ ob ++ [⟨b1, #[.slice none 0 0, .slice none 0 0], 24⟩]) (by rw [List.append_assoc]; kernel_rfl) (qA (sz := 14) (by kernel_rfl) rfl Tryz.underlying22 e1 e2 e3 e4 (by kernel_rfl) hrel.sl (a := ⟨b3, 0, none⟩) (m := 1) (c := 1) (news := yB ⟨x, y⟩) (by kernel_rfl) rfl (fun w hO j u hj => ?_) (kP _) (by unfold maxLen; omega) (by rw [e5]; omega) (fun u2 ob2 hu2 => ?_))
            · rw [yM, cell_of_row w b3 (0 + j) (yB ⟨x, y⟩).toArray 74 _ (hO.held ⟨b3, (yB ⟨x, y⟩).toArray, 74⟩ (List.mem_append_left _ (List.mem_append_left _ (List.mem_cons_self ..))))]; simpa using hj
            exact Zv (u2) (zL (zR (z7 (zA (Zv (.int .i64 (k : Int)) (Zu (k := .i64) (((k + 1 : Nat) : Int)) (IntWalk.i64_in _ (by omega)) (Zv (.int .i64 ((k + 1 : Nat) : Int)) (zL (xT (L' := ob2 ++ [⟨b1, #[.slice none 0 0, .slice none 0 0], 24⟩]) (fun w hO => own_drop hO) (zY (m' := l.length - (k + 1)) (by omega) ⟨k + 1, u2, _, ob2, _, hrel.grow hlk he hx hy (by assumption) hu2, rfl, ZU, rfl⟩))))))))))
          | false =>
            exact Zf (yT (zR (z7 (zA (Zv (.int .i64 (k : Int)) (Zu (k := .i64) (((k + 1 : Nat) : Int)) (IntWalk.i64_in _ (by omega)) (Zv (.int .i64 ((k + 1 : Nat) : Int)) (zL (xT (L' := ob ++ [⟨b1, #[.slice none 0 0, .slice none 0 0], 24⟩]) (fun w hO => Own.sub [_] hO) (zY (m' := l.length - (k + 1)) (by omega) ⟨k + 1, u, acc, ob, _, hrel.keep hlk he hx hy (by assumption), rfl, ZU, rfl⟩))))))))))
        refine hs_alloc [] _ (.agg #[.int .i64 0, .int .i64 0, .int .i64 0, .int .i64 0, .string ⟨#[]⟩, .string ⟨#[]⟩, .bool false, .int .i64 0, .int .i64 0, .int .i64 0, .int .i64 0, .string ⟨#[]⟩, .string ⟨#[]⟩, .bool false]) rfl (by kernel_rfl) rfl (by kernel_rfl) (fun b2 => gJ 5 (by kernel_rfl) (dG [⟨b2, #[.int .i64 0, .int .i64 0, .int .i64 0, .int .i64 0, .string ⟨#[]⟩, .string ⟨#[]⟩, .bool false, .int .i64 0, .int .i64 0, .int .i64 0, .int .i64 0, .string ⟨#[]⟩, .string ⟨#[]⟩, .bool false], 74⟩] _ (k := 52) (args := #[zC s.lo]) (zC x) rfl (by kernel_rfl) (fun _ => by kernel_rfl) (fun w _ => qM (by rw [hx]) (j3 s.lo w hsk.1)) (gJ 11 (by kernel_rfl) (dG [⟨b2, #[.int .i64 0, .int .i64 0, .int .i64 0, .int .i64 0, .string ⟨#[]⟩, .string ⟨#[]⟩, .bool false, .int .i64 0, .int .i64 0, .int .i64 0, .int .i64 0, .string ⟨#[]⟩, .string ⟨#[]⟩, .bool false], 74⟩] _ (k := 52) (args := #[zC s.hi]) (zC y) rfl (by kernel_rfl) (fun _ => by kernel_rfl) (fun w _ => qM (by rw [hy]) (j3 s.hi w hsk.2)) (ZT 12 [⟨b2, #[.int .i64 0, .int .i64 0, .int .i64 0, .int .i64 0, .string ⟨#[]⟩, .string ⟨#[]⟩, .bool false, .int .i64 0, .int .i64 0, .int .i64 0, .int .i64 0, .string ⟨#[]⟩, .string ⟨#[]⟩, .bool false], 74⟩] _ (.agg #[.int .i64 x.e, .int .i64 x.v.maj, .int .i64 x.v.min, .int .i64 x.v.pat, .string (mkS x.v.pre), .string (mkS x.v.build), .bool x.aft, .int .i64 y.e, .int .i64 y.v.maj, .int .i64 y.v.min, .int .i64 y.v.pat, .string (mkS y.v.pre), .string (mkS y.v.build), .bool y.aft]) (zJ (zH (zJ (yE (zH (zJ zU)))))) rfl (gJ 14 (by kernel_rfl) (ZS [⟨b2, #[.int .i64 0, .int .i64 0, .int .i64 0, .int .i64 0, .string ⟨#[]⟩, .string ⟨#[]⟩, .bool false, .int .i64 0, .int .i64 0, .int .i64 0, .int .i64 0, .string ⟨#[]⟩, .string ⟨#[]⟩, .bool false], 74⟩] _ 0 ⟨b2, #[.int .i64 0, .int .i64 0, .int .i64 0, .int .i64 0, .string ⟨#[]⟩, .string ⟨#[]⟩, .bool false, .int .i64 0, .int .i64 0, .int .i64 0, .int .i64 0, .string ⟨#[]⟩, .string ⟨#[]⟩, .bool false], 74⟩ (off := 0) (.agg #[.int .i64 x.e, .int .i64 x.v.maj, .int .i64 x.v.min, .int .i64 x.v.pat, .string (mkS x.v.pre), .string (mkS x.v.build), .bool x.aft, .int .i64 y.e, .int .i64 y.v.maj, .int .i64 y.v.min, .int .i64 y.v.pat, .string (mkS y.v.pre), .string (mkS y.v.build), .bool y.aft]) rfl rfl (wC (by kernel_rfl) (z7 (z8 (zA ?_)))))))))))
        refine Zl 0 ⟨b2, #[.int .i64 x.e, .int .i64 x.v.maj, .int .i64 x.v.min, .int .i64 x.v.pat, .string (mkS x.v.pre), .string (mkS x.v.build), .bool x.aft, .int .i64 y.e, .int .i64 y.v.maj, .int .i64 y.v.min, .int .i64 y.v.pat, .string (mkS y.v.pre), .string (mkS y.v.build), .bool y.aft], 74⟩ (off := 0) (.agg #[.int .i64 x.e, .int .i64 x.v.maj, .int .i64 x.v.min, .int .i64 x.v.pat, .string (mkS x.v.pre), .string (mkS x.v.build), .bool x.aft, .int .i64 y.e, .int .i64 y.v.maj, .int .i64 y.v.min, .int .i64 y.v.pat, .string (mkS y.v.pre), .string (mkS y.v.build), .bool y.aft]) (Zc (k := 53) (args := #[.agg #[.int .i64 x.e, .int .i64 x.v.maj, .int .i64 x.v.min, .int .i64 x.v.pat, .string (mkS x.v.pre), .string (mkS x.v.build), .bool x.aft, .int .i64 y.e, .int .i64 y.v.maj, .int .i64 y.v.min, .int .i64 y.v.pat, .string (mkS y.v.pre), .string (mkS y.v.build), .bool y.aft]]) (.bool ((⟨x, y⟩ : Sp).may)) (fun w _ => gL ⟨x, y⟩ w ⟨hxS, hyS⟩) (zL (z7 ?_)))
        cases h6 : (⟨x, y⟩ : Sp).may with
        | true =>
          refine Zt (zA (Zv (u) (Zl 0 ⟨b2, #[.int .i64 x.e, .int .i64 x.v.maj, .int .i64 x.v.min, .int .i64 x.v.pat, .string (mkS x.v.pre), .string (mkS x.v.build), .bool x.aft, .int .i64 y.e, .int .i64 y.v.maj, .int .i64 y.v.min, .int .i64 y.v.pat, .string (mkS y.v.pre), .string (mkS y.v.build), .bool y.aft], 74⟩ (off := 0) (.agg #[.int .i64 x.e, .int .i64 x.v.maj, .int .i64 x.v.min, .int .i64 x.v.pat, .string (mkS x.v.pre), .string (mkS x.v.build), .bool x.aft, .int .i64 y.e, .int .i64 y.v.maj, .int .i64 y.v.min, .int .i64 y.v.pat, .string (mkS y.v.pre), .string (mkS y.v.build), .bool y.aft]) (bG 74 #[.int .i64 x.e, .int .i64 x.v.maj, .int .i64 x.v.min, .int .i64 x.v.pat, .string (mkS x.v.pre), .string (mkS x.v.build), .bool x.aft, .int .i64 y.e, .int .i64 y.v.maj, .int .i64 y.v.min, .int .i64 y.v.pat, .string (mkS y.v.pre), .string (mkS y.v.build), .bool y.aft] (by kernel_rfl) rfl (fun _ => by kernel_rfl) (fun b3 => ?_)))))
          obtain ⟨i0, z0, e1, e2, e3, e4, e5⟩ := gD
          have hln : acc.length ≤ k := by rw [hrel.eq]; exact fO l k
          refine kI (L' := [⟨b3, #[.int .i64 x.e, .int .i64 x.v.maj, .int .i64 x.v.min, .int .i64 x.v.pat, .string (mkS x.v.pre), .string (mkS x.v.build), .bool x.aft, .int .i64 y.e, .int .i64 y.v.maj, .int .i64 y.v.min, .int .i64 y.v.pat, .string (mkS y.v.pre), .string (mkS y.v.build), .bool y.aft], 74⟩, ⟨b2, #[.int .i64 x.e, .int .i64 x.v.maj, .int .i64 x.v.min, .int .i64 x.v.pat, .string (mkS x.v.pre), .string (mkS x.v.build), .bool x.aft, .int .i64 y.e, .int .i64 y.v.maj, .int .i64 y.v.min, .int .i64 y.v.pat, .string (mkS y.v.pre), .string (mkS y.v.build), .bool y.aft], 74⟩] ++ ob ++ [⟨b1, #[.slice none 0 0, .slice none 0 0], 24⟩]) (by rw [List.append_assoc]; kernel_rfl) (qA (sz := 14) (by kernel_rfl) rfl Tryz.underlying22 e1 e2 e3 e4 (by kernel_rfl) hrel.sl (a := ⟨b3, 0, none⟩) (m := 1) (c := 1) (news := yB ⟨x, y⟩) (by kernel_rfl) rfl (fun w hO j u hj => ?_) (kP _) (by unfold maxLen; omega) (by rw [e5]; omega) (fun u2 ob2 hu2 => ?_))
          · rw [yM, cell_of_row w b3 (0 + j) (yB ⟨x, y⟩).toArray 74 _ (hO.held ⟨b3, (yB ⟨x, y⟩).toArray, 74⟩ (List.mem_append_left _ (List.mem_append_left _ (List.mem_cons_self ..))))]; simpa using hj
          exact Zv (u2) (zL (zR (z7 (zA (Zv (.int .i64 (k : Int)) (Zu (k := .i64) (((k + 1 : Nat) : Int)) (IntWalk.i64_in _ (by omega)) (Zv (.int .i64 ((k + 1 : Nat) : Int)) (zL (xT (L' := ob2 ++ [⟨b1, #[.slice none 0 0, .slice none 0 0], 24⟩]) (fun w hO => own_drop hO) (zY (m' := l.length - (k + 1)) (by omega) ⟨k + 1, u2, _, ob2, _, hrel.grow hlk he hx hy (by assumption) hu2, rfl, ZU, rfl⟩))))))))))
        | false =>
          exact Zf (yT (zR (z7 (zA (Zv (.int .i64 (k : Int)) (Zu (k := .i64) (((k + 1 : Nat) : Int)) (IntWalk.i64_in _ (by omega)) (Zv (.int .i64 ((k + 1 : Nat) : Int)) (zL (xT (L' := ob ++ [⟨b1, #[.slice none 0 0, .slice none 0 0], 24⟩]) (fun w hO => Own.sub [_] hO) (zY (m' := l.length - (k + 1)) (by omega) ⟨k + 1, u, acc, ob, _, hrel.keep hlk he hx hy (by assumption), rfl, ZU, rfl⟩))))))))))
      refine Zd (p := (k : Int) < (l.length : Int)) false (decide_eq_false (h3)) (ZX (xQ (yA (y5 (zW (z7 (ZO (Zv (u) ?_))))))))
      have hke : acc = (l.map dQ).filter (·.may) := by have h := hrel.eq; unfold nS at h; rwa [List.take_of_length_le (by omega)] at h
      have hall : gV acc = true := allMay_mem.2 (by rw [hrel.eq]; exact turnL_may l k)
      have hsh : yL acc := fun s hs => sp_short (allMay_mem.1 hall s hs)
      have hln : acc.length ≤ k := by rw [hrel.eq]; exact fO l k
      have hsl := hrel.sl
      clear hrel
      obtain ⟨C, cc, rfl⟩ := hsl.form
      refine y9 (k := 54) (args := #[.slice C acc.length cc]) (fun v' L' => ∃ mv ob', v' = .tuple #[mv, .bool true] ∧ L' = ob' ++ (ob ++ ([⟨b1, #[.slice none 0 0, .slice none 0 0], 24⟩])) ∧ SlS mv (xM l) ob') (by kernel_rfl) (fun _ => by kernel_rfl) (fun w hO => (rmake_any C cc acc w (Sl.reads hsl rfl hO (fun x hx => by simp [hx])) (by omega) hsh).mono fun e w' ⟨v', ob', k1, k2, k3⟩ => ⟨_, _, k1, ⟨v', ob', by rw [hall], rfl, by rw [hall, if_pos rfl, hke] at k2; exact k2⟩, Own.joinN hO k3⟩) (fun tv L2 hv2 => ?_)
      obtain ⟨v2, o2, rfl, rfl, hr2⟩ := hv2
      obtain ⟨V2, c2, rfl⟩ := hr2.form
      refine Zv (.tuple #[.slice V2 ((xM l).length) c2, .bool true]) (Zv (.slice V2 ((xM l).length) c2) (Zv (.bool true) (Zv (.slice V2 ((xM l).length) c2) (Zv (.bool true) (ZR (Zv (.slice V2 ((xM l).length) c2) (Zv (.slice B q.length d) ?_)))))))
      obtain ⟨i, z, e1, e2, e3, e4, e5⟩ := gD
      refine kI (L' := [] ++ [] ++ (o2 ++ (ob ++ ([⟨b1, #[.slice none 0 0, .slice none 0 0], 24⟩] : List Blk)))) rfl (s_appendR (E := []) (ob := []) (L0 := o2 ++ (ob ++ ([⟨b1, #[.slice none 0 0, .slice none 0 0], 24⟩] : List Blk))) (sz := 14) (l := q) (A := B) (c := d) yD (by kernel_rfl) rfl Tryz.underlying22 e1 e2 e3 e4 (by kernel_rfl) (Sl.nil 74 14) (by kernel_rfl) (fun w hO => hu.on hO.below hO.size) kP (by unfold maxLen; omega) (by rw [e5]; omega) (fun v3 o3 hv3 => ?_))
      have hr3 : SlS v3 q o3 := hv3.to (by simp) (by simp)
      clear hv3
      obtain ⟨V3, c3, rfl⟩ := hr3.form
      exact yY (L' := ⟨b1, #[.slice none 0 0, .slice none 0 0], 24⟩ :: (o3 ++ o2)) (fun w hO => own_mk hO) (Zv (.agg #[.slice V2 ((xM l).length) c2, .slice V3 q.length c3]) (Zs 0 ⟨b1, #[.slice none 0 0, .slice none 0 0], 24⟩ (off := 0) (.agg #[.slice V2 ((xM l).length) c2, .slice V3 q.length c3]) (Zv (.bool true) (ZN (zB (ZD 0 ⟨b1, #[.slice V2 ((xM l).length) c2, .slice V3 q.length c3], 24⟩ (off := 0) (.agg #[.slice V2 ((xM l).length) c2, .slice V3 q.length c3]) (.bool true) Tryz.results32 (fun w hO => ⟨_, _, rfl, by rw [if_pos (by simp [h1, h2])]; exact ⟨_, _, o2, o3, rfl, rfl, hr2, hr3⟩, own_mid0 hO⟩)))))))
    | false =>
      refine Zv (.bool true) (Zv (.bool true) (ZY (ZO (Zc (k := 51) (args := #[]) (.agg #[.slice none 0 0, .slice none 0 0]) (fun w _ => rnone_any w) (Zs 0 ⟨b1, #[.slice none 0 0, .slice none 0 0], 24⟩ (off := 0) (.agg #[.slice none 0 0, .slice none 0 0]) (Zv (.bool false) (zL (z7 ?_))))))))
      exact zB (z6 (ZD 0 ⟨b1, #[.slice none 0 0, .slice none 0 0], 24⟩ (off := 0) (.agg #[.slice none 0 0, .slice none 0 0]) (.bool false) Tryz.results32 (fun w hO => ⟨_, [], by first | rfl | (simp [h1, h2]; done), by rw [if_neg (by simp [h1, h2])]; exact SetO.none, kG hO⟩)))
  | false =>
    refine Zv (.bool true) (Zv (.bool true) (Zk (Zk (Zk (Zv (.bool true) (ZY (ZO (Zc (k := 51) (args := #[]) (.agg #[.slice none 0 0, .slice none 0 0]) (fun w _ => rnone_any w) ?_))))))))
    exact Zs 0 ⟨b1, #[.slice none 0 0, .slice none 0 0], 24⟩ (off := 0) (.agg #[.slice none 0 0, .slice none 0 0]) (Zv (.bool false) (ZN (zB (z6 (ZD 0 ⟨b1, #[.slice none 0 0, .slice none 0 0], 24⟩ (off := 0) (.agg #[.slice none 0 0, .slice none 0 0]) (.bool false) Tryz.results32 (fun w hO => ⟨_, [], by first | rfl | (simp [h1]; done), by rw [if_neg (by simp [h1])]; exact SetO.none, kG hO⟩))))))
end
section
end
section
theorem end_short (k : Int) : (zQ k).short := ⟨Nat.zero_le 1000000, Nat.zero_le 1000000⟩
structure NotB (l : List Sp) (k : Nat) (v : Value) (out : List Sp) (f : Cu) (ob : List Blk) : Prop where
  le : k ≤ l.length
  sl : SlS v out ob
  len : out.length ≤ k
  short : yL out
  fs : f.short
  eq : (l.take k).foldl nstep ([], zQ (-1)) = (out, f)
end
section
abbrev VSp := {s : Sp // s.may = true ∧ s.short}
instance : Inhabited VSp := ⟨⟨⟨zQ (-1), zQ 1⟩, by decide, end_short _, end_short _⟩⟩
def encV (x : VSp) : List Value := yB x.1
def cfV (x y : VSp) : Int := zO x.1.lo y.1.lo
end
section
structure Merged (d : List Sp) (k : Nat) (V : Option Addr) (c : Nat) (out : List Sp) (ob : List Blk) : Prop where
  le : k ≤ d.length
  sl : Sl 74 14 (.slice V out.length c) out.length (out.flatMap yB) ob
  len : out.length ≤ k
  short : yL out
  eq : (d.take k).foldl mstep [] = out
end
section
end
section
end
section
end
end Go.Proofs.YtiekhkapgjdblaaGreatDoor
