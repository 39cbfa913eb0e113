/-
  linchpinlaw0's Version at the place 0: the version that five numbers of the list name.
-/
import Derived.Test.YtndjdmbbndcohaaDoorGen0
namespace Go.Proofs.YtndjdmbbndcohaaDoor
open Go.RowKit

set_option maxHeartbeats 4000000 in
set_option maxRecDepth 100000 in
theorem gen_at0 (v : Value) (l : List Int) (w : World) (hv : ReadsI w w.heap.size v l) (hl : l.length ≤ 9223372036854775807) :
    Calls Tryd.prog 5 #[v, .int .i64 0] w (GEnd (genV l 0) w) := by
  have B0 : Below w.heap.size w ((((w.alloc (.cells #[.int .i64 0, .int .i64 0, .int .i64 0, .string ⟨#[]⟩, .string ⟨#[]⟩] 24)).alloc (.cells #[.int .i64 0, .int .i64 1, .int .i64 2, .int .i64 3, .int .i64 0, .int .i64 1, .int .i64 10, .int .i64 9999] 30)).alloc (.cells #[.string ⟨#[]⟩, .string ⟨#[]⟩, .string ⟨#[]⟩, .string ⟨#[]⟩, .string ⟨#[48]⟩, .string ⟨#[49]⟩, .string ⟨#[50]⟩, .string ⟨#[49, 49]⟩, .string ⟨#[97]⟩, .string ⟨#[97, 46, 49]⟩, .string ⟨#[97, 46, 98]⟩, .string ⟨#[98]⟩, .string ⟨#[48, 46, 48]⟩, .string ⟨#[114, 99, 46, 49]⟩] 31)).alloc (.cells #[.string ⟨#[]⟩, .string ⟨#[]⟩, .string ⟨#[]⟩, .string ⟨#[]⟩, .string ⟨#[48, 48, 55]⟩, .string ⟨#[120, 46, 49]⟩] 32)) :=
    ((((Below.refl _ _).alloc (Nat.le_refl _) _).alloc (by simp only [size_box]; omega) _).alloc (by simp only [size_box]; omega) _).alloc (by simp only [size_box]; omega) _
  have hR : ((((w.alloc (.cells #[.int .i64 0, .int .i64 0, .int .i64 0, .string ⟨#[]⟩, .string ⟨#[]⟩] 24)).alloc (.cells #[.int .i64 0, .int .i64 1, .int .i64 2, .int .i64 3, .int .i64 0, .int .i64 1, .int .i64 10, .int .i64 9999] 30)).alloc (.cells #[.string ⟨#[]⟩, .string ⟨#[]⟩, .string ⟨#[]⟩, .string ⟨#[]⟩, .string ⟨#[48]⟩, .string ⟨#[49]⟩, .string ⟨#[50]⟩, .string ⟨#[49, 49]⟩, .string ⟨#[97]⟩, .string ⟨#[97, 46, 49]⟩, .string ⟨#[97, 46, 98]⟩, .string ⟨#[98]⟩, .string ⟨#[48, 46, 48]⟩, .string ⟨#[114, 99, 46, 49]⟩] 31)).alloc (.cells #[.string ⟨#[]⟩, .string ⟨#[]⟩, .string ⟨#[]⟩, .string ⟨#[]⟩, .string ⟨#[48, 48, 55]⟩, .string ⟨#[120, 46, 49]⟩] 32)).heap[w.heap.size]? = some (.cells #[.int .i64 0, .int .i64 0, .int .i64 0, .string ⟨#[]⟩, .string ⟨#[]⟩] 24) := by
    rw [heap_old _ _ (by simp only [size_box]; omega), heap_old _ _ (by simp only [size_box]; omega), heap_old _ _ (by simp only [size_box]; omega)]; exact heap_new w _
  have hN : ((((w.alloc (.cells #[.int .i64 0, .int .i64 0, .int .i64 0, .string ⟨#[]⟩, .string ⟨#[]⟩] 24)).alloc (.cells #[.int .i64 0, .int .i64 1, .int .i64 2, .int .i64 3, .int .i64 0, .int .i64 1, .int .i64 10, .int .i64 9999] 30)).alloc (.cells #[.string ⟨#[]⟩, .string ⟨#[]⟩, .string ⟨#[]⟩, .string ⟨#[]⟩, .string ⟨#[48]⟩, .string ⟨#[49]⟩, .string ⟨#[50]⟩, .string ⟨#[49, 49]⟩, .string ⟨#[97]⟩, .string ⟨#[97, 46, 49]⟩, .string ⟨#[97, 46, 98]⟩, .string ⟨#[98]⟩, .string ⟨#[48, 46, 48]⟩, .string ⟨#[114, 99, 46, 49]⟩] 31)).alloc (.cells #[.string ⟨#[]⟩, .string ⟨#[]⟩, .string ⟨#[]⟩, .string ⟨#[]⟩, .string ⟨#[48, 48, 55]⟩, .string ⟨#[120, 46, 49]⟩] 32)).heap[w.heap.size + 1]? = some (.cells #[.int .i64 0, .int .i64 1, .int .i64 2, .int .i64 3, .int .i64 0, .int .i64 1, .int .i64 10, .int .i64 9999] 30) := by
    rw [heap_old _ _ (by simp only [size_box]; omega), heap_old _ _ (by simp only [size_box]; omega)]; exact heap_at _ _ _ (by simp only [size_box])
  have hP : ((((w.alloc (.cells #[.int .i64 0, .int .i64 0, .int .i64 0, .string ⟨#[]⟩, .string ⟨#[]⟩] 24)).alloc (.cells #[.int .i64 0, .int .i64 1, .int .i64 2, .int .i64 3, .int .i64 0, .int .i64 1, .int .i64 10, .int .i64 9999] 30)).alloc (.cells #[.string ⟨#[]⟩, .string ⟨#[]⟩, .string ⟨#[]⟩, .string ⟨#[]⟩, .string ⟨#[48]⟩, .string ⟨#[49]⟩, .string ⟨#[50]⟩, .string ⟨#[49, 49]⟩, .string ⟨#[97]⟩, .string ⟨#[97, 46, 49]⟩, .string ⟨#[97, 46, 98]⟩, .string ⟨#[98]⟩, .string ⟨#[48, 46, 48]⟩, .string ⟨#[114, 99, 46, 49]⟩] 31)).alloc (.cells #[.string ⟨#[]⟩, .string ⟨#[]⟩, .string ⟨#[]⟩, .string ⟨#[]⟩, .string ⟨#[48, 48, 55]⟩, .string ⟨#[120, 46, 49]⟩] 32)).heap[w.heap.size + 1 + 1]? = some (.cells #[.string ⟨#[]⟩, .string ⟨#[]⟩, .string ⟨#[]⟩, .string ⟨#[]⟩, .string ⟨#[48]⟩, .string ⟨#[49]⟩, .string ⟨#[50]⟩, .string ⟨#[49, 49]⟩, .string ⟨#[97]⟩, .string ⟨#[97, 46, 49]⟩, .string ⟨#[97, 46, 98]⟩, .string ⟨#[98]⟩, .string ⟨#[48, 46, 48]⟩, .string ⟨#[114, 99, 46, 49]⟩] 31) := by
    rw [heap_old _ _ (by simp only [size_box]; omega)]; exact heap_at _ _ _ (by simp only [size_box])
  have hQ : ((((w.alloc (.cells #[.int .i64 0, .int .i64 0, .int .i64 0, .string ⟨#[]⟩, .string ⟨#[]⟩] 24)).alloc (.cells #[.int .i64 0, .int .i64 1, .int .i64 2, .int .i64 3, .int .i64 0, .int .i64 1, .int .i64 10, .int .i64 9999] 30)).alloc (.cells #[.string ⟨#[]⟩, .string ⟨#[]⟩, .string ⟨#[]⟩, .string ⟨#[]⟩, .string ⟨#[48]⟩, .string ⟨#[49]⟩, .string ⟨#[50]⟩, .string ⟨#[49, 49]⟩, .string ⟨#[97]⟩, .string ⟨#[97, 46, 49]⟩, .string ⟨#[97, 46, 98]⟩, .string ⟨#[98]⟩, .string ⟨#[48, 46, 48]⟩, .string ⟨#[114, 99, 46, 49]⟩] 31)).alloc (.cells #[.string ⟨#[]⟩, .string ⟨#[]⟩, .string ⟨#[]⟩, .string ⟨#[]⟩, .string ⟨#[48, 48, 55]⟩, .string ⟨#[120, 46, 49]⟩] 32)).heap[w.heap.size + 1 + 1 + 1]? = some (.cells #[.string ⟨#[]⟩, .string ⟨#[]⟩, .string ⟨#[]⟩, .string ⟨#[]⟩, .string ⟨#[48, 48, 55]⟩, .string ⟨#[120, 46, 49]⟩] 32) := heap_at _ _ _ (by simp only [size_box])
  have hvW := (hv.below B0).more B0.size
  obtain ⟨A, cap, rfl, hc⟩ := hv
  clear hc
  go_enter Tryd.func5, Tryd.ntmps5
  go_wp2_with fail
  generalize ((((w.alloc (.cells #[.int .i64 0, .int .i64 0, .int .i64 0, .string ⟨#[]⟩, .string ⟨#[]⟩] 24)).alloc (.cells #[.int .i64 0, .int .i64 1, .int .i64 2, .int .i64 3, .int .i64 0, .int .i64 1, .int .i64 10, .int .i64 9999] 30)).alloc (.cells #[.string ⟨#[]⟩, .string ⟨#[]⟩, .string ⟨#[]⟩, .string ⟨#[]⟩, .string ⟨#[48]⟩, .string ⟨#[49]⟩, .string ⟨#[50]⟩, .string ⟨#[49, 49]⟩, .string ⟨#[97]⟩, .string ⟨#[97, 46, 49]⟩, .string ⟨#[97, 46, 98]⟩, .string ⟨#[98]⟩, .string ⟨#[48, 46, 48]⟩, .string ⟨#[114, 99, 46, 49]⟩] 31)).alloc (.cells #[.string ⟨#[]⟩, .string ⟨#[]⟩, .string ⟨#[]⟩, .string ⟨#[]⟩, .string ⟨#[48, 48, 55]⟩, .string ⟨#[120, 46, 49]⟩] 32)) = W4 at *
  have hvD : ReadsI W4.drew W4.drew.heap.size (.slice A l.length cap) l := hvW
  obtain ⟨k0, e0⟩ : ∃ k : Nat, plc (atL l 0) 8 = (k : Int) := ⟨_, (Int.toNat_of_nonneg (plc_in _ _ (by omega)).1).symm⟩
  have q0 : k0 < 8 := by have := (plc_in (atL l 0) 8 (by omega)).2; omega
  have u0 : (plc (atL l 0) 8).toNat = k0 := by rw [e0]; rfl
  have c0 : Calls Tryd.prog 9 #[.slice A l.length cap, .int .i64 0, .int .i64 8] W4.drew fun e w' => e = .returned (.int .i64 (k0 : Int)) ∧ w' = W4.drew := by
    have h := from_any _ l 0 8 W4.drew hvD hl (by omega) (by omega) (by omega)
    rw [e0] at h
    exact h.mono fun _ _ ⟨x, y⟩ => ⟨x, y.symm⟩
  have d0 : W4.cell? ⟨w.heap.size + 1, k0, none⟩ = some (.int .i64 (numT k0)) := num_cell hN k0 q0
  have d0' : ({ W4 with drawn := W4.drawn + 1 } : World).cell? ⟨w.heap.size + 1, k0, none⟩ = some (.int .i64 (numT k0)) := d0
  have r0 : (k0 : Int) < 8 := by omega
  obtain ⟨k1, e1⟩ : ∃ k : Nat, plc (atL l 1) 8 = (k : Int) := ⟨_, (Int.toNat_of_nonneg (plc_in _ _ (by omega)).1).symm⟩
  have q1 : k1 < 8 := by have := (plc_in (atL l 1) 8 (by omega)).2; omega
  have u1 : (plc (atL l 1) 8).toNat = k1 := by rw [e1]; rfl
  have c1 : Calls Tryd.prog 9 #[.slice A l.length cap, .int .i64 1, .int .i64 8] W4.drew fun e w' => e = .returned (.int .i64 (k1 : Int)) ∧ w' = W4.drew := by
    have h := from_any _ l 1 8 W4.drew hvD hl (by omega) (by omega) (by omega)
    rw [e1] at h
    exact h.mono fun _ _ ⟨x, y⟩ => ⟨x, y.symm⟩
  have d1 : W4.cell? ⟨w.heap.size + 1, k1, none⟩ = some (.int .i64 (numT k1)) := num_cell hN k1 q1
  have d1' : ({ W4 with drawn := W4.drawn + 1 } : World).cell? ⟨w.heap.size + 1, k1, none⟩ = some (.int .i64 (numT k1)) := d1
  have r1 : (k1 : Int) < 8 := by omega
  obtain ⟨k2, e2⟩ : ∃ k : Nat, plc (atL l 2) 8 = (k : Int) := ⟨_, (Int.toNat_of_nonneg (plc_in _ _ (by omega)).1).symm⟩
  have q2 : k2 < 8 := by have := (plc_in (atL l 2) 8 (by omega)).2; omega
  have u2 : (plc (atL l 2) 8).toNat = k2 := by rw [e2]; rfl
  have c2 : Calls Tryd.prog 9 #[.slice A l.length cap, .int .i64 2, .int .i64 8] W4.drew fun e w' => e = .returned (.int .i64 (k2 : Int)) ∧ w' = W4.drew := by
    have h := from_any _ l 2 8 W4.drew hvD hl (by omega) (by omega) (by omega)
    rw [e2] at h
    exact h.mono fun _ _ ⟨x, y⟩ => ⟨x, y.symm⟩
  have d2 : W4.cell? ⟨w.heap.size + 1, k2, none⟩ = some (.int .i64 (numT k2)) := num_cell hN k2 q2
  have d2' : ({ W4 with drawn := W4.drawn + 1 } : World).cell? ⟨w.heap.size + 1, k2, none⟩ = some (.int .i64 (numT k2)) := d2
  have r2 : (k2 : Int) < 8 := by omega
  obtain ⟨k3, e3⟩ : ∃ k : Nat, plc (atL l 3) 14 = (k : Int) := ⟨_, (Int.toNat_of_nonneg (plc_in _ _ (by omega)).1).symm⟩
  have q3 : k3 < 14 := by have := (plc_in (atL l 3) 14 (by omega)).2; omega
  have u3 : (plc (atL l 3) 14).toNat = k3 := by rw [e3]; rfl
  have c3 : Calls Tryd.prog 9 #[.slice A l.length cap, .int .i64 3, .int .i64 14] W4.drew fun e w' => e = .returned (.int .i64 (k3 : Int)) ∧ w' = W4.drew := by
    have h := from_any _ l 3 14 W4.drew hvD hl (by omega) (by omega) (by omega)
    rw [e3] at h
    exact h.mono fun _ _ ⟨x, y⟩ => ⟨x, y.symm⟩
  have d3 : W4.cell? ⟨w.heap.size + 1 + 1, k3, none⟩ = some (.string (mkS (preT14 k3))) := pre_cell hP k3 q3
  have d3' : ({ W4 with drawn := W4.drawn + 1 } : World).cell? ⟨w.heap.size + 1 + 1, k3, none⟩ = some (.string (mkS (preT14 k3))) := d3
  have r3 : (k3 : Int) < 14 := by omega
  obtain ⟨k4, e4⟩ : ∃ k : Nat, plc (atL l 4) 6 = (k : Int) := ⟨_, (Int.toNat_of_nonneg (plc_in _ _ (by omega)).1).symm⟩
  have q4 : k4 < 6 := by have := (plc_in (atL l 4) 6 (by omega)).2; omega
  have u4 : (plc (atL l 4) 6).toNat = k4 := by rw [e4]; rfl
  have c4 : Calls Tryd.prog 9 #[.slice A l.length cap, .int .i64 4, .int .i64 6] W4.drew fun e w' => e = .returned (.int .i64 (k4 : Int)) ∧ w' = W4.drew := by
    have h := from_any _ l 4 6 W4.drew hvD hl (by omega) (by omega) (by omega)
    rw [e4] at h
    exact h.mono fun _ _ ⟨x, y⟩ => ⟨x, y.symm⟩
  have d4 : W4.cell? ⟨w.heap.size + 1 + 1 + 1, k4, none⟩ = some (.string (mkS (bldT k4))) := bld_cell hQ k4 q4
  have d4' : ({ W4 with drawn := W4.drawn + 1 } : World).cell? ⟨w.heap.size + 1 + 1 + 1, k4, none⟩ = some (.string (mkS (bldT k4))) := d4
  have r4 : (k4 : Int) < 6 := by omega
  have HG : Hid (genV l 0 = ⟨numT k0, numT k1, numT k2, preT14 k3, bldT k4⟩) := by show _ = _; unfold genV; rw [u0, u1, u2, u3, u4]
  have HR := Lib.hid hR
  clear e0 e1 e2 e3 e4 u0 u1 u2 u3 u4 hR hN hP hQ hvW hvD hl
  go_still_tail 30, (by kernel_rfl)
  still_call c0
  repeat still_step
  still_call c1
  repeat still_step
  still_call c2
  repeat still_step
  still_call c3
  repeat still_step
  still_call c4
  repeat still_step
  refine wpStill_nil ?_
  change wpList _ _ _ _ _ W4.drew
  have BD : Below w.heap.size w W4.drew := ⟨B0.os, B0.tape, B0.output, B0.size, B0.block⟩
  have HR2 : Hid (W4.drew.heap[w.heap.size]? = some (.cells #[.int .i64 0, .int .i64 0, .int .i64 0, .string ⟨#[]⟩, .string ⟨#[]⟩] 24)) := HR.out
  go_wp2_with (refine wpList_store_row rfl 24 _ _ rfl w.heap.size #[.int .i64 (numT k0), .int .i64 (numT k1), .int .i64 (numT k2), .string (mkS (preT14 k3)), .string (mkS (bldT k4))] rfl rfl _ _ HR2.out (by kernel_rfl) rfl (ver_one _ _ _ _ _) ?_)
  have hr := results_cell_row (P := Tryd.prog) (fn := Tryd.f5) Tryd.results5
  refine bodyPost_ret (v := .agg #[.int .i64 (numT k0), .int .i64 (numT k1), .int .i64 (numT k2), .string (mkS (preT14 k3)), .string (mkS (bldT k4))]) (hr _ _ w.heap.size _ _ _ _ rfl (setRow_heap _ _ _ _ _ _ HR2.out) Tryd.underlying24 rfl (by kernel_rfl)) rfl ⟨?_, below_setRow BD (Nat.le_refl _) _⟩
  rw [HG.out]; rfl
end Go.Proofs.YtndjdmbbndcohaaDoor
