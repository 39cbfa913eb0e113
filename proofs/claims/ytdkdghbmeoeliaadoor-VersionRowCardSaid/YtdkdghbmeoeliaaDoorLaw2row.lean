/-
  VersionRow: for any two numbers the law returns true, and nothing that was there is changed. Condition: the library's table of powers of ten reads as it is laid.
-/
import Derived.Test.YtdkdghbmeoeliaaDoorGen0
import Derived.Test.YtdkdghbmeoeliaaDoorLaw2r
import Derived.Test.YtdkdghbmeoeliaaDoorLawKit
namespace Go.Proofs.YtdkdghbmeoeliaaDoor
open Go.RowKit

def rowT (k : Nat) : List UInt8 := (([[48, 46, 48, 46, 48, 45, 48], [48, 46, 48, 46, 48, 45, 48, 46, 48], [48, 46, 48, 46, 48], [48, 46, 57, 46, 49, 48], [49, 46, 48, 46, 48, 45, 50], [49, 46, 48, 46, 48, 45, 49, 49], [49, 46, 48, 46, 48, 45, 97], [49, 46, 48, 46, 48, 45, 97, 46, 49], [49, 46, 48, 46, 48, 45, 97, 46, 98], [49, 46, 48, 46, 48, 45, 97, 46, 98, 46, 48], [49, 46, 48, 46, 48, 45, 98], [49, 46, 48, 46, 48, 45, 98, 45, 49], [49, 46, 48, 46, 48], [49, 46, 48, 46, 49, 45, 48], [49, 46, 48, 46, 49], [49, 46, 50, 46, 48], [49, 46, 49, 48, 46, 48], [57, 57, 57, 57, 46, 57, 57, 57, 57, 46, 57, 57, 57, 57]] : List (List UInt8))[k]?).getD []
theorem row_cell {w : World} {B : Nat} {T : TypeId} (h : w.heap[B]? = some (.cells #[.string ⟨#[48, 46, 48, 46, 48, 45, 48]⟩, .string ⟨#[48, 46, 48, 46, 48, 45, 48, 46, 48]⟩, .string ⟨#[48, 46, 48, 46, 48]⟩, .string ⟨#[48, 46, 57, 46, 49, 48]⟩, .string ⟨#[49, 46, 48, 46, 48, 45, 50]⟩, .string ⟨#[49, 46, 48, 46, 48, 45, 49, 49]⟩, .string ⟨#[49, 46, 48, 46, 48, 45, 97]⟩, .string ⟨#[49, 46, 48, 46, 48, 45, 97, 46, 49]⟩, .string ⟨#[49, 46, 48, 46, 48, 45, 97, 46, 98]⟩, .string ⟨#[49, 46, 48, 46, 48, 45, 97, 46, 98, 46, 48]⟩, .string ⟨#[49, 46, 48, 46, 48, 45, 98]⟩, .string ⟨#[49, 46, 48, 46, 48, 45, 98, 45, 49]⟩, .string ⟨#[49, 46, 48, 46, 48]⟩, .string ⟨#[49, 46, 48, 46, 49, 45, 48]⟩, .string ⟨#[49, 46, 48, 46, 49]⟩, .string ⟨#[49, 46, 50, 46, 48]⟩, .string ⟨#[49, 46, 49, 48, 46, 48]⟩, .string ⟨#[57, 57, 57, 57, 46, 57, 57, 57, 57, 46, 57, 57, 57, 57]⟩] T)) (k : Nat) (hk : k < 18) : w.cell? ⟨B, k, none⟩ = some (.string (mkS (rowT k))) := by
  rw [cell_of_row w B k _ _ _ h]
  rcases (by omega : k = 0 ∨ k = 1 ∨ k = 2 ∨ k = 3 ∨ k = 4 ∨ k = 5 ∨ k = 6 ∨ k = 7 ∨ k = 8 ∨ k = 9 ∨ k = 10 ∨ k = 11 ∨ k = 12 ∨ k = 13 ∨ k = 14 ∨ k = 15 ∨ k = 16 ∨ k = 17) with rfl | rfl | rfl | rfl | rfl | rfl | rfl | rfl | rfl | rfl | rfl | rfl | rfl | rfl | rfl | rfl | rfl | rfl
  all_goals rfl
theorem row_ok : ∀ k, k < 18 → parE (rowT k) = 0 ∧ (rowT k).length ≤ 1000000 ∧ (parV (rowT k)).pre.length ≤ 1000000 ∧ (parV (rowT k)).build.length ≤ 1000000 := by decide +kernel
def rowW (a b : Nat) : Int := if a < b then -1 else if b < a then 1 else 0
theorem row_cmp : ∀ a, a < 18 → ∀ b, b < 18 → cmpR (parV (rowT a)) (parV (rowT b)) = rowW a b := by decide +kernel

theorem row_any (w : World) :
    Calls Tryd.prog 30 #[] w fun e w' => e = .returned (.slice (some ⟨w.heap.size, 0, none⟩) 18 18) ∧ w' = w.alloc (.cells #[.string ⟨#[48, 46, 48, 46, 48, 45, 48]⟩, .string ⟨#[48, 46, 48, 46, 48, 45, 48, 46, 48]⟩, .string ⟨#[48, 46, 48, 46, 48]⟩, .string ⟨#[48, 46, 57, 46, 49, 48]⟩, .string ⟨#[49, 46, 48, 46, 48, 45, 50]⟩, .string ⟨#[49, 46, 48, 46, 48, 45, 49, 49]⟩, .string ⟨#[49, 46, 48, 46, 48, 45, 97]⟩, .string ⟨#[49, 46, 48, 46, 48, 45, 97, 46, 49]⟩, .string ⟨#[49, 46, 48, 46, 48, 45, 97, 46, 98]⟩, .string ⟨#[49, 46, 48, 46, 48, 45, 97, 46, 98, 46, 48]⟩, .string ⟨#[49, 46, 48, 46, 48, 45, 98]⟩, .string ⟨#[49, 46, 48, 46, 48, 45, 98, 45, 49]⟩, .string ⟨#[49, 46, 48, 46, 48]⟩, .string ⟨#[49, 46, 48, 46, 49, 45, 48]⟩, .string ⟨#[49, 46, 48, 46, 49]⟩, .string ⟨#[49, 46, 50, 46, 48]⟩, .string ⟨#[49, 46, 49, 48, 46, 48]⟩, .string ⟨#[57, 57, 57, 57, 46, 57, 57, 57, 57, 46, 57, 57, 57, 57]⟩] 9) := by
  go_enter Tryd.func30, Tryd.ntmps30
  go_wp2
  go_ret
  exact ⟨rfl, rfl⟩

set_option maxHeartbeats 8000000 in
set_option maxRecDepth 100000 in
theorem versionRow.law (W : World) (i : Int) (_wi : (Lit.int .i64 i).wf = true) (k : Int) (_wk : (Lit.int .i64 k).wf = true) (ht : HasTab W) :
    Calls Tryd.prog 10 #[.int .i64 i, .int .i64 k] W fun e w' => e = .returned (.bool true) ∧ Below W.heap.size W w' := by
  obtain ⟨a, ea⟩ : ∃ a : Nat, plc i 18 = (a : Int) := ⟨_, (Int.toNat_of_nonneg (plc_in _ _ (by omega)).1).symm⟩
  obtain ⟨b, eb⟩ : ∃ a : Nat, plc k 18 = (a : Int) := ⟨_, (Int.toNat_of_nonneg (plc_in _ _ (by omega)).1).symm⟩
  have ha : a < 18 := by have := (plc_in i 18 (by omega)).2; omega
  have hb : b < 18 := by have := (plc_in k 18 (by omega)).2; omega
  have c1 := fun w' => place_any i 18 w' (by omega) (by omega)
  have c2 := fun w' => place_any k 18 w' (by omega) (by omega)
  rw [ea] at c1
  rw [eb] at c2
  obtain ⟨r1, s1, p1, q1⟩ := row_ok a ha
  obtain ⟨r2, s2, p2, q2⟩ := row_ok b hb
  have c3 := fun w' h => parse_any (rowT a) w' s1 h
  have c4 := fun w' h => parse_any (rowT b) w' s2 h
  rw [r1] at c3
  rw [r2] at c4
  have c5 := fun w' => vcompare_any (parV (rowT a)) (parV (rowT b)) w' p1 q1 p2 q2
  rw [row_cmp a ha b hb] at c5
  obtain ⟨T1, hT1⟩ : ∃ T, rowT a = T := ⟨_, rfl⟩
  obtain ⟨T2, hT2⟩ : ∃ T, rowT b = T := ⟨_, rfl⟩
  have d1 : ∀ (w' : World) (B : Nat) (T : TypeId), w'.heap[B]? = some (.cells #[.string ⟨#[48, 46, 48, 46, 48, 45, 48]⟩, .string ⟨#[48, 46, 48, 46, 48, 45, 48, 46, 48]⟩, .string ⟨#[48, 46, 48, 46, 48]⟩, .string ⟨#[48, 46, 57, 46, 49, 48]⟩, .string ⟨#[49, 46, 48, 46, 48, 45, 50]⟩, .string ⟨#[49, 46, 48, 46, 48, 45, 49, 49]⟩, .string ⟨#[49, 46, 48, 46, 48, 45, 97]⟩, .string ⟨#[49, 46, 48, 46, 48, 45, 97, 46, 49]⟩, .string ⟨#[49, 46, 48, 46, 48, 45, 97, 46, 98]⟩, .string ⟨#[49, 46, 48, 46, 48, 45, 97, 46, 98, 46, 48]⟩, .string ⟨#[49, 46, 48, 46, 48, 45, 98]⟩, .string ⟨#[49, 46, 48, 46, 48, 45, 98, 45, 49]⟩, .string ⟨#[49, 46, 48, 46, 48]⟩, .string ⟨#[49, 46, 48, 46, 49, 45, 48]⟩, .string ⟨#[49, 46, 48, 46, 49]⟩, .string ⟨#[49, 46, 50, 46, 48]⟩, .string ⟨#[49, 46, 49, 48, 46, 48]⟩, .string ⟨#[57, 57, 57, 57, 46, 57, 57, 57, 57, 46, 57, 57, 57, 57]⟩] T) → w'.cell? ⟨B, a, none⟩ = some (.string (mkS T1)) := fun w' B T h => by rw [← hT1]; exact row_cell h a ha
  have d2 : ∀ (w' : World) (B : Nat) (T : TypeId), w'.heap[B]? = some (.cells #[.string ⟨#[48, 46, 48, 46, 48, 45, 48]⟩, .string ⟨#[48, 46, 48, 46, 48, 45, 48, 46, 48]⟩, .string ⟨#[48, 46, 48, 46, 48]⟩, .string ⟨#[48, 46, 57, 46, 49, 48]⟩, .string ⟨#[49, 46, 48, 46, 48, 45, 50]⟩, .string ⟨#[49, 46, 48, 46, 48, 45, 49, 49]⟩, .string ⟨#[49, 46, 48, 46, 48, 45, 97]⟩, .string ⟨#[49, 46, 48, 46, 48, 45, 97, 46, 49]⟩, .string ⟨#[49, 46, 48, 46, 48, 45, 97, 46, 98]⟩, .string ⟨#[49, 46, 48, 46, 48, 45, 97, 46, 98, 46, 48]⟩, .string ⟨#[49, 46, 48, 46, 48, 45, 98]⟩, .string ⟨#[49, 46, 48, 46, 48, 45, 98, 45, 49]⟩, .string ⟨#[49, 46, 48, 46, 48]⟩, .string ⟨#[49, 46, 48, 46, 49, 45, 48]⟩, .string ⟨#[49, 46, 48, 46, 49]⟩, .string ⟨#[49, 46, 50, 46, 48]⟩, .string ⟨#[49, 46, 49, 48, 46, 48]⟩, .string ⟨#[57, 57, 57, 57, 46, 57, 57, 57, 57, 46, 57, 57, 57, 57]⟩] T) → w'.cell? ⟨B, b, none⟩ = some (.string (mkS T2)) := fun w' B T h => by rw [← hT2]; exact row_cell h b hb
  rw [hT1] at c3 c5
  rw [hT2] at c4 c5
  obtain ⟨V1, hV1⟩ : ∃ T, parV T1 = T := ⟨_, rfl⟩
  obtain ⟨V2, hV2⟩ : ∃ T, parV T2 = T := ⟨_, rfl⟩
  rw [hV1] at c3 c5
  rw [hV2] at c4 c5
  obtain ⟨x1, x2, x3, x4, x5⟩ := V1
  obtain ⟨y1, y2, y3, y4, y5⟩ := V2
  unfold verV at c3 c4 c5
  dsimp only at c3 c4 c5
  have hai : (a : Int) < 18 := by omega
  have hbi : (b : Int) < 18 := by omega
  have D1 := Lib.hid d1
  have D2 := Lib.hid d2
  have HW : Hid (rowW a b = if a < b then -1 else if b < a then 1 else 0) := rfl
  obtain ⟨o, ho⟩ : ∃ o, rowW a b = o := ⟨_, rfl⟩
  rw [ho] at c5 HW
  clear ea eb r1 r2 p1 p2 q1 q2 s1 s2 hT1 hT2 hV1 hV2 d1 d2 ho
  have hcase : ((a : Int) < b ∧ o = -1) ∨ ((b : Int) < a ∧ ¬ (a : Int) < b ∧ o = 1) ∨ (¬ (a : Int) < b ∧ ¬ (b : Int) < a ∧ o = 0) := by
    have h := HW.out
    by_cases z1 : a < b
    · rw [if_pos z1] at h; exact .inl ⟨by omega, h⟩
    · by_cases z2 : b < a
      · rw [if_neg z1, if_pos z2] at h; exact .inr (.inl ⟨by omega, by omega, h⟩)
      · rw [if_neg z1, if_neg z2] at h; exact .inr (.inr ⟨by omega, by omega, h⟩)
  clear HW
  rcases hcase with ⟨z1, rfl⟩ | ⟨z1, z2, rfl⟩ | ⟨z1, z2, rfl⟩
  all_goals
    go_enter Tryd.func10, Tryd.ntmps10
    go_wp2_with fail
    refine (row_any _).mono ?_
    rintro e w1 ⟨rfl, rfl⟩
    go_wp2_with fail
    refine (c1 _).mono ?_
    rintro e w1 ⟨rfl, rfl⟩
    go_wp2_with fail
    refine (c2 _).mono ?_
    rintro e w1 ⟨rfl, rfl⟩
    have B0 : Below W.heap.size W (W.alloc (.cells #[.string ⟨#[48, 46, 48, 46, 48, 45, 48]⟩, .string ⟨#[48, 46, 48, 46, 48, 45, 48, 46, 48]⟩, .string ⟨#[48, 46, 48, 46, 48]⟩, .string ⟨#[48, 46, 57, 46, 49, 48]⟩, .string ⟨#[49, 46, 48, 46, 48, 45, 50]⟩, .string ⟨#[49, 46, 48, 46, 48, 45, 49, 49]⟩, .string ⟨#[49, 46, 48, 46, 48, 45, 97]⟩, .string ⟨#[49, 46, 48, 46, 48, 45, 97, 46, 49]⟩, .string ⟨#[49, 46, 48, 46, 48, 45, 97, 46, 98]⟩, .string ⟨#[49, 46, 48, 46, 48, 45, 97, 46, 98, 46, 48]⟩, .string ⟨#[49, 46, 48, 46, 48, 45, 98]⟩, .string ⟨#[49, 46, 48, 46, 48, 45, 98, 45, 49]⟩, .string ⟨#[49, 46, 48, 46, 48]⟩, .string ⟨#[49, 46, 48, 46, 49, 45, 48]⟩, .string ⟨#[49, 46, 48, 46, 49]⟩, .string ⟨#[49, 46, 50, 46, 48]⟩, .string ⟨#[49, 46, 49, 48, 46, 48]⟩, .string ⟨#[57, 57, 57, 57, 46, 57, 57, 57, 57, 46, 57, 57, 57, 57]⟩] 9)) := (Below.refl _ _).alloc (Nat.le_refl _) _
    have m1 := D1.out (W.alloc (.cells #[.string ⟨#[48, 46, 48, 46, 48, 45, 48]⟩, .string ⟨#[48, 46, 48, 46, 48, 45, 48, 46, 48]⟩, .string ⟨#[48, 46, 48, 46, 48]⟩, .string ⟨#[48, 46, 57, 46, 49, 48]⟩, .string ⟨#[49, 46, 48, 46, 48, 45, 50]⟩, .string ⟨#[49, 46, 48, 46, 48, 45, 49, 49]⟩, .string ⟨#[49, 46, 48, 46, 48, 45, 97]⟩, .string ⟨#[49, 46, 48, 46, 48, 45, 97, 46, 49]⟩, .string ⟨#[49, 46, 48, 46, 48, 45, 97, 46, 98]⟩, .string ⟨#[49, 46, 48, 46, 48, 45, 97, 46, 98, 46, 48]⟩, .string ⟨#[49, 46, 48, 46, 48, 45, 98]⟩, .string ⟨#[49, 46, 48, 46, 48, 45, 98, 45, 49]⟩, .string ⟨#[49, 46, 48, 46, 48]⟩, .string ⟨#[49, 46, 48, 46, 49, 45, 48]⟩, .string ⟨#[49, 46, 48, 46, 49]⟩, .string ⟨#[49, 46, 50, 46, 48]⟩, .string ⟨#[49, 46, 49, 48, 46, 48]⟩, .string ⟨#[57, 57, 57, 57, 46, 57, 57, 57, 57, 46, 57, 57, 57, 57]⟩] 9)) W.heap.size 9 (heap_new W _)
    go_wp2_with fail
    refine (c3 _ (ht.on B0)).mono ?_
    rintro e w2 ⟨rfl, hb2⟩
    have hz2 := hb2.size
    rw [size_box] at hz2
    have hr2 := (hb2.block W.heap.size (by rw [size_box]; omega)).trans (heap_new W _)
    have m2 := D2.out _ _ _ hr2
    have B2 : Below W.heap.size W w2 := B0.trans (hb2.mono (by rw [size_box]; omega))
    have l2 : W.heap.size < w2.heap.size := by omega
    clear hb2 m1 hr2
    go_wp2_with fail
    refine (c4 _ (ht.on (B2.alloc (by omega) _))).mono ?_
    rintro e w3 ⟨rfl, hb3⟩
    have hz3 := hb3.size
    rw [size_box] at hz3
    have G2 := Lib.hid ((hb3.block w2.heap.size (by rw [size_box]; omega)).trans (heap_new w2 _))
    have B3 : Below W.heap.size W w3 := (B2.alloc (by omega) _).trans (hb3.mono (by rw [size_box]; omega))
    clear hb3 m2
    go_wp2_with fail
    refine (awake_any _ (ht.on (B3.alloc (by omega) _))).mono ?_
    rintro e w4 ⟨rfl, hb4⟩
    have hz4 := hb4.size
    rw [size_box] at hz4
    obtain ⟨a0, a1, a2, a3, a4⟩ := cells5' ((hb4.block w2.heap.size (by rw [size_box]; omega)).trans ((heap_old _ _ (by omega)).trans G2.out))
    obtain ⟨b0, b1, b2, b3, b4⟩ := cells5' ((hb4.block w3.heap.size (by rw [size_box]; omega)).trans (heap_new w3 _))
    have B4 : Below W.heap.size W w4 := (B3.alloc (by omega) _).trans (hb4.mono (by rw [size_box]; omega))
    have l3 : w2.heap.size < w4.heap.size := by omega
    have l4 : w3.heap.size < w4.heap.size := by omega
    clear hb4
    go_wp2_with fail
    refine (c5 _).mono ?_
    rintro e w5 ⟨rfl, hb5⟩
    go_wp2
    go_ret
    exact ⟨rfl, B4.trans (hb5.mono B4.size)⟩
end Go.Proofs.YtdkdghbmeoeliaaDoor
