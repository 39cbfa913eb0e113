/-
  VersionBumps: for every version and every part the law returns true, and nothing that was there is changed. Condition: the library's table of powers of ten reads as it is laid.
-/
import Derived.Test.YtdkdghbmeoeliaaDoorLaw2r
import Derived.Test.YtdkdghbmeoeliaaDoorOpen2
import Derived.Test.YtdkdghbmeoeliaaDoorR2Bump
namespace Go.Proofs.YtdkdghbmeoeliaaDoor
open Go.RowKit

set_option maxHeartbeats 8000000 in
set_option maxRecDepth 100000 in
theorem bumps_small (a b c : Int) (p q : List UInt8) (part : Int) (W : World) (hp : p.length ≤ 300) (hq : q.length ≤ 300) (ht : HasTab W) :
    Calls Tryd.prog 7 #[verVal a b c (mkS p) (mkS q), .int .i64 part] W fun e w' => e = .returned (.bool true) ∧ Below W.heap.size W w' := by
  have c1 := fun w' => bump_any (Ver.mk a b c p q) part w' (by show p.length ≤ _; omega) (by show q.length ≤ _; omega)
  have c2 := fun w' => rbump_any (Ver.mk a b c p q) part w' (by show p.length ≤ _; omega) (by show q.length ≤ _; omega)
  have c3 := fun w' => vnext_any (Ver.mk a b c p q) w' (by show p.length ≤ _; omega) (by show q.length ≤ _; omega)
  have c4 := fun w' => rnext_any (Ver.mk a b c p q) w' (by show p.length ≤ _; omega) (by show q.length ≤ _; omega)
  obtain ⟨B, hB⟩ : ∃ r, bumpV (Ver.mk a b c p q) part = r := ⟨_, rfl⟩
  obtain ⟨N, hN⟩ : ∃ r, nextV (Ver.mk a b c p q) = r := ⟨_, rfl⟩
  obtain ⟨bo, hbo⟩ : ∃ r, bumpOk (Ver.mk a b c p q) part = r := ⟨_, rfl⟩
  obtain ⟨no, hno⟩ : ∃ r, nextOk (Ver.mk a b c p q) = r := ⟨_, rfl⟩
  rw [hB, hbo] at c1 c2
  rw [hN, hno] at c3 c4
  obtain ⟨x1, x2, x3, x4, x5⟩ := B
  obtain ⟨y1, y2, y3, y4, y5⟩ := N
  unfold verV at c1 c2 c3 c4
  dsimp only at c1 c2 c3 c4
  have z1 : ¬ (300 : Int) < (mkS p).size := by rw [mkS_sz]; omega
  have z2 : ¬ (300 : Int) < (mkS q).size := by rw [mkS_sz]; omega
  unfold verVal
  clear hB hN hbo hno
  go_enter Tryd.func7, Tryd.ntmps7
  go_wp2_with fail
  refine (c1 _).mono ?_
  rintro e w1 ⟨rfl, hb1⟩
  have hz1 := hb1.size
  rw [size_box] at hz1
  have G1 := Lib.hid ((hb1.block W.heap.size (by rw [size_box]; omega)).trans (heap_new W _))
  have B1 : Below W.heap.size W w1 := ((Below.refl _ _).alloc (Nat.le_refl _) _).trans (hb1.mono (by rw [size_box]; omega))
  clear hb1
  go_wp2_with (first | (refine wpList_load_row rfl 24 _ rfl W.heap.size rfl _ _ _ _ ((heap_old _ _ (by omega)).trans G1.out) Tryd.underlying24 rfl (by kernel_rfl) ?_) | fail)
  refine (c2 _).mono ?_
  rintro e w2 ⟨rfl, hb2⟩
  have hz2 := hb2.size
  rw [size_box] at hz2
  have G2 := Lib.hid ((hb2.block W.heap.size (by rw [size_box]; omega)).trans ((heap_old _ _ (by omega)).trans G1.out))
  have V1_2 := Lib.hid ((hb2.block w1.heap.size (by rw [size_box]; omega)).trans (heap_new w1 _))
  have B2 : Below W.heap.size W w2 := (B1.alloc (by omega) _).trans (hb2.mono (by rw [size_box]; omega))
  clear hb2
  go_wp2_with (first | (refine wpList_load_row rfl 24 _ rfl W.heap.size rfl _ _ _ _ ((heap_old _ _ (by omega)).trans G2.out) Tryd.underlying24 rfl (by kernel_rfl) ?_) | fail)
  refine (c3 _).mono ?_
  rintro e w3 ⟨rfl, hb3⟩
  have hz3 := hb3.size
  rw [size_box] at hz3
  have G3 := Lib.hid ((hb3.block W.heap.size (by rw [size_box]; omega)).trans ((heap_old _ _ (by omega)).trans G2.out))
  have V1_3 := Lib.hid ((hb3.block w1.heap.size (by rw [size_box]; omega)).trans ((heap_old _ _ (by omega)).trans V1_2.out))
  have V2_3 := Lib.hid ((hb3.block w2.heap.size (by rw [size_box]; omega)).trans (heap_new w2 _))
  have B3 : Below W.heap.size W w3 := (B2.alloc (by omega) _).trans (hb3.mono (by rw [size_box]; omega))
  clear hb3
  go_wp2_with (first | (refine wpList_load_row rfl 24 _ rfl W.heap.size rfl _ _ _ _ ((heap_old _ _ (by omega)).trans G3.out) Tryd.underlying24 rfl (by kernel_rfl) ?_) | fail)
  refine (c4 _).mono ?_
  rintro e w4 ⟨rfl, hb4⟩
  have hz4 := hb4.size
  rw [size_box] at hz4
  have G4 := Lib.hid ((hb4.block W.heap.size (by rw [size_box]; omega)).trans ((heap_old _ _ (by omega)).trans G3.out))
  have V1_4 := Lib.hid ((hb4.block w1.heap.size (by rw [size_box]; omega)).trans ((heap_old _ _ (by omega)).trans V1_3.out))
  have V2_4 := Lib.hid ((hb4.block w2.heap.size (by rw [size_box]; omega)).trans ((heap_old _ _ (by omega)).trans V2_3.out))
  have V3_4 := Lib.hid ((hb4.block w3.heap.size (by rw [size_box]; omega)).trans (heap_new w3 _))
  have B4 : Below W.heap.size W w4 := (B3.alloc (by omega) _).trans (hb4.mono (by rw [size_box]; omega))
  clear hb4
  go_wp2_with fail
  refine (awake_any _ (ht.on (B4.alloc (by omega) _))).mono ?_
  rintro e w5 ⟨rfl, hb5⟩
  have hz5 := hb5.size
  rw [size_box] at hz5
  obtain ⟨a1, b1, d1, e1, f1⟩ := cells5' ((hb5.block w1.heap.size (by rw [size_box]; omega)).trans ((heap_old _ _ (by omega)).trans V1_4.out))
  obtain ⟨a2, b2, d2, e2, f2⟩ := cells5' ((hb5.block w2.heap.size (by rw [size_box]; omega)).trans ((heap_old _ _ (by omega)).trans V2_4.out))
  obtain ⟨a3, b3, d3, e3, f3⟩ := cells5' ((hb5.block w3.heap.size (by rw [size_box]; omega)).trans ((heap_old _ _ (by omega)).trans V3_4.out))
  obtain ⟨a4, b4, d4, e4, f4⟩ := cells5' ((hb5.block w4.heap.size (by rw [size_box]; omega)).trans (heap_new w4 _))
  have B5 : Below W.heap.size W w5 := (B4.alloc (by omega) _).trans (hb5.mono (by rw [size_box]; omega))
  clear hb5 c1 c2 c3 c4
  cases bo <;> cases no
  all_goals
    go_wp2
    go_ret
    exact ⟨rfl, B5⟩

set_option maxHeartbeats 4000000 in
set_option maxRecDepth 100000 in
theorem bumps_big (a b c : Int) (p q : ByteArray) (part : Int) (W : World) (hb : 300 < p.size ∨ (p.size ≤ 300 ∧ 300 < q.size)) (ht : HasTab W) :
    Calls Tryd.prog 7 #[verVal a b c p q, .int .i64 part] W fun e w' => e = .returned (.bool true) ∧ Below W.heap.size W w' := by
  unfold verVal
  have B0 : ∀ o1, Below W.heap.size W (W.alloc o1) := fun o1 => (Below.refl _ _).alloc (Nat.le_refl _) _
  have cA := fun o1 => awake_any (W.alloc o1) (ht.on (B0 o1))
  rcases hb with h1 | ⟨h1, h2⟩
  · have i1 : (300 : Int) < p.size := by omega
    clear h1
    go_enter Tryd.func7, Tryd.ntmps7
    go_wp2_with (go_at_call 13; refine (cA _).mono ?_; rintro e w1 ⟨rfl, hb1⟩)
    go_ret
    exact ⟨rfl, (B0 _).trans (hb1.mono (by rw [size_box]; omega))⟩
  · have i1 : ¬ (300 : Int) < p.size := by omega
    have i2 : (300 : Int) < q.size := by omega
    clear h1 h2
    go_enter Tryd.func7, Tryd.ntmps7
    go_wp2_with (go_at_call 13; refine (cA _).mono ?_; rintro e w1 ⟨rfl, hb1⟩)
    go_ret
    exact ⟨rfl, (B0 _).trans (hb1.mono (by rw [size_box]; omega))⟩

theorem versionBumps.law (W : World) (a b c : Int) (p q : ByteArray) (_hp : p.size ≤ maxLen) (_hq : q.size ≤ maxLen) (part : Int) (_w : (Lit.int .i64 part).wf = true) (ht : HasTab W) :
    Calls Tryd.prog 7 #[verVal a b c p q, .int .i64 part] W fun e w' => e = .returned (.bool true) ∧ Below W.heap.size W w' := by
  by_cases h1 : 300 < p.size
  · exact bumps_big a b c p q part W (.inl h1) ht
  · by_cases h2 : 300 < q.size
    · exact bumps_big a b c p q part W (.inr ⟨by omega, h2⟩) ht
    · have e1 := bytes_mk p
      have e2 := bytes_mk q
      rw [e1, e2]
      exact bumps_small a b c _ _ part W (by rw [len_data]; omega) (by rw [len_data]; omega) ht
end Go.Proofs.YtdkdghbmeoeliaaDoor
