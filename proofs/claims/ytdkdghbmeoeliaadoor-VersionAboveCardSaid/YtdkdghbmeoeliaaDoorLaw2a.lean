/-
  VersionAbove: for every list of numbers and every number the law returns true, and nothing that was there is changed. Condition: the library's table of powers of ten reads as it is laid.
-/
import Derived.Test.YtdkdghbmeoeliaaDoorLaw2g
import Derived.Test.YtdkdghbmeoeliaaDoorLaw2p
import Derived.Test.YtdkdghbmeoeliaaDoorVer6
namespace Go.Proofs.YtdkdghbmeoeliaaDoor
open Go.RowKit

set_option maxHeartbeats 4000000 in
set_option maxRecDepth 100000 in
theorem above_none (a1 a2 a3 : Int) (a4 a5 : List UInt8) (k : Nat) (v : Value) (l : List Int) (part : Int) (W : World) (hv : ReadsI W W.heap.size v l) (hl : l.length ≤ 9223372036854775807)
    (ga : genV l 0 = ⟨a1, a2, a3, a4, a5⟩) (hk : plc part 3 = (k : Int)) (_hk3 : k < 3) (hno : bumpOk ⟨a1, a2, a3, a4, a5⟩ k = false) (ht : HasTab W) :
    Calls Tryd.prog 12 #[v, .int .i64 part] W fun e w' => e = .returned (.bool true) ∧ Below W.heap.size W w' := by
  have m1 := gen_pre l 0
  have m2 := gen_bld l 0
  rw [ga] at m1 m2
  have g1 := gen_at0 v l W hv hl
  rw [ga] at g1
  have cp := fun w' => place_any part 3 w' (by omega) (by omega)
  rw [hk] at cp
  have cB := fun w' => bump_any (Ver.mk a1 a2 a3 a4 a5) (k : Int) w' (by omega) (by omega)
  have cN := fun w' => vnext_any (Ver.mk a1 a2 a3 a4 a5) w' (by omega) (by omega)
  obtain ⟨B, hB⟩ : ∃ N, bumpV (Ver.mk a1 a2 a3 a4 a5) (k : Int) = N := ⟨_, rfl⟩
  obtain ⟨N, hN⟩ : ∃ N, nextV (Ver.mk a1 a2 a3 a4 a5) = N := ⟨_, rfl⟩
  obtain ⟨no, hno2⟩ : ∃ N, nextOk (Ver.mk a1 a2 a3 a4 a5) = N := ⟨_, rfl⟩
  rw [hno, hB] at cB
  rw [hno2, hN] at cN
  obtain ⟨b1, b2, b3, b4, b5⟩ := B
  obtain ⟨n1, n2, n3, n4, n5⟩ := N
  unfold GEnd at g1
  unfold verV at g1 cB cN
  dsimp only at g1 cB cN
  obtain ⟨A, cap, rfl, _⟩ := hv
  clear ga hk hno hB hN hno2 m1 m2
  · skip
    go_enter Tryd.func12, Tryd.ntmps12
    go_wp2_with fail
    refine g1.mono ?_
    rintro e w1 ⟨rfl, hb1⟩
    go_wp2_with fail
    refine (cp _).mono ?_
    rintro e w1 ⟨rfl, rfl⟩
    go_wp2_with fail
    refine (cB _).mono ?_
    rintro e w2 ⟨rfl, hb2⟩
    have hz1 := hb1.size
    have hz2 := hb2.size
    rw [size_box] at hz2
    have HV2 := Lib.hid ((hb2.block w1.heap.size (by rw [size_box]; omega)).trans (heap_new w1 _))
    have B2 : Below W.heap.size W w2 := (hb1.alloc hz1 _).trans (hb2.mono (by rw [size_box]; omega))
    clear hb1 hb2 g1 cp
    go_wp2_with (first | (refine wpList_load_row rfl 24 _ rfl w1.heap.size rfl _ _ _ _ ((heap_old _ _ (by omega)).trans HV2.out) Tryd.underlying24 rfl (by kernel_rfl) ?_) | fail)
    refine (cN _).mono ?_
    rintro e w3 ⟨rfl, hb3⟩
    have hz3 := hb3.size
    rw [size_box] at hz3
    have HV3 := Lib.hid ((hb3.block w1.heap.size (by rw [size_box]; omega)).trans ((heap_old _ _ (by omega)).trans HV2.out))
    have HB3 := Lib.hid ((hb3.block w2.heap.size (by rw [size_box]; omega)).trans (heap_new w2 _))
    have B3 : Below W.heap.size W w3 := (B2.alloc (by omega) _).trans (hb3.mono (by rw [size_box]; omega))
    clear hb3
    go_wp2_with fail
    refine (awake_any _ (ht.on (B3.alloc (by omega) _))).mono ?_
    rintro e w4 ⟨rfl, hb4⟩
    go_wp2
    go_ret
    exact ⟨rfl, (B3.alloc (by omega) _).trans (hb4.mono (by rw [size_box]; omega))⟩

set_option maxHeartbeats 8000000 in
set_option maxRecDepth 100000 in
theorem above_walk (a1 a2 a3 : Int) (a4 a5 : List UInt8) (k : Nat) (b1 b2 b3 n1 n2 n3 : Int) (v : Value) (l : List Int) (part : Int) (W : World) (hv : ReadsI W W.heap.size v l) (hl : l.length ≤ 9223372036854775807)
    (ga : genV l 0 = ⟨a1, a2, a3, a4, a5⟩) (hk : plc part 3 = (k : Int)) (hk3 : k < 3) (hno : bumpOk ⟨a1, a2, a3, a4, a5⟩ k = true) (hbv : bumpV ⟨a1, a2, a3, a4, a5⟩ k = Ver.rel b1 b2 b3) (hnn : nextOk ⟨a1, a2, a3, a4, a5⟩ = true) (hnv : nextV ⟨a1, a2, a3, a4, a5⟩ = Ver.rel n1 n2 n3)
    (c1 c2 c3 : Int) (c4 c5 : List UInt8) (up : Bool) (hup : bumpOk ⟨a1, a2, a3, a4, a5⟩ ((k : Int) - 1) = up) (hcv : bumpV ⟨a1, a2, a3, a4, a5⟩ ((k : Int) - 1) = ⟨c1, c2, c3, c4, c5⟩) (hc4 : c4.length ≤ 1000000) (hc5 : c5.length ≤ 1000000)
    (y z : Int) (h1 : cmpR ⟨a1, a2, a3, a4, a5⟩ (Ver.rel b1 b2 b3) = -1) (h2 : cmpR (Ver.rel n1 n2 n3) (Ver.rel b1 b2 b3) = y) (h3 : cmpR (Ver.rel b1 b2 b3) ⟨c1, c2, c3, c4, c5⟩ = z) (hy : y ≤ 0) (hc : ((k : Int) == 0) = true ∨ (((k : Int) == 0) = false ∧ up = false) ∨ (((k : Int) == 0) = false ∧ up = true ∧ z ≤ 0)) (ht : HasTab W) :
    Calls Tryd.prog 12 #[v, .int .i64 part] W fun e w' => e = .returned (.bool true) ∧ Below W.heap.size W w' := by
  have m1 := gen_pre l 0
  have m2 := gen_bld l 0
  rw [ga] at m1 m2
  have g1 := gen_at0 v l W hv hl
  rw [ga] at g1
  have cp := fun w' => place_any part 3 w' (by omega) (by omega)
  rw [hk] at cp
  have cB := fun w' => bump_any (Ver.mk a1 a2 a3 a4 a5) (k : Int) w' (by omega) (by omega)
  have cN := fun w' => vnext_any (Ver.mk a1 a2 a3 a4 a5) w' (by omega) (by omega)
  have cU := fun w' => bump_any (Ver.mk a1 a2 a3 a4 a5) ((k : Int) - 1) w' (by omega) (by omega)
  have d1 := fun w' => vcompare_any (Ver.mk a1 a2 a3 a4 a5) (Ver.rel b1 b2 b3) w' (by omega) (by omega) (by show (0 : Nat) ≤ _; omega) (by show (0 : Nat) ≤ _; omega)
  have d2 := fun w' => vcompare_any (Ver.rel n1 n2 n3) (Ver.rel b1 b2 b3) w' (by show (0 : Nat) ≤ _; omega) (by show (0 : Nat) ≤ _; omega) (by show (0 : Nat) ≤ _; omega) (by show (0 : Nat) ≤ _; omega)
  have d3 := fun w' => vcompare_any (Ver.rel b1 b2 b3) (Ver.mk c1 c2 c3 c4 c5) w' (by show (0 : Nat) ≤ _; omega) (by show (0 : Nat) ≤ _; omega) hc4 hc5
  rw [hno, hbv] at cB
  rw [hnn, hnv] at cN
  rw [hup, hcv] at cU
  rw [h1] at d1
  rw [h2] at d2
  rw [h3] at d3
  unfold GEnd at g1
  unfold Ver.rel at cB cN d1 d2 d3
  unfold verV at g1 cB cN cU d1 d2 d3
  dsimp only at g1 cB cN cU d1 d2 d3
  obtain ⟨A, cap, rfl, _⟩ := hv
  have hki : (k : Int) < 3 := by omega
  clear ga hk hno hbv hnn hnv hup hcv hc4 hc5 h1 h2 h3 m1 m2
  rcases hc with hk0 | ⟨hk0, rfl⟩ | ⟨hk0, rfl, hz⟩
  all_goals
    go_enter Tryd.func12, Tryd.ntmps12
    go_wp2_with fail
    refine g1.mono ?_
    rintro e w1 ⟨rfl, hb1⟩
    go_wp2_with fail
    refine (cp _).mono ?_
    rintro e w1 ⟨rfl, rfl⟩
    go_wp2_with fail
    refine (cB _).mono ?_
    rintro e w2 ⟨rfl, hb2⟩
    have hz1 := hb1.size
    have hz2 := hb2.size
    rw [size_box] at hz2
    have HV2 := Lib.hid ((hb2.block w1.heap.size (by rw [size_box]; omega)).trans (heap_new w1 _))
    have B2 : Below W.heap.size W w2 := (hb1.alloc hz1 _).trans (hb2.mono (by rw [size_box]; omega))
    clear hb1 hb2 g1 cp
    go_wp2_with (first | (refine wpList_load_row rfl 24 _ rfl w1.heap.size rfl _ _ _ _ ((heap_old _ _ (by omega)).trans HV2.out) Tryd.underlying24 rfl (by kernel_rfl) ?_) | fail)
    refine (cN _).mono ?_
    rintro e w3 ⟨rfl, hb3⟩
    have hz3 := hb3.size
    rw [size_box] at hz3
    have HV3 := Lib.hid ((hb3.block w1.heap.size (by rw [size_box]; omega)).trans ((heap_old _ _ (by omega)).trans HV2.out))
    have HB3 := Lib.hid ((hb3.block w2.heap.size (by rw [size_box]; omega)).trans (heap_new w2 _))
    have B3 : Below W.heap.size W w3 := (B2.alloc (by omega) _).trans (hb3.mono (by rw [size_box]; omega))
    clear hb3
    go_wp2_with (first | (refine wpList_load_row rfl 24 _ rfl w1.heap.size rfl _ _ _ _ ((heap_old _ _ (by omega)).trans HV3.out) Tryd.underlying24 rfl (by kernel_rfl) ?_) | fail)
    refine (cU _).mono ?_
    rintro e w4 ⟨rfl, hb4⟩
    have hz4 := hb4.size
    rw [size_box] at hz4
    have HV4 := Lib.hid ((hb4.block w1.heap.size (by rw [size_box]; omega)).trans ((heap_old _ _ (by omega)).trans HV3.out))
    have HB4 := Lib.hid ((hb4.block w2.heap.size (by rw [size_box]; omega)).trans ((heap_old _ _ (by omega)).trans HB3.out))
    have HN4 := Lib.hid ((hb4.block w3.heap.size (by rw [size_box]; omega)).trans (heap_new w3 _))
    have B4 : Below W.heap.size W w4 := (B3.alloc (by omega) _).trans (hb4.mono (by rw [size_box]; omega))
    clear hb4
    go_wp2_with fail
    refine (awake_any _ (ht.on (B4.alloc (by omega) _))).mono ?_
    rintro e w5 ⟨rfl, hb5⟩
    have hz5 := hb5.size
    rw [size_box] at hz5
    have HV5 := Lib.hid ((hb5.block w1.heap.size (by rw [size_box]; omega)).trans ((heap_old _ _ (by omega)).trans HV4.out))
    have HB5 := Lib.hid ((hb5.block w2.heap.size (by rw [size_box]; omega)).trans ((heap_old _ _ (by omega)).trans HB4.out))
    have HN5 := Lib.hid ((hb5.block w3.heap.size (by rw [size_box]; omega)).trans ((heap_old _ _ (by omega)).trans HN4.out))
    have HC5 := Lib.hid ((hb5.block w4.heap.size (by rw [size_box]; omega)).trans (heap_new w4 _))
    have B5 : Below W.heap.size W w5 := (B4.alloc (by omega) _).trans (hb5.mono (by rw [size_box]; omega))
    obtain ⟨p0, p1, p2, p3, p4⟩ := cells5' HV5.out
    obtain ⟨q0, q1, q2, q3, q4⟩ := cells5' HB5.out
    clear hb5
    go_wp2_with fail
    refine (d1 _).mono ?_
    rintro e w6 ⟨rfl, hb6⟩
    have B6 := B5.trans (hb6.mono B5.size)
    have hz6 := hb6.size
    have HB6 := Lib.hid ((hb6.block w2.heap.size (by omega)).trans HB5.out)
    obtain ⟨r0, r1, r2, r3, r4⟩ := cells5' ((hb6.block w3.heap.size (by omega)).trans HN5.out)
    obtain ⟨s0, s1, s2, s3, s4⟩ := cells5' HB6.out
    have HC6 := Lib.hid ((hb6.block w4.heap.size (by omega)).trans HC5.out)
    clear hb6
    go_wp2_with fail
    refine (d2 _).mono ?_
    rintro e w7 ⟨rfl, hb7⟩
    have B7 := B6.trans (hb7.mono B6.size)
    have hz7 := hb7.size
    obtain ⟨t0, t1, t2, t3, t4⟩ := cells5' ((hb7.block w2.heap.size (by omega)).trans HB6.out)
    obtain ⟨x0, x1, x2, x3, x4⟩ := cells5' ((hb7.block w4.heap.size (by omega)).trans HC6.out)
    clear hb7
    first
      | (go_wp2_with (go_at_call 20; refine (d3 _).mono ?_; rintro e w8 ⟨rfl, hb8⟩)
         go_ret
         exact ⟨ret_bool (by first | rfl | (simp; omega)), B7.trans (hb8.mono B7.size)⟩)
      | (go_wp2
         go_ret
         exact ⟨ret_bool (by first | rfl | (simp; omega)), B7⟩)

theorem versionAbove.law (W : World) (v : Value) (l : List Int) (hv : ReadsI W W.heap.size v l) (hl : l.length ≤ maxLen) (part : Int) (_w : (Lit.int .i64 part).wf = true) (ht : HasTab W) :
    Calls Tryd.prog 12 #[v, .int .i64 part] W fun e w' => e = .returned (.bool true) ∧ Below W.heap.size W w' := by
  unfold maxLen at hl
  have ma := gen_may l 0
  obtain ⟨k, hk⟩ : ∃ k : Nat, plc part 3 = (k : Int) := ⟨_, (Int.toNat_of_nonneg (plc_in _ _ (by omega)).1).symm⟩
  have hk3 : k < 3 := by have := (plc_in part 3 (by omega)).2; omega
  obtain ⟨a, ha⟩ : ∃ a, genV l 0 = a := ⟨_, rfl⟩
  rw [ha] at ma
  cases hb : bumpOk a (k : Int) with
  | false =>
    obtain ⟨a1, a2, a3, a4, a5⟩ := a
    exact above_none a1 a2 a3 a4 a5 k v l part W hv hl ha hk hk3 hb ht
  | true =>
    obtain ⟨b1, b2, b3, n1, n2, n3, e1, e2, e3, e4, e5, e6⟩ := above_law ma k hk3 hb
    obtain ⟨a1, a2, a3, a4, a5⟩ := a
    rcases e6 with k0 | ⟨k0, e6⟩ | ⟨k0, e6, d, e, f, e7, e8⟩
    · have hn : bumpOk ⟨a1, a2, a3, a4, a5⟩ ((k : Int) - 1) = false := by subst k0; unfold bumpOk; rw [decide_eq_false (by omega)]; simp
      have hz : bumpV ⟨a1, a2, a3, a4, a5⟩ ((k : Int) - 1) = ⟨0, 0, 0, [], []⟩ := by unfold bumpV; rw [hn]; rfl
      exact above_walk a1 a2 a3 a4 a5 k b1 b2 b3 n1 n2 n3 v l part W hv hl ha hk hk3 hb e1 e2 e3 0 0 0 [] [] false hn hz (by decide) (by decide) _ _ e4 rfl rfl e5 (.inl (by subst k0; rfl)) ht
    · have hz : bumpV ⟨a1, a2, a3, a4, a5⟩ ((k : Int) - 1) = ⟨0, 0, 0, [], []⟩ := by unfold bumpV; rw [e6]; rfl
      exact above_walk a1 a2 a3 a4 a5 k b1 b2 b3 n1 n2 n3 v l part W hv hl ha hk hk3 hb e1 e2 e3 0 0 0 [] [] false e6 hz (by decide) (by decide) _ _ e4 rfl rfl e5 (.inr (.inl ⟨by simp; omega, rfl⟩)) ht
    · exact above_walk a1 a2 a3 a4 a5 k b1 b2 b3 n1 n2 n3 v l part W hv hl ha hk hk3 hb e1 e2 e3 d e f [] [] true e6 e7 (by decide) (by decide) _ _ e4 rfl rfl e5 (.inr (.inr ⟨by simp; omega, rfl, e8⟩)) ht
end Go.Proofs.YtdkdghbmeoeliaaDoor
