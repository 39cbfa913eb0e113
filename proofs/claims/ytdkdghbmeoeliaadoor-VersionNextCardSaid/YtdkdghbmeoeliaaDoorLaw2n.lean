/-
  VersionNext: for every list of numbers the law returns true, and nothing that was there is changed. Condition: the library's table of powers of ten reads as it is laid.
-/
import Derived.Test.YtdkdghbmeoeliaaDoorLaw2g
import Derived.Test.YtdkdghbmeoeliaaDoorThree
import Derived.Test.YtdkdghbmeoeliaaDoorVer5
namespace Go.Proofs.YtdkdghbmeoeliaaDoor
open Go.RowKit

set_option maxHeartbeats 4000000 in
set_option maxRecDepth 100000 in
theorem rel_at5 (v : Value) (l : List Int) (w : World) (hv : ReadsI w w.heap.size v l) (hl : l.length ≤ 9223372036854775807) :
    Calls Tryd.prog 29 #[v, .int .i64 5] w (GEnd (Ver.rel (genV l 5).maj (genV l 5).min (genV l 5).pat) w) := by
  have g2 := fun w' (h : ReadsI w' w'.heap.size v l) => gen_at5 v l w' h hl
  have r2 := fun w' (h : Below w.heap.size w w') => (hv.below h).more h.size
  obtain ⟨b, hb⟩ : ∃ b, genV l 5 = b := ⟨_, rfl⟩
  rw [hb] at g2 ⊢
  clear hb
  obtain ⟨b1, b2, b3, b4, b5⟩ := b
  unfold GEnd at g2
  unfold verV at g2
  dsimp only at g2 ⊢
  obtain ⟨A, cap, rfl, _⟩ := hv
  go_enter Tryd.func29, Tryd.ntmps29
  go_wp2_with fail
  refine (g2 _ (r2 _ ((Below.refl _ _).alloc (Nat.le_refl _) _))).mono ?_
  rintro e w1 ⟨rfl, hb1⟩
  have hz1 := hb1.size
  rw [size_box] at hz1
  have hl1 : w.heap.size < w1.heap.size := by omega
  have HR := Lib.hid ((hb1.block w.heap.size (by rw [size_box]; omega)).trans (heap_new w _))
  have B1 : Below w.heap.size w w1 := ((Below.refl _ _).alloc (Nat.le_refl _) _).trans (hb1.mono (by rw [size_box]; omega))
  have HR2 := Lib.hid ((heap_old w1 (.cells #[.int .i64 b1, .int .i64 b2, .int .i64 b3, .string (mkS []), .string (mkS [])] 24) hl1).trans HR.out)
  clear hb1 g2 r2
  go_wp2_with (refine wpList_store_row rfl 24 _ _ rfl w.heap.size #[.int .i64 b1, .int .i64 b2, .int .i64 b3, .string (mkS []), .string (mkS [])] rfl rfl _ _ HR2.out (by kernel_rfl) rfl (ver_one _ _ _ _ _) ?_)
  have hr := results_cell_row (P := Tryd.prog) (fn := Tryd.f29) Tryd.results29
  exact bodyPost_ret (v := .agg #[.int .i64 b1, .int .i64 b2, .int .i64 b3, .string (mkS []), .string (mkS [])]) (hr _ _ w.heap.size _ _ _ _ rfl (setRow_heap _ _ _ _ _ _ HR2.out) Tryd.underlying24 rfl (by kernel_rfl)) rfl ⟨rfl, below_setRow (B1.alloc (by omega) _) (Nat.le_refl _) _⟩

set_option maxHeartbeats 8000000 in
set_option maxRecDepth 100000 in
theorem next_walk (a1 a2 a3 : Int) (a4 a5 : List UInt8) (b1 b2 b3 n1 n2 n3 : Int) (v : Value) (l : List Int) (W : World) (hv : ReadsI W W.heap.size v l) (hl : l.length ≤ 9223372036854775807)
    (ga : genV l 0 = ⟨a1, a2, a3, a4, a5⟩) (gb : (genV l 5).maj = b1 ∧ (genV l 5).min = b2 ∧ (genV l 5).pat = b3) (hno : nextOk ⟨a1, a2, a3, a4, a5⟩ = true) (hnv : nextV ⟨a1, a2, a3, a4, a5⟩ = Ver.rel n1 n2 n3)
    (x y : Int) (h1 : cmpR ⟨a1, a2, a3, a4, a5⟩ (Ver.rel n1 n2 n3) = -1) (h2 : cmpR ⟨a1, a2, a3, a4, a5⟩ (Ver.rel b1 b2 b3) = x) (h3 : cmpR (Ver.rel n1 n2 n3) (Ver.rel b1 b2 b3) = y) (hc : (x = -1 ∧ y ≤ 0) ∨ ((x == -1) = false ∧ 0 < y)) (ht : HasTab W) :
    Calls Tryd.prog 8 #[v] W fun e w' => e = .returned (.bool true) ∧ Below W.heap.size W w' := by
  have m1 := gen_pre l 0
  have m2 := gen_bld l 0
  rw [ga] at m1 m2
  have g1 := gen_at0 v l W hv hl
  have g2 := fun w' (h : ReadsI w' w'.heap.size v l) => rel_at5 v l w' h hl
  rw [ga] at g1
  rw [gb.1, gb.2.1, gb.2.2] at g2
  have cN := fun w' => vnext_any (Ver.mk a1 a2 a3 a4 a5) w' (by omega) (by omega)
  have c1 := fun w' => vcompare_any (Ver.mk a1 a2 a3 a4 a5) (Ver.rel n1 n2 n3) w' (by omega) (by omega) (by show (0 : Nat) ≤ _; omega) (by show (0 : Nat) ≤ _; omega)
  have c2 := fun w' => vcompare_any (Ver.mk a1 a2 a3 a4 a5) (Ver.rel b1 b2 b3) w' (by omega) (by omega) (by show (0 : Nat) ≤ _; omega) (by show (0 : Nat) ≤ _; omega)
  have c3 := fun w' => vcompare_any (Ver.rel n1 n2 n3) (Ver.rel b1 b2 b3) w' (by show (0 : Nat) ≤ _; omega) (by show (0 : Nat) ≤ _; omega) (by show (0 : Nat) ≤ _; omega) (by show (0 : Nat) ≤ _; omega)
  rw [hno, hnv] at cN
  rw [h1] at c1
  rw [h2] at c2
  rw [h3] at c3
  have r2 := fun w' (h : Below W.heap.size W w') => (hv.below h).more h.size
  unfold GEnd at g1 g2
  unfold Ver.rel at g2 cN c1 c2 c3
  unfold verV at g1 g2 cN c1 c2 c3
  dsimp only at g1 g2 cN c1 c2 c3
  obtain ⟨A, cap, rfl, _⟩ := hv
  have ye : (mkS ([] : List UInt8)).toList.isEmpty = true := by rw [Lib.toList_data, mk_data]; rfl
  clear ga gb hno hnv h1 h2 h3 m1 m2
  rcases hc with ⟨rfl, hy⟩ | ⟨hx, hy⟩
  all_goals
    go_enter Tryd.func8, Tryd.ntmps8
    go_wp2_with fail
    refine g1.mono ?_
    rintro e w1 ⟨rfl, hb1⟩
    go_wp2_with fail
    refine (g2 _ (r2 _ hb1)).mono ?_
    rintro e w2 ⟨rfl, hb2⟩
    have B2 : Below W.heap.size W w2 := hb1.trans (hb2.mono hb1.size)
    go_wp2_with fail
    refine (cN _).mono ?_
    rintro e w3 ⟨rfl, hb3⟩
    have hz2 := B2.size
    have hz3 := hb3.size
    simp only [size_box] at hz3
    have hA := (heap_old w3 (.cells #[.int .i64 n1, .int .i64 n2, .int .i64 n3, .string (mkS []), .string (mkS [])] 24) (by omega : w2.heap.size < w3.heap.size)).trans ((hb3.block w2.heap.size (by simp only [size_box]; omega)).trans ((heap_old _ _ (by rw [size_box]; omega)).trans (heap_new w2 _)))
    have hB := (heap_old w3 (.cells #[.int .i64 n1, .int .i64 n2, .int .i64 n3, .string (mkS []), .string (mkS [])] 24) (by omega : w2.heap.size + 1 < w3.heap.size)).trans ((hb3.block (w2.heap.size + 1) (by simp only [size_box]; omega)).trans (heap_at _ _ _ (by rw [size_box])))
    have B3 : Below W.heap.size W w3 := ((B2.alloc hz2 _).alloc (by rw [size_box]; omega) _).trans (hb3.mono (by simp only [size_box]; omega))
    have HS0 := Lib.hid (three_of hA hB (heap_new w3 _) (B3.alloc (by omega) _))
    clear hA hB hb1 hb2 hb3 g1 g2 r2 cN
    go_wp2_with fail
    go_region_held3 (fun w' => (w'.cell? ⟨w2.heap.size, 0, none⟩ = some (.int .i64 a1) ∧ w'.cell? ⟨w2.heap.size, 1, none⟩ = some (.int .i64 a2) ∧ w'.cell? ⟨w2.heap.size, 2, none⟩ = some (.int .i64 a3) ∧ w'.cell? ⟨w2.heap.size, 3, none⟩ = some (.string (mkS a4)) ∧ w'.cell? ⟨w2.heap.size, 4, none⟩ = some (.string (mkS a5))) ∧ (w'.cell? ⟨(w2.heap.size + 1), 0, none⟩ = some (.int .i64 b1) ∧ w'.cell? ⟨(w2.heap.size + 1), 1, none⟩ = some (.int .i64 b2) ∧ w'.cell? ⟨(w2.heap.size + 1), 2, none⟩ = some (.int .i64 b3) ∧ w'.cell? ⟨(w2.heap.size + 1), 3, none⟩ = some (.string (mkS [])) ∧ w'.cell? ⟨(w2.heap.size + 1), 4, none⟩ = some (.string (mkS []))) ∧ (w'.cell? ⟨w3.heap.size, 0, none⟩ = some (.int .i64 n1) ∧ w'.cell? ⟨w3.heap.size, 1, none⟩ = some (.int .i64 n2) ∧ w'.cell? ⟨w3.heap.size, 2, none⟩ = some (.int .i64 n3) ∧ w'.cell? ⟨w3.heap.size, 3, none⟩ = some (.string (mkS [])) ∧ w'.cell? ⟨w3.heap.size, 4, none⟩ = some (.string (mkS []))) ∧ Below W.heap.size W w' ∧ w2.heap.size < w'.heap.size ∧ (w2.heap.size + 1) < w'.heap.size ∧ w3.heap.size < w'.heap.size)
      ((first | exact HS0.out | exact three_keep ‹_› ‹_› | exact three_keep ‹_› (Below.refl _ _)))
      (first
        | (go_at_call 13; refine (awake_any _ (ht.on (three_below ‹_›))).mono ?_; rintro e w4 ⟨rfl, hb4⟩)
        | (go_at_call 20; with_reducible refine (c1 _).mono ?_; rintro e w5 ⟨rfl, hb5⟩)
        | (go_at_call 20; with_reducible refine (c2 _).mono ?_; rintro e w6 ⟨rfl, hb6⟩)
        | (go_at_call 20; with_reducible refine (c3 _).mono ?_; rintro e w7 ⟨rfl, hb7⟩))
    all_goals
      rename_i hH
      go_wp2
      go_ret
      exact ⟨ret_bool (by first | rfl | (simp; omega)), hH.2.2.2.1⟩

set_option maxHeartbeats 8000000 in
set_option maxRecDepth 100000 in
theorem next_none (a1 a2 a3 : Int) (a4 a5 : List UInt8) (b1 b2 b3 : Int) (v : Value) (l : List Int) (W : World) (hv : ReadsI W W.heap.size v l) (hl : l.length ≤ 9223372036854775807)
    (ga : genV l 0 = ⟨a1, a2, a3, a4, a5⟩) (gb : (genV l 5).maj = b1 ∧ (genV l 5).min = b2 ∧ (genV l 5).pat = b3) (hno : nextOk ⟨a1, a2, a3, a4, a5⟩ = false)
    (y : Int) (h3 : cmpR (Ver.rel b1 b2 b3) ⟨a1, a2, a3, a4, a5⟩ = y) (hc : y ≤ 0) (ht : HasTab W) :
    Calls Tryd.prog 8 #[v] W fun e w' => e = .returned (.bool true) ∧ Below W.heap.size W w' := by
  have m1 := gen_pre l 0
  have m2 := gen_bld l 0
  rw [ga] at m1 m2
  have g1 := gen_at0 v l W hv hl
  have g2 := fun w' (h : ReadsI w' w'.heap.size v l) => rel_at5 v l w' h hl
  rw [ga] at g1
  rw [gb.1, gb.2.1, gb.2.2] at g2
  have cN := fun w' => vnext_any (Ver.mk a1 a2 a3 a4 a5) w' (by omega) (by omega)
  have c3 := fun w' => vcompare_any (Ver.rel b1 b2 b3) (Ver.mk a1 a2 a3 a4 a5) w' (by show (0 : Nat) ≤ _; omega) (by show (0 : Nat) ≤ _; omega) (by omega) (by omega)
  obtain ⟨N, hN⟩ : ∃ N, nextV (Ver.mk a1 a2 a3 a4 a5) = N := ⟨_, rfl⟩
  rw [hno, hN] at cN
  rw [h3] at c3
  obtain ⟨n1, n2, n3, n4, n5⟩ := N
  have r2 := fun w' (h : Below W.heap.size W w') => (hv.below h).more h.size
  unfold GEnd at g1 g2
  unfold Ver.rel at g2 c3
  unfold verV at g1 g2 cN c3
  dsimp only at g1 g2 cN c3
  obtain ⟨A, cap, rfl, _⟩ := hv
  clear ga gb hno hN h3 m1 m2
  go_enter Tryd.func8, Tryd.ntmps8
  go_wp2_with fail
  refine g1.mono ?_
  rintro e w1 ⟨rfl, hb1⟩
  go_wp2_with fail
  refine (g2 _ (r2 _ hb1)).mono ?_
  rintro e w2 ⟨rfl, hb2⟩
  have B2 : Below W.heap.size W w2 := hb1.trans (hb2.mono hb1.size)
  go_wp2_with fail
  refine (cN _).mono ?_
  rintro e w3 ⟨rfl, hb3⟩
  have hz2 := B2.size
  have hz3 := hb3.size
  simp only [size_box] at hz3
  have HA := Lib.hid ((hb3.block w2.heap.size (by simp only [size_box]; omega)).trans ((heap_old _ _ (by rw [size_box]; omega)).trans (heap_new w2 _)))
  have HB := Lib.hid ((hb3.block (w2.heap.size + 1) (by simp only [size_box]; omega)).trans (heap_at _ _ _ (by rw [size_box])))
  have B3 : Below W.heap.size W w3 := ((B2.alloc hz2 _).alloc (by rw [size_box]; omega) _).trans (hb3.mono (by simp only [size_box]; omega))
  clear hb1 hb2 hb3 g1 g2 r2 cN
  go_wp2_with fail
  refine (awake_any _ (ht.on (B3.alloc (by omega) _))).mono ?_
  rintro e w4 ⟨rfl, hb4⟩
  have hz4 := hb4.size
  rw [size_box] at hz4
  obtain ⟨p0, p1, p2, p3, p4⟩ := cells5' ((hb4.block w2.heap.size (by rw [size_box]; omega)).trans ((heap_old _ _ (by omega)).trans HA.out))
  obtain ⟨q0, q1, q2, q3, q4⟩ := cells5' ((hb4.block (w2.heap.size + 1) (by rw [size_box]; omega)).trans ((heap_old _ _ (by omega)).trans HB.out))
  have B4 : Below W.heap.size W w4 := (B3.alloc (by omega) _).trans (hb4.mono (by rw [size_box]; omega))
  clear hb4
  go_wp2_with fail
  refine (c3 _).mono ?_
  rintro e w5 ⟨rfl, hb5⟩
  go_wp2
  go_ret
  exact ⟨ret_bool (by first | rfl | (simp; omega)), B4.trans (hb5.mono B4.size)⟩

theorem versionNext.law (W : World) (v : Value) (l : List Int) (hv : ReadsI W W.heap.size v l) (hl : l.length ≤ maxLen) (ht : HasTab W) :
    Calls Tryd.prog 8 #[v] W fun e w' => e = .returned (.bool true) ∧ Below W.heap.size W w' := by
  unfold maxLen at hl
  have ma := gen_may l 0
  have mb := gen_may l 5
  obtain ⟨h1, h2, h3⟩ := may_nat mb
  have mr : (Ver.rel (genV l 5).maj (genV l 5).min (genV l 5).pat).may = true := rel_in h1 h2 h3
  obtain ⟨a, ha⟩ : ∃ a, genV l 0 = a := ⟨_, rfl⟩
  rw [ha] at ma
  rcases next_law ma mr rfl with ⟨g1, g2⟩ | ⟨g1, n1, n2, n3, g2, g3, g4⟩
  · obtain ⟨a1, a2, a3, a4, a5⟩ := a
    exact next_none a1 a2 a3 a4 a5 _ _ _ v l W hv hl ha ⟨rfl, rfl, rfl⟩ g1 _ rfl g2 ht
  · obtain ⟨a1, a2, a3, a4, a5⟩ := a
    refine next_walk a1 a2 a3 a4 a5 _ _ _ n1 n2 n3 v l W hv hl ha ⟨rfl, rfl, rfl⟩ g1 g2 _ _ g3 rfl rfl ?_ ht
    rcases g4 with ⟨k1, k2⟩ | ⟨k1, k2⟩
    · exact .inl ⟨k1, k2⟩
    · exact .inr ⟨by simpa using k1, by omega⟩
end Go.Proofs.YtdkdghbmeoeliaaDoor
