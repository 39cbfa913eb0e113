/-
  VersionUnlike: for every list of numbers the law returns true, and nothing that was there is changed. Condition: the library's table of powers of ten reads as it is laid.
-/
import Derived.Test.YtdkdghbmeoeliaaDoorLaw2g
import Derived.Test.YtdkdghbmeoeliaaDoorLaw2p
namespace Go.Proofs.YtdkdghbmeoeliaaDoor
open Go.RowKit

set_option maxHeartbeats 8000000 in
set_option maxRecDepth 100000 in
theorem unlike_walk (a1 a2 a3 : Int) (a4 a5 : List UInt8) (b1 b2 b3 : Int) (b4 b5 : List UInt8) (v : Value) (l : List Int) (W : World) (hv : ReadsI W W.heap.size v l) (hl : l.length ≤ 9223372036854775807)
    (ga : genV l 0 = ⟨a1, a2, a3, a4, a5⟩) (gb : genV l 5 = ⟨b1, b2, b3, b4, b5⟩) (P Q : List UInt8) (hP : (Ver.mk a1 a2 a3 a4 a5).print = P) (hQ : (Ver.mk b1 b2 b3 b4 b5).print = Q) (s : Bool) (hPQ : ((mkS P).toList == (mkS Q).toList) = s) (h4 : (4 : Int) < (mkS P).size)
    (hd : (s = true ∧ a1 = b1 ∧ a2 = b2 ∧ a3 = b3 ∧ a4 = b4 ∧ a5 = b5) ∨ (s = false ∧ ((a1 == b1) = false ∨ ((a1 == b1) = true ∧ (a2 == b2) = false) ∨ ((a1 == b1) = true ∧ (a2 == b2) = true ∧ (a3 == b3) = false) ∨ ((a1 == b1) = true ∧ (a2 == b2) = true ∧ (a3 == b3) = true ∧ ((mkS a4).toList == (mkS b4).toList) = false) ∨ ((a1 == b1) = true ∧ (a2 == b2) = true ∧ (a3 == b3) = true ∧ ((mkS a4).toList == (mkS b4).toList) = true ∧ ((mkS a5).toList == (mkS b5).toList) = false))))
    (ht : HasTab W) :
    Calls Tryd.prog 11 #[v] W fun e w' => e = .returned (.bool true) ∧ Below W.heap.size W w' := by
  have n1 := gen_pre l 0
  have n2 := gen_bld l 0
  have n3 := gen_pre l 5
  have n4 := gen_bld l 5
  rw [ga] at n1 n2
  rw [gb] at n3 n4
  have g1 := gen_at0 v l W hv hl
  have g2 := fun w' (h : ReadsI w' w'.heap.size v l) => gen_at5 v l w' h hl
  rw [ga] at g1
  rw [gb] at g2
  have cP := fun w' h => vprint_any (Ver.mk a1 a2 a3 a4 a5) w' (by omega) (by omega) h
  have cQ := fun w' h => vprint_any (Ver.mk b1 b2 b3 b4 b5) w' (by omega) (by omega) h
  rw [hP] at cP
  rw [hQ] at cQ
  have r2 := fun w' (h : Below W.heap.size W w') => (hv.below h).more h.size
  unfold GEnd at g1 g2
  unfold verV at g1 g2 cP cQ
  dsimp only at g1 g2 cP cQ n1 n2 n3 n4
  obtain ⟨A, cap, rfl, _⟩ := hv
  clear ga gb hP hQ
  rcases hd with ⟨rfl, rfl, rfl, rfl, rfl, rfl⟩ | ⟨rfl, hd⟩
  · go_enter Tryd.func11, Tryd.ntmps11
    go_wp2_with fail
    refine g1.mono ?_
    rintro e w1 ⟨rfl, hb1⟩
    go_wp2_with fail
    refine (g2 _ (r2 _ hb1)).mono ?_
    rintro e w2 ⟨rfl, hb2⟩
    have B2 : Below W.heap.size W w2 := hb1.trans (hb2.mono hb1.size)
    have hA : ((w2.alloc (.cells #[.int .i64 a1, .int .i64 a2, .int .i64 a3, .string (mkS a4), .string (mkS a5)] 24)).alloc (.cells #[.int .i64 a1, .int .i64 a2, .int .i64 a3, .string (mkS a4), .string (mkS a5)] 24)).heap[w2.heap.size]? = some (.cells #[.int .i64 a1, .int .i64 a2, .int .i64 a3, .string (mkS a4), .string (mkS a5)] 24) := (heap_old _ _ (by rw [size_box]; omega)).trans (heap_new w2 _)
    have hB : ((w2.alloc (.cells #[.int .i64 a1, .int .i64 a2, .int .i64 a3, .string (mkS a4), .string (mkS a5)] 24)).alloc (.cells #[.int .i64 a1, .int .i64 a2, .int .i64 a3, .string (mkS a4), .string (mkS a5)] 24)).heap[w2.heap.size + 1]? = some (.cells #[.int .i64 a1, .int .i64 a2, .int .i64 a3, .string (mkS a4), .string (mkS a5)] 24) := heap_at _ _ _ (by rw [size_box])
    have HS0 := Lib.hid (two_of hA hB ((B2.alloc B2.size _).alloc (by rw [size_box]; have := B2.size; omega) _))
    clear hA hB hb1 hb2 g1 g2 r2
    go_wp2_with fail
    go_region_held3 (fun w' => (w'.cell? ⟨w2.heap.size, 0, none⟩ = some (.int .i64 a1) ∧ w'.cell? ⟨w2.heap.size, 1, none⟩ = some (.int .i64 a2) ∧ w'.cell? ⟨w2.heap.size, 2, none⟩ = some (.int .i64 a3) ∧ w'.cell? ⟨w2.heap.size, 3, none⟩ = some (.string (mkS a4)) ∧ w'.cell? ⟨w2.heap.size, 4, none⟩ = some (.string (mkS a5))) ∧ (w'.cell? ⟨(w2.heap.size + 1), 0, none⟩ = some (.int .i64 a1) ∧ w'.cell? ⟨(w2.heap.size + 1), 1, none⟩ = some (.int .i64 a2) ∧ w'.cell? ⟨(w2.heap.size + 1), 2, none⟩ = some (.int .i64 a3) ∧ w'.cell? ⟨(w2.heap.size + 1), 3, none⟩ = some (.string (mkS a4)) ∧ w'.cell? ⟨(w2.heap.size + 1), 4, none⟩ = some (.string (mkS a5))) ∧ Below W.heap.size W w' ∧ w2.heap.size < w'.heap.size ∧ (w2.heap.size + 1) < w'.heap.size)
      ((first | exact HS0.out | exact two_keep ‹_› ‹_› | exact two_keep ‹_› (Below.refl _ _)))
      (first
        | (go_at_call 13; refine (awake_any _ (ht.on (two_below ‹_›))).mono ?_; rintro e w3 ⟨rfl, hb3⟩)
        | (go_at_call 16; with_reducible refine (cP _ (ht.on (two_below ‹_›))).mono ?_; rintro e w4 ⟨rfl, hb4⟩)
        | (go_at_call 16; with_reducible refine (cQ _ (ht.on (two_below ‹_›))).mono ?_; rintro e w5 ⟨rfl, hb5⟩))
    all_goals
      rename_i hH
      go_wp2
      go_ret
      exact ⟨rfl, hH.2.2.1⟩
  · rcases hd with d1 | ⟨d1, d2⟩ | ⟨d1, d2, d3⟩ | ⟨d1, d2, d3, d4⟩ | ⟨d1, d2, d3, d4, d5⟩
    all_goals
      go_enter Tryd.func11, Tryd.ntmps11
      go_wp2_with fail
      refine g1.mono ?_
      rintro e w1 ⟨rfl, hb1⟩
      go_wp2_with fail
      refine (g2 _ (r2 _ hb1)).mono ?_
      rintro e w2 ⟨rfl, hb2⟩
      have B2 : Below W.heap.size W w2 := hb1.trans (hb2.mono hb1.size)
      have hA : ((w2.alloc (.cells #[.int .i64 a1, .int .i64 a2, .int .i64 a3, .string (mkS a4), .string (mkS a5)] 24)).alloc (.cells #[.int .i64 b1, .int .i64 b2, .int .i64 b3, .string (mkS b4), .string (mkS b5)] 24)).heap[w2.heap.size]? = some (.cells #[.int .i64 a1, .int .i64 a2, .int .i64 a3, .string (mkS a4), .string (mkS a5)] 24) := (heap_old _ _ (by rw [size_box]; omega)).trans (heap_new w2 _)
      have hB : ((w2.alloc (.cells #[.int .i64 a1, .int .i64 a2, .int .i64 a3, .string (mkS a4), .string (mkS a5)] 24)).alloc (.cells #[.int .i64 b1, .int .i64 b2, .int .i64 b3, .string (mkS b4), .string (mkS b5)] 24)).heap[w2.heap.size + 1]? = some (.cells #[.int .i64 b1, .int .i64 b2, .int .i64 b3, .string (mkS b4), .string (mkS b5)] 24) := heap_at _ _ _ (by rw [size_box])
      have HS0 := Lib.hid (two_of hA hB ((B2.alloc B2.size _).alloc (by rw [size_box]; have := B2.size; omega) _))
      clear hA hB hb1 hb2 g1 g2 r2
      go_wp2_with fail
      go_region_held3 (fun w' => (w'.cell? ⟨w2.heap.size, 0, none⟩ = some (.int .i64 a1) ∧ w'.cell? ⟨w2.heap.size, 1, none⟩ = some (.int .i64 a2) ∧ w'.cell? ⟨w2.heap.size, 2, none⟩ = some (.int .i64 a3) ∧ w'.cell? ⟨w2.heap.size, 3, none⟩ = some (.string (mkS a4)) ∧ w'.cell? ⟨w2.heap.size, 4, none⟩ = some (.string (mkS a5))) ∧ (w'.cell? ⟨(w2.heap.size + 1), 0, none⟩ = some (.int .i64 b1) ∧ w'.cell? ⟨(w2.heap.size + 1), 1, none⟩ = some (.int .i64 b2) ∧ w'.cell? ⟨(w2.heap.size + 1), 2, none⟩ = some (.int .i64 b3) ∧ w'.cell? ⟨(w2.heap.size + 1), 3, none⟩ = some (.string (mkS b4)) ∧ w'.cell? ⟨(w2.heap.size + 1), 4, none⟩ = some (.string (mkS b5))) ∧ Below W.heap.size W w' ∧ w2.heap.size < w'.heap.size ∧ (w2.heap.size + 1) < w'.heap.size)
        ((first | exact HS0.out | exact two_keep ‹_› ‹_› | exact two_keep ‹_› (Below.refl _ _)))
        (first
          | (go_at_call 13; refine (awake_any _ (ht.on (two_below ‹_›))).mono ?_; rintro e w3 ⟨rfl, hb3⟩)
          | (go_at_call 16; with_reducible refine (cP _ (ht.on (two_below ‹_›))).mono ?_; rintro e w4 ⟨rfl, hb4⟩)
          | (go_at_call 16; with_reducible refine (cQ _ (ht.on (two_below ‹_›))).mono ?_; rintro e w5 ⟨rfl, hb5⟩))
      all_goals
        rename_i hH
        go_wp2
        go_ret
        exact ⟨rfl, hH.2.2.1⟩

theorem versionUnlike.law (W : World) (v : Value) (l : List Int) (hv : ReadsI W W.heap.size v l) (hl : l.length ≤ maxLen) (ht : HasTab W) :
    Calls Tryd.prog 11 #[v] W fun e w' => e = .returned (.bool true) ∧ Below W.heap.size W w' := by
  unfold maxLen at hl
  have ma := gen_may l 0
  have mb := gen_may l 5
  obtain ⟨a, ha⟩ : ∃ a, genV l 0 = a := ⟨_, rfl⟩
  obtain ⟨b, hb⟩ : ∃ a, genV l 5 = a := ⟨_, rfl⟩
  rw [ha] at ma
  rw [hb] at mb
  have h4 : (4 : Int) < (mkS a.print).size := by rw [mkS_sz]; rcases text_long ma with h | h <;> omega
  have hinj : a.print = b.print → a = b := print_inj ma mb
  obtain ⟨a1, a2, a3, a4, a5⟩ := a
  obtain ⟨b1, b2, b3, b4, b5⟩ := b
  by_cases he : (Ver.mk a1 a2 a3 a4 a5).print = (Ver.mk b1 b2 b3 b4 b5).print
  · have e := hinj he
    simp only [Ver.mk.injEq] at e
    exact unlike_walk a1 a2 a3 a4 a5 b1 b2 b3 b4 b5 v l W hv hl ha hb _ _ rfl rfl true (mkS_eq he) h4 (.inl ⟨rfl, e⟩) ht
  · refine unlike_walk a1 a2 a3 a4 a5 b1 b2 b3 b4 b5 v l W hv hl ha hb _ _ rfl rfl false (mkS_ne he) h4 (.inr ⟨rfl, ?_⟩) ht
    by_cases g1 : a1 = b1
    · by_cases g2 : a2 = b2
      · by_cases g3 : a3 = b3
        · by_cases g4 : a4 = b4
          · have g5 : a5 ≠ b5 := fun g5 => he (by rw [g1, g2, g3, g4, g5])
            exact .inr (.inr (.inr (.inr ⟨by simpa using g1, by simpa using g2, by simpa using g3, mkS_eq g4, mkS_ne g5⟩)))
          · exact .inr (.inr (.inr (.inl ⟨by simpa using g1, by simpa using g2, by simpa using g3, mkS_ne g4⟩)))
        · exact .inr (.inr (.inl ⟨by simpa using g1, by simpa using g2, by simpa using g3⟩))
      · exact .inr (.inl ⟨by simpa using g1, by simpa using g2⟩)
    · exact .inl (by simpa using g1)
end Go.Proofs.YtdkdghbmeoeliaaDoor
