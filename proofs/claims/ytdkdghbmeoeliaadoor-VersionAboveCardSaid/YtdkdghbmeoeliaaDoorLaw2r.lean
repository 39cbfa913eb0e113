/-
  VersionReads: for every string the law returns true, and nothing that was there is changed. Condition: the library's table of powers of ten reads as it is laid.
-/
import Derived.Test.YtdkdghbmeoeliaaDoorAwake2
import Derived.Test.YtdkdghbmeoeliaaDoorR2Parse
namespace Go.Proofs.YtdkdghbmeoeliaaDoor
open Go.RowKit

theorem bytes_mk (s : ByteArray) : s = mkS s.data.toList := by unfold mkS; cases s; simp

set_option maxHeartbeats 8000000 in
set_option maxRecDepth 100000 in
theorem reads_walk (s : List UInt8) (W : World) (hs : s.length ≤ 300) (v : Ver) (n : Int) (hv : parV s = v) (hn : parE s = n) (hp : n = 0 ∧ v.print = s ∨ n = 5) (hvp : v.pre.length ≤ 1000000) (hvb : v.build.length ≤ 1000000) (ht : HasTab W) :
    Calls Tryd.prog 3 #[.string (mkS s)] W fun e w' => e = .returned (.bool true) ∧ Below W.heap.size W w' := by
  have hz : ((mkS s).size : Int) ≤ 300 := by rw [mkS_sz]; omega
  have cI := fun w' h => parse_any s w' (by omega) h
  have cR := fun w' => rparse_any s w' (by omega)
  have cA := fun w' h => awake_any w' h
  have cP := fun w' h => vprint_any v w' hvp hvb h
  rw [hv, hn] at cI cR
  obtain ⟨a, b, c, p, q⟩ := v
  unfold verV at cI cR cP
  dsimp only at cI cR cP hp
  clear hv hn
  go_enter Tryd.func3, Tryd.ntmps3
  go_wp2_with fail
  refine (cI _ ht).mono ?_
  rintro e w1 ⟨rfl, hb1⟩
  have B1 := hb1.alloc hb1.size (.cells #[.int .i64 a, .int .i64 b, .int .i64 c, .string (mkS p), .string (mkS q)] 24)
  go_wp2_with fail
  refine (cR _).mono ?_
  rintro e w2 ⟨rfl, hb2⟩
  have hz2 := hb2.size
  rw [size_box] at hz2
  have HG1 := Lib.hid ((hb2.block w1.heap.size (by rw [size_box]; omega)).trans (heap_new w1 _))
  have B2 : Below W.heap.size W w2 := B1.trans (hb2.mono (by rw [size_box]; have := hb1.size; omega))
  go_wp2_with fail
  refine (cA _ (ht.on (B2.alloc B2.size _))).mono ?_
  rintro e w3 ⟨rfl, hb3⟩
  have hz3 := hb3.size
  rw [size_box] at hz3
  have hg1 := (hb3.block w1.heap.size (by rw [size_box]; omega)).trans ((heap_old _ _ (by omega)).trans HG1.out)
  have hg2 := (hb3.block w2.heap.size (by rw [size_box]; omega)).trans (heap_new w2 _)
  have B3 : Below W.heap.size W w3 := (B2.alloc B2.size _).trans (hb3.mono (by rw [size_box]; have := B2.size; omega))
  obtain ⟨a0, a1, a2, a3, a4⟩ := cells5' hg1
  obtain ⟨b0, b1, b2, b3, b4⟩ := cells5' hg2
  clear hg1 hg2 hb1 hb2 hb3 HG1 cI cR cA
  rcases hp with ⟨rfl, hps⟩ | rfl
  · rw [hps] at cP
    clear hps
    go_wp2_with fail
    refine (cP _ (ht.on B3)).mono ?_
    rintro e w4 ⟨rfl, hb4⟩
    go_wp2
    go_ret
    exact ⟨rfl, B3.trans (hb4.mono B3.size)⟩
  · go_wp2
    go_ret
    exact ⟨rfl, B3⟩

set_option maxRecDepth 100000 in
theorem versionReads.law (W : World) (s : ByteArray) (hs : s.size ≤ maxLen) (ht : HasTab W) :
    Calls Tryd.prog 3 #[.string s] W fun e w' => e = .returned (.bool true) ∧ Below W.heap.size W w' := by
  unfold maxLen at hs
  by_cases h3 : 300 < s.size
  · have h3i : (300 : Int) < s.size := by omega
    clear h3
    go_enter Tryd.func3, Tryd.ntmps3
    go_wp2_with (go_at_call 13; refine (awake_any _ ht).mono ?_; rintro e w1 ⟨rfl, hb1⟩)
    go_ret
    exact ⟨rfl, hb1⟩
  · have hl : s.data.toList.length ≤ 300 := by rw [len_data]; omega
    rw [bytes_mk s]
    have hz : ∀ {u : Ver}, parseR s.data.toList = some u → u.pre.length ≤ 1000000 ∧ u.build.length ≤ 1000000 := by
      intro u hu
      obtain ⟨_, htx⟩ := parseR_back hu
      have h := congrArg List.length htx
      unfold Ver.text tailS at h
      simp only [List.length_append] at h
      split at h <;> split at h <;> simp_all <;> omega
    cases hr : parseR s.data.toList with
    | some u =>
      obtain ⟨hm, htx⟩ := parseR_back hr
      exact reads_walk _ W hl u 0 (by unfold parV; rw [hr]; rfl) (by unfold parE; rw [hr]; rfl) (.inl ⟨rfl, by rw [print_eq hm]; exact htx⟩) (hz hr).1 (hz hr).2 ht
    | none => exact reads_walk _ W hl Ver.zero 5 (by unfold parV; rw [hr]; rfl) (by unfold parE; rw [hr]; rfl) (.inr rfl) (by decide) (by decide) ht
end Go.Proofs.YtdkdghbmeoeliaaDoor
