/-
  VersionCompares: for any two versions the law returns true, and nothing that was there is changed. Condition: the library's table of powers of ten reads as it is laid.
-/
import Derived.Test.YtdkdghbmeoeliaaDoorLaw2p
import Derived.Test.YtdkdghbmeoeliaaDoorR2Cmp
namespace Go.Proofs.YtdkdghbmeoeliaaDoor
open Go.RowKit

set_option maxHeartbeats 8000000 in
set_option maxRecDepth 100000 in
theorem compares_small (a1 a2 a3 : Int) (p q : List UInt8) (b1 b2 b3 : Int) (p' q' : List UInt8) (W : World) (h1 : p.length ≤ 300) (h2 : q.length ≤ 300) (h3 : p'.length ≤ 300) (h4 : q'.length ≤ 300) (ht : HasTab W) :
    Calls Tryd.prog 5 #[verVal a1 a2 a3 (mkS p) (mkS q), verVal b1 b2 b3 (mkS p') (mkS q')] W fun e w' => e = .returned (.bool true) ∧ Below W.heap.size W w' := by
  have cI := fun w' => vcompare_any (Ver.mk a1 a2 a3 p q) (Ver.mk b1 b2 b3 p' q') w' (by show p.length ≤ _; omega) (by show q.length ≤ _; omega) (by show p'.length ≤ _; omega) (by show q'.length ≤ _; omega)
  have cR := fun w' => rcompare_any (Ver.mk a1 a2 a3 p q) (Ver.mk b1 b2 b3 p' q') w' (by show p.length ≤ _; omega) (by show q.length ≤ _; omega) (by show p'.length ≤ _; omega) (by show q'.length ≤ _; omega)
  have cC := fun w' => core_any (Ver.mk a1 a2 a3 p q) w' (by show p.length ≤ _; omega)
  have cD := fun w' => rcore_any (Ver.mk a1 a2 a3 p q) w'
  obtain ⟨r, hr⟩ : ∃ r, cmpR (Ver.mk a1 a2 a3 p q) (Ver.mk b1 b2 b3 p' q') = r := ⟨_, rfl⟩
  rw [hr] at cI cR
  unfold coreV at cD
  unfold verV at cI cR cC cD
  dsimp only at cI cR cC cD
  have z1 : ¬ (300 : Int) < (mkS p).size := by rw [mkS_sz]; omega
  have z2 : ¬ (300 : Int) < (mkS q).size := by rw [mkS_sz]; omega
  have z3 : ¬ (300 : Int) < (mkS p').size := by rw [mkS_sz]; omega
  have z4 : ¬ (300 : Int) < (mkS q').size := by rw [mkS_sz]; omega
  unfold verVal
  clear hr
  go_enter Tryd.func5, Tryd.ntmps5
  go_wp2_with fail
  first
    | (go_region_held3 (fun w' => (w'.cell? ⟨W.heap.size, 0, none⟩ = some (.int .i64 a1) ∧ w'.cell? ⟨W.heap.size, 1, none⟩ = some (.int .i64 a2) ∧ w'.cell? ⟨W.heap.size, 2, none⟩ = some (.int .i64 a3) ∧ w'.cell? ⟨W.heap.size, 3, none⟩ = some (.string (mkS p)) ∧ w'.cell? ⟨W.heap.size, 4, none⟩ = some (.string (mkS q))) ∧ (w'.cell? ⟨(W.heap.size + 1), 0, none⟩ = some (.int .i64 b1) ∧ w'.cell? ⟨(W.heap.size + 1), 1, none⟩ = some (.int .i64 b2) ∧ w'.cell? ⟨(W.heap.size + 1), 2, none⟩ = some (.int .i64 b3) ∧ w'.cell? ⟨(W.heap.size + 1), 3, none⟩ = some (.string (mkS p')) ∧ w'.cell? ⟨(W.heap.size + 1), 4, none⟩ = some (.string (mkS q'))) ∧ Below W.heap.size W w' ∧ W.heap.size < w'.heap.size ∧ (W.heap.size + 1) < w'.heap.size)
        ((first | exact two_start W _ _ _ _ _ _ _ _ _ _ _ | exact two_keep ‹_› ‹_› | exact two_keep ‹_› (Below.refl _ _)))
        (first
          | (go_at_call 13; refine (awake_any _ (ht.on (two_below ‹_›))).mono ?_; rintro e w3 ⟨rfl, hb3⟩)
          | (go_at_call 20; with_reducible refine (cI _).mono ?_; rintro e w4 ⟨rfl, hb4⟩)
          | (go_at_call 21; with_reducible refine (cR _).mono ?_; rintro e w5 ⟨rfl, hb5⟩)
          | (go_at_call 22; with_reducible refine (cC _).mono ?_; rintro e w6 ⟨rfl, hb6⟩)
          | (go_at_call 23; with_reducible refine (cD _).mono ?_; rintro e w7 ⟨rfl, hb7⟩)))
    | fail
  all_goals
    rename_i hH
    go_wp2
    go_ret
    exact ⟨rfl, hH.2.2.1⟩

set_option maxHeartbeats 4000000 in
set_option maxRecDepth 100000 in
theorem compares_big (a1 a2 a3 : Int) (p q : ByteArray) (b1 b2 b3 : Int) (p' q' : ByteArray) (W : World) (hb : 300 < p.size ∨ (p.size ≤ 300 ∧ 300 < p'.size) ∨ (p.size ≤ 300 ∧ p'.size ≤ 300 ∧ 300 < q.size) ∨ (p.size ≤ 300 ∧ p'.size ≤ 300 ∧ q.size ≤ 300 ∧ 300 < q'.size)) (ht : HasTab W) :
    Calls Tryd.prog 5 #[verVal a1 a2 a3 p q, verVal b1 b2 b3 p' q'] W fun e w' => e = .returned (.bool true) ∧ Below W.heap.size W w' := by
  unfold verVal
  have B0 : ∀ o1 o2, Below W.heap.size W ((W.alloc o1).alloc o2) := fun o1 o2 => ((Below.refl _ _).alloc (Nat.le_refl _) _).alloc (by rw [size_box]; omega) _
  have cA := fun o1 o2 => awake_any ((W.alloc o1).alloc o2) (ht.on (B0 o1 o2))
  rcases hb with h1 | ⟨h1, h2⟩ | ⟨h1, h2, h3⟩ | ⟨h1, h2, h3, h4⟩
  · have i1 : (300 : Int) < p.size := by omega
    clear h1
    go_enter Tryd.func5, Tryd.ntmps5
    go_wp2_with (go_at_call 13; refine (cA _ _).mono ?_; rintro e w1 ⟨rfl, hb1⟩)
    go_ret
    exact ⟨rfl, (B0 _ _).trans (hb1.mono (by rw [size_box, size_box]; omega))⟩
  · have i1 : ¬ (300 : Int) < p.size := by omega
    have i2 : (300 : Int) < p'.size := by omega
    clear h1 h2
    go_enter Tryd.func5, Tryd.ntmps5
    go_wp2_with (go_at_call 13; refine (cA _ _).mono ?_; rintro e w1 ⟨rfl, hb1⟩)
    go_ret
    exact ⟨rfl, (B0 _ _).trans (hb1.mono (by rw [size_box, size_box]; omega))⟩
  · have i1 : ¬ (300 : Int) < p.size := by omega
    have i2 : ¬ (300 : Int) < p'.size := by omega
    have i3 : (300 : Int) < q.size := by omega
    clear h1 h2 h3
    go_enter Tryd.func5, Tryd.ntmps5
    go_wp2_with (go_at_call 13; refine (cA _ _).mono ?_; rintro e w1 ⟨rfl, hb1⟩)
    go_ret
    exact ⟨rfl, (B0 _ _).trans (hb1.mono (by rw [size_box, size_box]; omega))⟩
  · have i1 : ¬ (300 : Int) < p.size := by omega
    have i2 : ¬ (300 : Int) < p'.size := by omega
    have i3 : ¬ (300 : Int) < q.size := by omega
    have i4 : (300 : Int) < q'.size := by omega
    clear h1 h2 h3 h4
    go_enter Tryd.func5, Tryd.ntmps5
    go_wp2_with (go_at_call 13; refine (cA _ _).mono ?_; rintro e w1 ⟨rfl, hb1⟩)
    go_ret
    exact ⟨rfl, (B0 _ _).trans (hb1.mono (by rw [size_box, size_box]; omega))⟩

theorem versionCompares.law (W : World) (a1 a2 a3 : Int) (p q : ByteArray) (_hp : p.size ≤ maxLen) (_hq : q.size ≤ maxLen) (b1 b2 b3 : Int) (p' q' : ByteArray) (_hp' : p'.size ≤ maxLen) (_hq' : q'.size ≤ maxLen) (ht : HasTab W) :
    Calls Tryd.prog 5 #[verVal a1 a2 a3 p q, verVal b1 b2 b3 p' q'] W fun e w' => e = .returned (.bool true) ∧ Below W.heap.size W w' := by
  by_cases h1 : 300 < p.size
  · exact compares_big a1 a2 a3 p q b1 b2 b3 p' q' W (.inl h1) ht
  · by_cases h2 : 300 < p'.size
    · exact compares_big a1 a2 a3 p q b1 b2 b3 p' q' W (.inr (.inl ⟨by omega, h2⟩)) ht
    · by_cases h3 : 300 < q.size
      · exact compares_big a1 a2 a3 p q b1 b2 b3 p' q' W (.inr (.inr (.inl ⟨by omega, by omega, h3⟩))) ht
      · by_cases h4 : 300 < q'.size
        · exact compares_big a1 a2 a3 p q b1 b2 b3 p' q' W (.inr (.inr (.inr ⟨by omega, by omega, by omega, h4⟩))) ht
        · have e1 := bytes_mk p
          have e2 := bytes_mk q
          have e3 := bytes_mk p'
          have e4 := bytes_mk q'
          rw [e1, e2, e3, e4]
          exact compares_small a1 a2 a3 _ _ b1 b2 b3 _ _ W (by rw [len_data]; omega) (by rw [len_data]; omega) (by rw [len_data]; omega) (by rw [len_data]; omega) ht
end Go.Proofs.YtdkdghbmeoeliaaDoor
