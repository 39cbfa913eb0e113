/-
  Package version: Compare: the order that the document names; nothing that was there is changed. Conditions: strings of at most a million bytes.
-/
import Derived.Test.YtndjdmbbndcohaaDoorVCmp
import Derived.Deep.RegionHeld3
import Derived.Outline
namespace Go.Proofs.YtndjdmbbndcohaaDoor
open Go.RowKit

/-- Two boxes hold two versions, and nothing that was there before has changed: so it stays behind a call that changes nothing old. -/
theorem two_keep {w w' w2 : World} {A B : Nat} {v1 v2 v3 v4 v5 u1 u2 u3 u4 u5 : Value} (hS : (w'.cell? ⟨A, 0, none⟩ = some v1 ∧ w'.cell? ⟨A, 1, none⟩ = some v2 ∧ w'.cell? ⟨A, 2, none⟩ = some v3 ∧ w'.cell? ⟨A, 3, none⟩ = some v4 ∧ w'.cell? ⟨A, 4, none⟩ = some v5) ∧ (w'.cell? ⟨B, 0, none⟩ = some u1 ∧ w'.cell? ⟨B, 1, none⟩ = some u2 ∧ w'.cell? ⟨B, 2, none⟩ = some u3 ∧ w'.cell? ⟨B, 3, none⟩ = some u4 ∧ w'.cell? ⟨B, 4, none⟩ = some u5) ∧ Below w.heap.size w w' ∧ A < w'.heap.size ∧ B < w'.heap.size) (hb : Below w'.heap.size w' w2) :
    (w2.cell? ⟨A, 0, none⟩ = some v1 ∧ w2.cell? ⟨A, 1, none⟩ = some v2 ∧ w2.cell? ⟨A, 2, none⟩ = some v3 ∧ w2.cell? ⟨A, 3, none⟩ = some v4 ∧ w2.cell? ⟨A, 4, none⟩ = some v5) ∧ (w2.cell? ⟨B, 0, none⟩ = some u1 ∧ w2.cell? ⟨B, 1, none⟩ = some u2 ∧ w2.cell? ⟨B, 2, none⟩ = some u3 ∧ w2.cell? ⟨B, 3, none⟩ = some u4 ∧ w2.cell? ⟨B, 4, none⟩ = some u5) ∧ Below w.heap.size w w2 ∧ A < w2.heap.size ∧ B < w2.heap.size := by
  obtain ⟨⟨a0, a1, a2, a3, a4⟩, ⟨b0, b1, b2, b3, b4⟩, h, hA, hB⟩ := hS
  have k : ∀ C i v, C < w'.heap.size → w'.cell? ⟨C, i, none⟩ = some v → w2.cell? ⟨C, i, none⟩ = some v := fun C i v hC e => (hb.cell (p := ⟨C, i, none⟩) hC).trans e
  exact ⟨⟨k _ _ _ hA a0, k _ _ _ hA a1, k _ _ _ hA a2, k _ _ _ hA a3, k _ _ _ hA a4⟩, ⟨k _ _ _ hB b0, k _ _ _ hB b1, k _ _ _ hB b2, k _ _ _ hB b3, k _ _ _ hB b4⟩, h.trans (hb.mono h.size), Nat.lt_of_lt_of_le hA hb.size, Nat.lt_of_lt_of_le hB hb.size⟩
theorem heap_new_drew (w : World) (o : Obj) : (w.alloc o).drew.heap[w.heap.size]? = some o := heap_new w o
theorem two_start (w : World) (v1 v2 v3 v4 v5 u1 u2 u3 u4 u5 : Value) (T : TypeId) :
    (((w.alloc (.cells #[v1, v2, v3, v4, v5] T)).alloc (.cells #[u1, u2, u3, u4, u5] T)).drew.cell? ⟨w.heap.size, 0, none⟩ = some v1 ∧ ((w.alloc (.cells #[v1, v2, v3, v4, v5] T)).alloc (.cells #[u1, u2, u3, u4, u5] T)).drew.cell? ⟨w.heap.size, 1, none⟩ = some v2 ∧ ((w.alloc (.cells #[v1, v2, v3, v4, v5] T)).alloc (.cells #[u1, u2, u3, u4, u5] T)).drew.cell? ⟨w.heap.size, 2, none⟩ = some v3 ∧ ((w.alloc (.cells #[v1, v2, v3, v4, v5] T)).alloc (.cells #[u1, u2, u3, u4, u5] T)).drew.cell? ⟨w.heap.size, 3, none⟩ = some v4 ∧ ((w.alloc (.cells #[v1, v2, v3, v4, v5] T)).alloc (.cells #[u1, u2, u3, u4, u5] T)).drew.cell? ⟨w.heap.size, 4, none⟩ = some v5) ∧ (((w.alloc (.cells #[v1, v2, v3, v4, v5] T)).alloc (.cells #[u1, u2, u3, u4, u5] T)).drew.cell? ⟨(w.heap.size + 1), 0, none⟩ = some u1 ∧ ((w.alloc (.cells #[v1, v2, v3, v4, v5] T)).alloc (.cells #[u1, u2, u3, u4, u5] T)).drew.cell? ⟨(w.heap.size + 1), 1, none⟩ = some u2 ∧ ((w.alloc (.cells #[v1, v2, v3, v4, v5] T)).alloc (.cells #[u1, u2, u3, u4, u5] T)).drew.cell? ⟨(w.heap.size + 1), 2, none⟩ = some u3 ∧ ((w.alloc (.cells #[v1, v2, v3, v4, v5] T)).alloc (.cells #[u1, u2, u3, u4, u5] T)).drew.cell? ⟨(w.heap.size + 1), 3, none⟩ = some u4 ∧ ((w.alloc (.cells #[v1, v2, v3, v4, v5] T)).alloc (.cells #[u1, u2, u3, u4, u5] T)).drew.cell? ⟨(w.heap.size + 1), 4, none⟩ = some u5) ∧ Below w.heap.size w ((w.alloc (.cells #[v1, v2, v3, v4, v5] T)).alloc (.cells #[u1, u2, u3, u4, u5] T)).drew ∧ w.heap.size < ((w.alloc (.cells #[v1, v2, v3, v4, v5] T)).alloc (.cells #[u1, u2, u3, u4, u5] T)).drew.heap.size ∧ (w.heap.size + 1) < ((w.alloc (.cells #[v1, v2, v3, v4, v5] T)).alloc (.cells #[u1, u2, u3, u4, u5] T)).drew.heap.size := by
  have h0 : ((w.alloc (.cells #[v1, v2, v3, v4, v5] T)).alloc (.cells #[u1, u2, u3, u4, u5] T)).drew.heap[w.heap.size]? = some (.cells #[v1, v2, v3, v4, v5] T) := (heap_old _ _ (by rw [size_box]; omega)).trans (heap_new w _)
  have h1 : ((w.alloc (.cells #[v1, v2, v3, v4, v5] T)).alloc (.cells #[u1, u2, u3, u4, u5] T)).drew.heap[w.heap.size + 1]? = some (.cells #[u1, u2, u3, u4, u5] T) := heap_at _ _ _ (by rw [size_box])
  have k0 : ∀ i v, (#[v1, v2, v3, v4, v5] : Array Value)[i]? = some v → ((w.alloc (.cells #[v1, v2, v3, v4, v5] T)).alloc (.cells #[u1, u2, u3, u4, u5] T)).drew.cell? ⟨w.heap.size, i, none⟩ = some v := fun i v e => (cell_of_row _ _ i _ _ _ h0).trans e
  have k1 : ∀ i v, (#[u1, u2, u3, u4, u5] : Array Value)[i]? = some v → ((w.alloc (.cells #[v1, v2, v3, v4, v5] T)).alloc (.cells #[u1, u2, u3, u4, u5] T)).drew.cell? ⟨w.heap.size + 1, i, none⟩ = some v := fun i v e => (cell_of_row _ _ i _ _ _ h1).trans e
  have hs : ((w.alloc (.cells #[v1, v2, v3, v4, v5] T)).alloc (.cells #[u1, u2, u3, u4, u5] T)).drew.heap.size = w.heap.size + 2 := by show ((w.alloc _).alloc _).heap.size = _; rw [size_box, size_box]
  exact ⟨⟨k0 0 _ rfl, k0 1 _ rfl, k0 2 _ rfl, k0 3 _ rfl, k0 4 _ rfl⟩, ⟨k1 0 _ rfl, k1 1 _ rfl, k1 2 _ rfl, k1 3 _ rfl, k1 4 _ rfl⟩, below_drew (((Below.refl _ _).alloc (Nat.le_refl _) _).alloc (by rw [size_box]; omega) _), by omega, by omega⟩

set_option maxHeartbeats 4000000 in
set_option maxRecDepth 100000 in
theorem compare_same (a1 a2 a3 : Int) (p q q' : List UInt8) (w : World) (h1 : p.length ≤ 1000000) (h2 : q.length ≤ 1000000) (h4 : q'.length ≤ 1000000) (hm : (Ver.mk a1 a2 a3 p q).may = true) (hn : (Ver.mk a1 a2 a3 p q').may = true) :
    Calls Tryd.prog 6 #[verV ⟨a1, a2, a3, p, q⟩, verV ⟨a1, a2, a3, p, q'⟩] w fun e w' => e = .returned (.int .i64 0) ∧ Below w.heap.size w w' := by
  have cM := fun w' => may_any (Ver.mk a1 a2 a3 p q) w' (by show p.length < _; omega) (by show q.length < _; omega)
  have cN := fun w' => may_any (Ver.mk a1 a2 a3 p q') w' (by show p.length < _; omega) (by show q'.length < _; omega)
  have cO := fun w' => core_any (Ver.mk a1 a2 a3 p q) w' (by show p.length ≤ _; omega)
  have cP := fun w' => core_any (Ver.mk a1 a2 a3 p q') w' (by show p.length ≤ _; omega)
  rw [hm] at cM
  rw [hn] at cN
  unfold verV at cM cN cO cP ⊢
  dsimp only at cM cN cO cP ⊢
  clear hm hn
  go_enter Tryd.func6, Tryd.ntmps6
  go_wp2_with fail
  go_region_held3 (fun w' => (w'.cell? ⟨w.heap.size, 0, none⟩ = some (.int .i64 a1) ∧ w'.cell? ⟨w.heap.size, 1, none⟩ = some (.int .i64 a2) ∧ w'.cell? ⟨w.heap.size, 2, none⟩ = some (.int .i64 a3) ∧ w'.cell? ⟨w.heap.size, 3, none⟩ = some (.string (mkS p)) ∧ w'.cell? ⟨w.heap.size, 4, none⟩ = some (.string (mkS q))) ∧ (w'.cell? ⟨(w.heap.size + 1), 0, none⟩ = some (.int .i64 a1) ∧ w'.cell? ⟨(w.heap.size + 1), 1, none⟩ = some (.int .i64 a2) ∧ w'.cell? ⟨(w.heap.size + 1), 2, none⟩ = some (.int .i64 a3) ∧ w'.cell? ⟨(w.heap.size + 1), 3, none⟩ = some (.string (mkS p)) ∧ w'.cell? ⟨(w.heap.size + 1), 4, none⟩ = some (.string (mkS q'))) ∧ Below w.heap.size w w' ∧ w.heap.size < w'.heap.size ∧ (w.heap.size + 1) < w'.heap.size)
    ((first | exact two_start w _ _ _ _ _ _ _ _ _ _ _ | exact two_keep ‹_› ‹_›))
    (first
      | (go_at_call 10; with_reducible refine (cM _).mono ?_; rintro e w1 ⟨rfl, hb1⟩)
      | (go_at_call 10; with_reducible refine (cN _).mono ?_; rintro e w2 ⟨rfl, hb2⟩)
      | (go_at_call 8; with_reducible refine (cO _).mono ?_; rintro e w3 ⟨rfl, hb3⟩)
      | (go_at_call 8; with_reducible refine (cP _).mono ?_; rintro e w4 ⟨rfl, hb4⟩))
  all_goals
    go_wp2
    go_ret
    rename_i hH
    exact ⟨rfl, hH.2.2.1⟩

set_option maxHeartbeats 8000000 in
set_option maxRecDepth 100000 in
theorem compare_diff (a1 a2 a3 b1 b2 b3 : Int) (p q p' q' : List UInt8) (w : World) (h1 : p.length ≤ 1000000) (h2 : q.length ≤ 1000000) (h3 : p'.length ≤ 1000000) (h4 : q'.length ≤ 1000000) (hm : (Ver.mk a1 a2 a3 p q).may = true) (hn : (Ver.mk b1 b2 b3 p' q').may = true)
    (hd : (a1 == b1) = false ∨ ((a1 == b1) = true ∧ (a2 == b2) = false) ∨ ((a1 == b1) = true ∧ (a2 == b2) = true ∧ (a3 == b3) = false) ∨ ((a1 == b1) = true ∧ (a2 == b2) = true ∧ (a3 == b3) = true ∧ ((mkS p).toList == (mkS p').toList) = false))
    (n : Int) (hn2 : or3 (Lib.compareInt a1 b1) (Lib.compareInt a2 b2) (Lib.compareInt a3 b3) = n) :
    Calls Tryd.prog 6 #[verV ⟨a1, a2, a3, p, q⟩, verV ⟨b1, b2, b3, p', q'⟩] w fun e w' => e = .returned (.int .i64 (if n ≠ 0 then n else cpre p p')) ∧ Below w.heap.size w w' := by
  have cM := fun w' => may_any (Ver.mk a1 a2 a3 p q) w' (by show p.length < _; omega) (by show q.length < _; omega)
  have cN := fun w' => may_any (Ver.mk b1 b2 b3 p' q') w' (by show p'.length < _; omega) (by show q'.length < _; omega)
  have cO := fun w' => core_any (Ver.mk a1 a2 a3 p q) w' (by show p.length ≤ _; omega)
  have cP := fun w' => core_any (Ver.mk b1 b2 b3 p' q') w' (by show p'.length ≤ _; omega)
  have i1 := fun w' => Tryd.cmp_Compare_int a1 b1 w'
  have i2 := fun w' => Tryd.cmp_Compare_int a2 b2 w'
  have i3 := fun w' => Tryd.cmp_Compare_int a3 b3 w'
  obtain ⟨o1, ho1⟩ : ∃ o, Lib.compareInt a1 b1 = o := ⟨_, rfl⟩
  obtain ⟨o2, ho2⟩ : ∃ o, Lib.compareInt a2 b2 = o := ⟨_, rfl⟩
  obtain ⟨o3, ho3⟩ : ∃ o, Lib.compareInt a3 b3 = o := ⟨_, rfl⟩
  rw [ho1] at i1 hn2
  rw [ho2] at i2 hn2
  rw [ho3] at i3 hn2
  have cR := fun B w' h => or_any B o1 o2 o3 w' h
  rw [hn2] at cR
  rw [hm] at cM
  rw [hn] at cN
  unfold verV at cM cN cO cP ⊢
  dsimp only at cM cN cO cP ⊢
  clear hm hn ho1 ho2 ho3 hn2
  have cQ := fun w' => comparePre_any p p' w' h1 h3
  obtain ⟨x, hx⟩ : ∃ x, cpre p p' = x := ⟨_, rfl⟩
  rw [hx] at cQ ⊢
  clear hx
  rcases hd with d1 | ⟨d1, d2⟩ | ⟨d1, d2, d3⟩ | ⟨d1, d2, d3, d4⟩
  all_goals
    go_enter Tryd.func6, Tryd.ntmps6
    go_wp2_with fail
    go_region_held3 (fun w' => (w'.cell? ⟨w.heap.size, 0, none⟩ = some (.int .i64 a1) ∧ w'.cell? ⟨w.heap.size, 1, none⟩ = some (.int .i64 a2) ∧ w'.cell? ⟨w.heap.size, 2, none⟩ = some (.int .i64 a3) ∧ w'.cell? ⟨w.heap.size, 3, none⟩ = some (.string (mkS p)) ∧ w'.cell? ⟨w.heap.size, 4, none⟩ = some (.string (mkS q))) ∧ (w'.cell? ⟨(w.heap.size + 1), 0, none⟩ = some (.int .i64 b1) ∧ w'.cell? ⟨(w.heap.size + 1), 1, none⟩ = some (.int .i64 b2) ∧ w'.cell? ⟨(w.heap.size + 1), 2, none⟩ = some (.int .i64 b3) ∧ w'.cell? ⟨(w.heap.size + 1), 3, none⟩ = some (.string (mkS p')) ∧ w'.cell? ⟨(w.heap.size + 1), 4, none⟩ = some (.string (mkS q'))) ∧ Below w.heap.size w w' ∧ w.heap.size < w'.heap.size ∧ (w.heap.size + 1) < w'.heap.size)
      ((first | exact two_start w _ _ _ _ _ _ _ _ _ _ _ | exact two_keep ‹_› ‹_›))
      (first
        | (go_at_call 10; with_reducible refine (cM _).mono ?_; rintro e w1 ⟨rfl, hb1⟩)
        | (go_at_call 10; with_reducible refine (cN _).mono ?_; rintro e w2 ⟨rfl, hb2⟩)
        | (go_at_call 8; with_reducible refine (cO _).mono ?_; rintro e w3 ⟨rfl, hb3⟩)
        | (go_at_call 8; with_reducible refine (cP _).mono ?_; rintro e w4 ⟨rfl, hb4⟩))
    all_goals
      rename_i hH
      go_wp2_with fail
      go_region_held3 (fun w' => (w'.cell? ⟨w.heap.size, 0, none⟩ = some (.int .i64 a1) ∧ w'.cell? ⟨w.heap.size, 1, none⟩ = some (.int .i64 a2) ∧ w'.cell? ⟨w.heap.size, 2, none⟩ = some (.int .i64 a3) ∧ w'.cell? ⟨w.heap.size, 3, none⟩ = some (.string (mkS p)) ∧ w'.cell? ⟨w.heap.size, 4, none⟩ = some (.string (mkS q))) ∧ (w'.cell? ⟨(w.heap.size + 1), 0, none⟩ = some (.int .i64 b1) ∧ w'.cell? ⟨(w.heap.size + 1), 1, none⟩ = some (.int .i64 b2) ∧ w'.cell? ⟨(w.heap.size + 1), 2, none⟩ = some (.int .i64 b3) ∧ w'.cell? ⟨(w.heap.size + 1), 3, none⟩ = some (.string (mkS p')) ∧ w'.cell? ⟨(w.heap.size + 1), 4, none⟩ = some (.string (mkS q'))) ∧ Below w.heap.size w w' ∧ w.heap.size < w'.heap.size ∧ (w.heap.size + 1) < w'.heap.size)
        ((first | exact hH | exact two_keep hH (below_drew (Below.refl _ _)) | assumption | exact two_keep ‹_› ((Below.refl _ _).alloc (Nat.le_refl _) _)))
        (first
          | (go_at_call 12; with_reducible refine (i1 _).mono ?_; rintro e w5 ⟨rfl, rfl⟩)
          | (go_at_call 12; with_reducible refine (i2 _).mono ?_; rintro e w6 ⟨rfl, rfl⟩)
          | (go_at_call 12; with_reducible refine (i3 _).mono ?_; rintro e w7 ⟨rfl, rfl⟩)
          | (go_at_call 11; refine (cR _ _ (heap_new_drew _ _)).mono ?_; rintro e w8 ⟨rfl, rfl⟩))
      all_goals
        rename_i hK
        obtain ⟨⟨_, _, _, k4, _⟩, ⟨_, _, _, m4, _⟩, hbk, _, _⟩ := hK
        by_cases h0 : n = 0
        · subst h0
          go_wp2_with (go_at_call 13; refine (cQ _).mono ?_; rintro e w9 ⟨rfl, hb9⟩)
          go_ret
          exact ⟨rfl, hbk.trans (hb9.mono hbk.size)⟩
        · have h0b : (n == 0) = false := by simpa using h0
          go_wp2
          go_ret
          exact ⟨rfl, hbk⟩

set_option maxHeartbeats 8000000 in
set_option maxRecDepth 100000 in
theorem compare_bad (v u : Ver) (w : World) (h1 : v.pre.length ≤ 1000000) (h2 : v.build.length ≤ 1000000) (h3 : u.pre.length ≤ 1000000) (h4 : u.build.length ≤ 1000000) (hm : v.may = false ∨ (v.may = true ∧ u.may = false)) :
    Calls Tryd.prog 6 #[verV v, verV u] w fun e w' => e = .returned (.int .i64 0) ∧ Below w.heap.size w w' := by
  have cM := fun w' => may_any v w' (by omega) (by omega)
  have cN := fun w' => may_any u w' (by omega) (by omega)
  obtain ⟨a1, a2, a3, p, q⟩ := v
  obtain ⟨b1, b2, b3, p', q'⟩ := u
  unfold verV at cM cN ⊢
  dsimp only at cM cN ⊢
  rcases hm with hm | ⟨hm, hn⟩
  · rw [hm] at cM
    clear hm
    go_enter Tryd.func6, Tryd.ntmps6
    go_wp2_with fail
    go_region_with (go_at_call 10; with_reducible refine (cM _).mono ?_; rintro e w1 ⟨rfl, hb1⟩)
    all_goals
      go_wp2
      go_ret
      exact ⟨rfl, (two_keep (two_start w _ _ _ _ _ _ _ _ _ _ _) hb1).2.2.1⟩
  · rw [hm] at cM
    rw [hn] at cN
    clear hm hn
    go_enter Tryd.func6, Tryd.ntmps6
    go_wp2_with fail
    go_region_with (first
        | (go_at_call 10; with_reducible refine (cM _).mono ?_; rintro e w1 ⟨rfl, hb1⟩; obtain ⟨⟨k1, k2, k3, k4, k5⟩, ⟨m1, m2, m3, m4, m5⟩, hbk, _, _⟩ := two_keep (two_start w _ _ _ _ _ _ _ _ _ _ _) hb1)
        | (go_at_call 10; with_reducible refine (cN _).mono ?_; rintro e w2 ⟨rfl, hb2⟩))
    all_goals
      go_wp2
      go_ret
      exact ⟨rfl, hbk.trans (hb2.mono hbk.size)⟩

theorem or3_cmpN (v u : Ver) : or3 (Lib.compareInt v.maj u.maj) (Lib.compareInt v.min u.min) (Lib.compareInt v.pat u.pat) = cmpN v u := rfl
/-- Compare, for all versions. -/
theorem vcompare_any (v u : Ver) (w : World) (h1 : v.pre.length ≤ 1000000) (h2 : v.build.length ≤ 1000000) (h3 : u.pre.length ≤ 1000000) (h4 : u.build.length ≤ 1000000) :
    Calls Tryd.prog 6 #[verV v, verV u] w fun e w' => e = .returned (.int .i64 (cmpR v u)) ∧ Below w.heap.size w w' := by
  cases hm : v.may with
  | false => rw [cmpR_bad (.inl hm)]; exact compare_bad v u w h1 h2 h3 h4 (.inl hm)
  | true =>
    cases hn : u.may with
    | false => rw [cmpR_bad (.inr hn)]; exact compare_bad v u w h1 h2 h3 h4 (.inr ⟨hm, hn⟩)
    | true =>
      by_cases hc : coreV v = coreV u
      · rw [cmpR_core hc]
        obtain ⟨a1, a2, a3, p, q⟩ := v
        obtain ⟨b1, b2, b3, p', q'⟩ := u
        unfold coreV at hc
        simp only [Ver.mk.injEq, and_true] at hc
        obtain ⟨rfl, rfl, rfl, rfl⟩ := hc
        exact compare_same a1 a2 a3 p q q' w h1 h2 h4 hm hn
      · rw [cmpR_go hm hn hc]
        obtain ⟨a1, a2, a3, p, q⟩ := v
        obtain ⟨b1, b2, b3, p', q'⟩ := u
        refine compare_diff a1 a2 a3 b1 b2 b3 p q p' q' w h1 h2 h3 h4 hm hn ?_ _ (or3_cmpN ⟨a1, a2, a3, p, q⟩ ⟨b1, b2, b3, p', q'⟩)
        by_cases g1 : a1 = b1
        · by_cases g2 : a2 = b2
          · by_cases g3 : a3 = b3
            · have g4 : p ≠ p' := fun e => hc (by unfold coreV; rw [g1, g2, g3, e])
              exact .inr (.inr (.inr ⟨by simpa using g1, by simpa using g2, by simpa using g3, mkS_ne g4⟩))
            · exact .inr (.inr (.inl ⟨by simpa using g1, by simpa using g2, by simpa using g3⟩))
          · exact .inr (.inl ⟨by simpa using g1, by simpa using g2⟩)
        · exact .inl (by simpa using g1)
end Go.Proofs.YtndjdmbbndcohaaDoor
