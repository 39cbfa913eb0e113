/-
  VersionPrints: for every version the law returns true, and nothing that was there is changed. Condition: the library's table of powers of ten reads as it is laid.
-/
import Derived.Test.YtdkdghbmeoeliaaDoorLaw2r
import Derived.Test.YtdkdghbmeoeliaaDoorOpen2
namespace Go.Proofs.YtdkdghbmeoeliaaDoor
open Go.RowKit

theorem two_of {W w' : World} {A B : Nat} {v1 v2 v3 v4 v5 u1 u2 u3 u4 u5 : Value} (hA : w'.heap[A]? = some (.cells #[v1, v2, v3, v4, v5] 24)) (hB : w'.heap[B]? = some (.cells #[u1, u2, u3, u4, u5] 24)) (hb : Below W.heap.size W w') :
    (w'.drew.cell? ⟨A, 0, none⟩ = some v1 ∧ w'.drew.cell? ⟨A, 1, none⟩ = some v2 ∧ w'.drew.cell? ⟨A, 2, none⟩ = some v3 ∧ w'.drew.cell? ⟨A, 3, none⟩ = some v4 ∧ w'.drew.cell? ⟨A, 4, none⟩ = some v5) ∧ (w'.drew.cell? ⟨B, 0, none⟩ = some u1 ∧ w'.drew.cell? ⟨B, 1, none⟩ = some u2 ∧ w'.drew.cell? ⟨B, 2, none⟩ = some u3 ∧ w'.drew.cell? ⟨B, 3, none⟩ = some u4 ∧ w'.drew.cell? ⟨B, 4, none⟩ = some u5) ∧ Below W.heap.size W w'.drew ∧ A < w'.drew.heap.size ∧ B < w'.drew.heap.size :=
  ⟨cells5' (w := w'.drew) hA, cells5' (w := w'.drew) hB, below_drew hb, (Array.getElem?_eq_some_iff.1 hA).1, (Array.getElem?_eq_some_iff.1 hB).1⟩
theorem two_below {W w' : World} {A B : Nat} {v1 v2 v3 v4 v5 u1 u2 u3 u4 u5 : Value} (hS : (w'.cell? ⟨A, 0, none⟩ = some v1 ∧ w'.cell? ⟨A, 1, none⟩ = some v2 ∧ w'.cell? ⟨A, 2, none⟩ = some v3 ∧ w'.cell? ⟨A, 3, none⟩ = some v4 ∧ w'.cell? ⟨A, 4, none⟩ = some v5) ∧ (w'.cell? ⟨B, 0, none⟩ = some u1 ∧ w'.cell? ⟨B, 1, none⟩ = some u2 ∧ w'.cell? ⟨B, 2, none⟩ = some u3 ∧ w'.cell? ⟨B, 3, none⟩ = some u4 ∧ w'.cell? ⟨B, 4, none⟩ = some u5) ∧ Below W.heap.size W w' ∧ A < w'.heap.size ∧ B < w'.heap.size) : Below W.heap.size W w' := hS.2.2.1

theorem prints_start {a b c : Int} {p q : List UInt8} : verVal a b c (mkS p) (mkS q) = verV ⟨a, b, c, p, q⟩ := rfl
set_option maxHeartbeats 8000000 in
set_option maxRecDepth 100000 in
theorem prints_true (a b c : Int) (p q : List UInt8) (W : World) (hp : p.length ≤ 300) (hq : q.length ≤ 300) (hm : (Ver.mk a b c p q).may = true) (ht : HasTab W) :
    Calls Tryd.prog 4 #[verVal a b c (mkS p) (mkS q)] W fun e w' => e = .returned (.bool true) ∧ Below W.heap.size W w' := by
  have cP := fun w' h => vprint_any (Ver.mk a b c p q) w' (by show p.length ≤ _; omega) (by show q.length ≤ _; omega) h
  have cM := fun w' => may_any (Ver.mk a b c p q) w' (by show p.length < _; omega) (by show q.length < _; omega)
  have cN := fun w' => rmay_any (Ver.mk a b c p q) w' (by show p.length ≤ _; omega) (by show q.length ≤ _; omega)
  have cR := fun w' => rprint_any (Ver.mk a b c p q) w' (by show p.length ≤ _; omega) (by show q.length ≤ _; omega)
  have hpr := parseR_print hm
  have hlen : (Ver.mk a b c p q).print.length ≤ 1000000 := by
    rw [print_eq hm]
    obtain ⟨n1, n2, n3⟩ := may_nums hm
    have h := nums_len n1 n2 n3
    rw [join_digs] at h
    show (Lib.itoa a ++ 46 :: (Lib.itoa b ++ 46 :: Lib.itoa c) ++ tailS 45 p ++ tailS 43 q).length ≤ _
    dsimp only at h
    have t1 : (tailS 45 p).length ≤ p.length + 1 := by unfold tailS; split <;> simp
    have t2 : (tailS 43 q).length ≤ q.length + 1 := by unfold tailS; split <;> simp
    rw [List.length_append, List.length_append]
    omega
  have cI := fun w' h => parse_any (Ver.mk a b c p q).print w' hlen h
  have e1 : parV (Ver.mk a b c p q).print = ⟨a, b, c, p, q⟩ := by unfold parV; rw [hpr]; rfl
  have e2 : parE (Ver.mk a b c p q).print = 0 := by unfold parE; rw [hpr]; rfl
  rw [e1, e2] at cI
  rw [hm] at cM cN
  obtain ⟨P, hP⟩ : ∃ P, (Ver.mk a b c p q).print = P := ⟨_, rfl⟩
  rw [hP] at cP cR cI
  unfold verV at cP cM cN cR cI
  dsimp only at cP cM cN cR cI
  have z1 : ¬ (300 : Int) < (mkS p).size := by rw [mkS_sz]; omega
  have z2 : ¬ (300 : Int) < (mkS q).size := by rw [mkS_sz]; omega
  unfold verVal
  clear e1 e2 hP hlen hpr hm
  go_enter Tryd.func4, Tryd.ntmps4
  go_wp2_with fail
  refine (cP _ (ht.on ((Below.refl _ _).alloc (Nat.le_refl _) _))).mono ?_
  rintro e w1 ⟨rfl, hb1⟩
  have hz1 := hb1.size
  rw [size_box] at hz1
  have hg1 := (hb1.block W.heap.size (by rw [size_box]; omega)).trans (heap_new W _)
  have B1 : Below W.heap.size W w1 := ((Below.refl _ _).alloc (Nat.le_refl _) _).trans (hb1.mono (by rw [size_box]; omega))
  have HG1 := Lib.hid hg1
  clear hg1 hb1
  go_wp2_with fail
  refine (cI _ (ht.on B1)).mono ?_
  rintro e w2 ⟨rfl, hb2⟩
  have hz2 := hb2.size
  have hg2 := (heap_old w2 (.cells #[.int .i64 a, .int .i64 b, .int .i64 c, .string (mkS p), .string (mkS q)] 24) (by omega : W.heap.size < w2.heap.size)).trans ((hb2.block W.heap.size (by omega)).trans HG1.out)
  have B2 : Below W.heap.size W w2 := B1.trans (hb2.mono (by omega))
  have HS0 := Lib.hid (two_of hg2 (heap_new w2 _) (B2.alloc (by omega) _))
  clear hg2 hb2 HG1 cI cP
  go_wp2_with fail
  go_region_held3 (fun w' => (w'.cell? ⟨W.heap.size, 0, none⟩ = some (.int .i64 a) ∧ w'.cell? ⟨W.heap.size, 1, none⟩ = some (.int .i64 b) ∧ w'.cell? ⟨W.heap.size, 2, none⟩ = some (.int .i64 c) ∧ w'.cell? ⟨W.heap.size, 3, none⟩ = some (.string (mkS p)) ∧ w'.cell? ⟨W.heap.size, 4, none⟩ = some (.string (mkS q))) ∧ (w'.cell? ⟨w2.heap.size, 0, none⟩ = some (.int .i64 a) ∧ w'.cell? ⟨w2.heap.size, 1, none⟩ = some (.int .i64 b) ∧ w'.cell? ⟨w2.heap.size, 2, none⟩ = some (.int .i64 c) ∧ w'.cell? ⟨w2.heap.size, 3, none⟩ = some (.string (mkS p)) ∧ w'.cell? ⟨w2.heap.size, 4, none⟩ = some (.string (mkS q))) ∧ Below W.heap.size W w' ∧ W.heap.size < w'.heap.size ∧ w2.heap.size < w'.heap.size)
    ((first | exact HS0.out | exact two_keep ‹_› ‹_› | exact two_keep ‹_› (Below.refl _ _)))
    (first
      | (go_at_call 13; refine (awake_any _ (ht.on (two_below ‹_›))).mono ?_; rintro e w3 ⟨rfl, hb3⟩)
      | (go_at_call 17; with_reducible refine (cM _).mono ?_; rintro e w4 ⟨rfl, hb4⟩)
      | (go_at_call 18; with_reducible refine (cN _).mono ?_; rintro e w5 ⟨rfl, hb5⟩)
      | (go_at_call 19; with_reducible refine (cR _).mono ?_; rintro e w6 ⟨rfl, hb6⟩))
  all_goals
    rename_i hH
    go_wp2
    go_ret
    exact ⟨rfl, hH.2.2.1⟩

set_option maxHeartbeats 8000000 in
set_option maxRecDepth 100000 in
theorem prints_false (a b c : Int) (p q : List UInt8) (W : World) (hp : p.length ≤ 300) (hq : q.length ≤ 300) (hm : (Ver.mk a b c p q).may = false) (ht : HasTab W) :
    Calls Tryd.prog 4 #[verVal a b c (mkS p) (mkS q)] W fun e w' => e = .returned (.bool true) ∧ Below W.heap.size W w' := by
  have cP := fun w' h => vprint_any (Ver.mk a b c p q) w' (by show p.length ≤ _; omega) (by show q.length ≤ _; omega) h
  have cM := fun w' => may_any (Ver.mk a b c p q) w' (by show p.length < _; omega) (by show q.length < _; omega)
  have cN := fun w' => rmay_any (Ver.mk a b c p q) w' (by show p.length ≤ _; omega) (by show q.length ≤ _; omega)
  have cR := fun w' => rprint_any (Ver.mk a b c p q) w' (by show p.length ≤ _; omega) (by show q.length ≤ _; omega)
  have cI := fun w' h => parse_any [] w' (by decide) h
  have e0 : parseR [] = none := by decide +kernel
  have e1 : parV [] = Ver.zero := by unfold parV; rw [e0]; rfl
  have e2 : parE [] = 5 := by unfold parE; rw [e0]; rfl
  rw [e1, e2] at cI
  rw [hm] at cM cN
  rw [print_bad hm] at cP cR
  unfold verV at cP cM cN cR cI
  unfold Ver.zero at cI
  dsimp only at cP cM cN cR cI
  have z1 : ¬ (300 : Int) < (mkS p).size := by rw [mkS_sz]; omega
  have z2 : ¬ (300 : Int) < (mkS q).size := by rw [mkS_sz]; omega
  unfold verVal
  clear e0 e1 e2 hm
  go_enter Tryd.func4, Tryd.ntmps4
  go_wp2_with fail
  refine (cP _ (ht.on ((Below.refl _ _).alloc (Nat.le_refl _) _))).mono ?_
  rintro e w1 ⟨rfl, hb1⟩
  have hz1 := hb1.size
  rw [size_box] at hz1
  have hg1 := (hb1.block W.heap.size (by rw [size_box]; omega)).trans (heap_new W _)
  have B1 : Below W.heap.size W w1 := ((Below.refl _ _).alloc (Nat.le_refl _) _).trans (hb1.mono (by rw [size_box]; omega))
  have HG1 := Lib.hid hg1
  clear hg1 hb1
  go_wp2_with fail
  refine (cI _ (ht.on B1)).mono ?_
  rintro e w2 ⟨rfl, hb2⟩
  have hz2 := hb2.size
  have hg2 := (heap_old w2 (.cells #[.int .i64 0, .int .i64 0, .int .i64 0, .string (mkS []), .string (mkS [])] 24) (by omega : W.heap.size < w2.heap.size)).trans ((hb2.block W.heap.size (by omega)).trans HG1.out)
  have B2 : Below W.heap.size W w2 := B1.trans (hb2.mono (by omega))
  have hS0 := two_of hg2 (heap_new w2 _) (B2.alloc (by omega) _)
  clear hg2 hb2 HG1 cI cP
  go_wp2_with fail
  have hund : undef = Value.tuple #[] := rfl
  first
    | (go_region_with (first
      | (go_at_call 13; refine (awake_any _ (ht.on (two_below ‹_›))).mono ?_; rintro e w3 ⟨rfl, hb3⟩; have hS3 := two_keep ‹_› hb3)
      | (go_at_call 17; with_reducible refine (cM _).mono ?_; rintro e w4 ⟨rfl, hb4⟩; have hS4 := two_keep ‹_› hb4)
      | (go_at_call 18; with_reducible refine (cN _).mono ?_; rintro e w5 ⟨rfl, hb5⟩; have hS5 := two_keep ‹_› hb5)
      | (go_at_call 19; with_reducible refine (cR _).mono ?_; rintro e w6 ⟨rfl, hb6⟩; have hS6 := two_keep ‹_› hb6)))
    | fail
  all_goals
    go_wp2
    go_ret
    exact ⟨rfl, two_below ‹_›⟩
end Go.Proofs.YtdkdghbmeoeliaaDoor
