/-
  What the statement's proof leans on: the ways of walking, mM mathematics, and what the program's functions return; each theorem says on what conditions.
-/
import Derived.Deep.RegionHeld3
import Derived.Outline
import Derived.Test.YtkljdpiaghepfaaGreatDoorMC4
set_option maxRecDepth 1000000
set_option maxHeartbeats 8000000
set_option linter.unusedVariables false
set_option linter.unusedSimpArgs false
set_option linter.unnecessarySimpa false
namespace Go.Proofs.YtkljdpiaghepfaaGreatDoor
open Go.RowKit

section
theorem bump_core (v : Ver) (k : Int) : y7 (yI v k) = yI v k := by
  by_cases h : yB v k = true
  · obtain ⟨a, b, c, e⟩ := bump_rel h
    rw [e]; rfl
  · unfold yI
    rw [if_neg h]; rfl
theorem tM (v : Ver) (k : Int) : (yI v k).short := by
  by_cases h : yB v k = true
  · obtain ⟨a, b, c, e⟩ := bump_rel h
    rw [e]; exact ⟨Nat.zero_le _, Nat.zero_le _⟩
  · unfold yI
    rw [if_neg h]; exact ⟨Nat.zero_le _, Nat.zero_le _⟩
def jI (v : Ver) (z : Int) : Cu := if z < 0 then zX 1 else kI v z.toNat
theorem highZ_hit {v : Ver} {z : Int} (h0 : 0 ≤ z) (h : yB v z = true) : jI v z = ⟨0, yI v z, false⟩ := by
  unfold jI
  rw [if_neg (by omega)]
  obtain ⟨k, rfl⟩ : ∃ k : Nat, z = k := ⟨z.toNat, by omega⟩
  rw [Int.toNat_natCast]
  cases k with
  | zero => unfold kI; exact if_pos h
  | succ k => unfold kI; rw [if_pos h]
theorem highZ_next {v : Ver} {z : Int} (h0 : 0 ≤ z) (h : yB v z = false) : jI v z = jI v (z - 1) := by
  unfold jI
  rw [if_neg (by omega)]
  obtain ⟨k, rfl⟩ : ∃ k : Nat, z = k := ⟨z.toNat, by omega⟩
  rw [Int.toNat_natCast]
  cases k with
  | zero => unfold kI; rw [if_neg (by rw [show ((0 : Nat) : Int) = 0 from rfl] at h; rw [h]; decide), if_pos (by decide)]
  | succ k =>
    unfold kI
    rw [if_neg (by rw [h]; decide), if_neg (by omega)]
    rw [show (((k + 1 : Nat) : Int) - 1).toNat = k from by omega]
    cases k <;> rfl
theorem nG (c : Co) (W : World) (hc : c.short) : Calls Tryz.prog 79 #[coV c] W fun e w' => e = .returned (.bool c.may) ∧ Below W.heap.size W w' := by
  refine Z2 (n := 80) Tryz.func79 rfl (ZO (Zb (coV c) (fun b1 => Zv Z5 (ZN (z7 (ZO (Zv (Zp b1 0) (Zl 0 ⟨b1, (coV c).cells, 51⟩ (off := 0) (.int .i64 c.op) ?_))))))))
  by_cases h1 : (c.op : Int) < 1
  · refine Zg h1 (Zv Z4 (Zk (Zk (Zk (Zv Z4 (Zv Z4 (Zk (Zk (Zk (Zk (Zv Z4 ?_)))))))))))
    refine Zv Z4 (Zk (Zk (Zk (Zk (Zv Z4 (ZY (ZO (Zv Z5 ?_))))))))
    exact ZN (zB (z6 (ZF Z5 Tryz.results79 (fun w hO => ⟨by rw [show c.may = false from Bool.eq_false_iff.2 fun q0 => by have q1 := Co.may_iff.1 q0; grind], hO.below⟩))))
  refine Zh h1 (Zv Z5 (Zv (Zp b1 0) (Zl 0 ⟨b1, (coV c).cells, 51⟩ (off := 0) (.int .i64 c.op) ?_)))
  by_cases h2 : (9 : Int) < c.op
  · refine Zg h2 (Zv Z4 (Zv Z4 (Zk (Zk (Zk (Zk (Zv Z4 (Zv Z4 (Zk (Zk (Zk ?_)))))))))))
    refine Zk (Zv Z4 (ZY (ZO (Zv Z5 (ZN (zB (z6 ?_)))))))
    exact ZF Z5 Tryz.results79 (fun w hO => ⟨by rw [show c.may = false from Bool.eq_false_iff.2 fun q0 => by have q1 := Co.may_iff.1 q0; grind], hO.below⟩)
  refine Zh h2 (Zv Z5 (Zv Z5 (Zv (Zp b1 2) (Zl 0 ⟨b1, (coV c).cells, 51⟩ (off := 2) (.agg (ZP c.v)) (Zc (k := 56) (args := #[.agg (ZP c.v)]) (.bool c.v.may) (fun w _ => vF c.v w hc.1 hc.2) ?_)))))
  cases h3 : c.v.may with
  | true =>
    refine Zv Z5 (Zv Z5 (Zv Z5 (Zv (Zp b1 2) (Zv (Zp b1 6) (Zl 0 ⟨b1, (coV c).cells, 51⟩ (off := 6) (.string (mkS c.v.build)) ?_)))))
    by_cases h4 : (c.v.build : List UInt8) = []
    · refine zU Z5 (by kernel_rfl) (yV (a := c.v.build) (b := ([])) rfl (by kernel_rfl) (by kernel_rfl) (decide_eq_true (h4))) (Zv Z5 (ZX (ZB (ZO (Zv (.int .i64 1) (Zv (.int .i64 3) (zP ?_)))))))
      refine z8 (z7 (ZO (Zv (Zp b1 0) (Zl 0 ⟨b1, (coV c).cells, 51⟩ (off := 0) (.int .i64 c.op) ?_))))
      by_cases h5 : (c.op : Int) = 9
      · refine Zg h5 (ZN (j6 (fun L f => ∃ (lo : Int) (hi : Int) (j : Nat → Value), ((c.op = 9 → lo = 0 ∧ hi = 2) ∧ (¬ c.op = 9 → lo = 1 ∧ hi = 3)) ∧ L = [⟨b1, (coV c).cells, 51⟩] ∧ f = xF j [(1, Zp b1 0), (3, .int .i64 lo), (4, .int .i64 hi)]) ?_ ?_))
        · exact Zt (zA (Zv (.int .i64 0) (Zv (.int .i64 2) (zP (yQ ⟨0, 2, _, ⟨by omega, by omega⟩, rfl, ZU⟩)))))
        · rintro L f ⟨lo, hi, j, hj3, rfl, rfl⟩
          refine z8 (z7 (z7 (j6 (fun L f => ∃ (bad : Bool) (j : Nat → Value), ((bad = true → ¬ (lo ≤ c.parts ∧ c.parts ≤ hi ∧ (3 ≤ c.parts ∨ c.v.pre = []))) ∧ (bad = false → lo ≤ c.parts ∧ c.parts ≤ hi ∧ (3 ≤ c.parts ∨ c.v.pre = []))) ∧ L = [⟨b1, (coV c).cells, 51⟩] ∧ f = xF j [(1, Zp b1 0), (48, .bool bad)]) ?_ ?_)))
          · refine zA (Zv (Zp b1 1) (Zl 0 ⟨b1, (coV c).cells, 51⟩ (off := 1) (.int .i64 c.parts) (Zv (.int .i64 lo) ?_)))
            by_cases h6 : (c.parts : Int) < lo
            · refine Zg h6 (Zv Z4 (Zk (Zk (Zk (Zk (Zv Z4 (Zv Z4 (Zk (Zk (Zk (Zk ?_)))))))))))
              exact Zk (Zk (Zk (Zk (Zk (Zv Z4 (zP (yQ ⟨true, _, ⟨fun q0 => by grind, fun q0 => absurd q0 (by decide)⟩, rfl, ZU⟩)))))))
            refine Zh h6 (Zv Z5 (Zv (Zp b1 1) (Zl 0 ⟨b1, (coV c).cells, 51⟩ (off := 1) (.int .i64 c.parts) (Zv (.int .i64 hi) ?_))))
            by_cases h7 : (hi : Int) < c.parts
            · refine Zg h7 (Zv Z4 (Zv Z4 (Zk (Zk (Zk (Zk (Zk (Zk (Zk (Zk (Zk ?_)))))))))))
              exact Zv Z4 (zP (yQ ⟨true, _, ⟨fun q0 => by grind, fun q0 => absurd q0 (by decide)⟩, rfl, ZU⟩))
            refine Zh h7 (Zv Z5 (Zv Z5 (Zv (Zp b1 1) (Zl 0 ⟨b1, (coV c).cells, 51⟩ (off := 1) (.int .i64 c.parts) ?_))))
            by_cases h8 : (c.parts : Int) < 3
            · refine Zg h8 (Zv Z4 (Zv (Zp b1 2) (Zv (Zp b1 5) (Zl 0 ⟨b1, (coV c).cells, 51⟩ (off := 5) (.string (mkS c.v.pre)) ?_))))
              by_cases h9 : (c.v.pre : List UInt8) = []
              · exact zU Z5 (by kernel_rfl) (yV (a := c.v.pre) (b := ([])) rfl (by kernel_rfl) (by kernel_rfl) (decide_eq_true (h9))) (Zv Z5 (Zv Z5 (zP (yQ ⟨false, _, ⟨fun q0 => absurd q0 (by decide), fun q0 => ⟨by omega, by omega, by first | exact .inr (by assumption) | exact .inl (by omega)⟩⟩, rfl, ZU⟩))))
              exact zU Z4 (by kernel_rfl) (yV (a := c.v.pre) (b := ([])) rfl (by kernel_rfl) (by kernel_rfl) (decide_eq_false (h9))) (Zv Z4 (Zv Z4 (zP (yQ ⟨true, _, ⟨fun q0 => by grind, fun q0 => absurd q0 (by decide)⟩, rfl, ZU⟩))))
            exact Zh h8 (Zv Z5 (Zk (Zk (Zk (Zk (Zv Z5 (Zv Z5 (zP (yQ ⟨false, _, ⟨fun q0 => absurd q0 (by decide), fun q0 => ⟨by omega, by omega, by first | exact .inr (by assumption) | exact .inl (by omega)⟩⟩, rfl, ZU⟩)))))))))
          · rintro L f ⟨bad, j, hj2, rfl, rfl⟩
            refine z8 ?_
            cases h10 : bad with
            | true =>
              exact Zt (ZO (Zv Z5 (ZN (zB (z6 (ZF Z5 Tryz.results79 (fun w hO => ⟨by rw [show c.may = false from Bool.eq_false_iff.2 fun q0 => by have q1 := Co.may_iff.1 q0; grind], hO.below⟩)))))))
            | false =>
              refine Zf (ZB (ZO (Zv (Zp b1 1) (Zl 0 ⟨b1, (coV c).cells, 51⟩ (off := 1) (.int .i64 c.parts) ?_))))
              by_cases h11 : (0 : Int) < c.parts
              · refine Zg h11 (Zv Z4 (Zk (Zk (Zk (Zk (Zv Z4 (Zv Z4 (Zv (Zp b1 1) (Zl 0 ⟨b1, (coV c).cells, 51⟩ (off := 1) (.int .i64 c.parts) ?_)))))))))
                by_cases h12 : (1 : Int) < c.parts
                · refine Zg h12 (Zv Z4 (Zk (Zk (Zk (Zk (Zv Z4 (Zv Z4 (Zv Z4 (Zv (Zp b1 1) (Zl 0 ⟨b1, (coV c).cells, 51⟩ (off := 1) (.int .i64 c.parts) ?_))))))))))
                  by_cases h13 : (2 : Int) < c.parts
                  · refine Zg h13 (Zv Z4 (Zk (Zk (Zk (Zk (Zv Z4 (Zv Z4 (Zv Z4 (ZN (zB ?_))))))))))
                    exact ZF Z4 Tryz.results79 (fun w hO => ⟨by rw [Co.may_iff.2 ⟨by omega, by assumption, by assumption, by grind, by grind, by grind, by omega, by omega, by omega⟩], hO.below⟩)
                  refine Zh h13 (Zv Z5 (Zv (Zp b1 2) (Zv (Zp b1 4) (Zl 0 ⟨b1, (coV c).cells, 51⟩ (off := 4) (.int .i64 c.v.pat) ?_))))
                  by_cases h14 : (c.v.pat : Int) = 0
                  · exact Zg h14 (Zv Z4 (Zv Z4 (Zv Z4 (ZN (zB (ZF Z4 Tryz.results79 (fun w hO => ⟨by rw [Co.may_iff.2 ⟨by omega, by assumption, by assumption, by grind, by grind, by grind, by omega, by omega, by omega⟩], hO.below⟩)))))))
                  exact Zh h14 (Zv Z5 (Zv Z5 (Zv Z5 (ZN (zB (ZF Z5 Tryz.results79 (fun w hO => ⟨by rw [show c.may = false from Bool.eq_false_iff.2 fun q0 => by have q1 := Co.may_iff.1 q0; grind], hO.below⟩)))))))
                refine Zh h12 (Zv Z5 (Zv (Zp b1 2) (Zv (Zp b1 3) (Zl 0 ⟨b1, (coV c).cells, 51⟩ (off := 3) (.int .i64 c.v.min) ?_))))
                by_cases h15 : (c.v.min : Int) = 0
                · refine Zg h15 (Zv Z4 (Zv Z4 (Zv Z4 (Zv (Zp b1 1) (Zl 0 ⟨b1, (coV c).cells, 51⟩ (off := 1) (.int .i64 c.parts) ?_)))))
                  by_cases h16 : (2 : Int) < c.parts
                  · refine Zg h16 (Zv Z4 (Zk (Zk (Zk (Zk (Zv Z4 (Zv Z4 (Zv Z4 (ZN (zB ?_))))))))))
                    exact ZF Z4 Tryz.results79 (fun w hO => ⟨by rw [Co.may_iff.2 ⟨by omega, by assumption, by assumption, by grind, by grind, by grind, by omega, by omega, by omega⟩], hO.below⟩)
                  refine Zh h16 (Zv Z5 (Zv (Zp b1 2) (Zv (Zp b1 4) (Zl 0 ⟨b1, (coV c).cells, 51⟩ (off := 4) (.int .i64 c.v.pat) ?_))))
                  by_cases h17 : (c.v.pat : Int) = 0
                  · exact Zg h17 (Zv Z4 (Zv Z4 (Zv Z4 (ZN (zB (ZF Z4 Tryz.results79 (fun w hO => ⟨by rw [Co.may_iff.2 ⟨by omega, by assumption, by assumption, by grind, by grind, by grind, by omega, by omega, by omega⟩], hO.below⟩)))))))
                  exact Zh h17 (Zv Z5 (Zv Z5 (Zv Z5 (ZN (zB (ZF Z5 Tryz.results79 (fun w hO => ⟨by rw [show c.may = false from Bool.eq_false_iff.2 fun q0 => by have q1 := Co.may_iff.1 q0; grind], hO.below⟩)))))))
                refine Zh h15 (Zv Z5 (Zv Z5 (Zv Z5 (Zk (Zk (Zk (Zk (Zk (Zk (Zk (Zk ?_)))))))))))
                exact Zk (Zv Z5 (Zv Z5 (ZN (zB (ZF Z5 Tryz.results79 (fun w hO => ⟨by rw [show c.may = false from Bool.eq_false_iff.2 fun q0 => by have q1 := Co.may_iff.1 q0; grind], hO.below⟩))))))
              refine Zh h11 (Zv Z5 (Zv (Zp b1 2) (Zv (Zp b1 2) (Zl 0 ⟨b1, (coV c).cells, 51⟩ (off := 2) (.int .i64 c.v.maj) ?_))))
              by_cases h18 : (c.v.maj : Int) = 0
              · refine Zg h18 (Zv Z4 (Zv Z4 (Zv (Zp b1 1) (Zl 0 ⟨b1, (coV c).cells, 51⟩ (off := 1) (.int .i64 c.parts) ?_))))
                by_cases h19 : (1 : Int) < c.parts
                · refine Zg h19 (Zv Z4 (Zk (Zk (Zk (Zk (Zv Z4 (Zv Z4 (Zv Z4 (Zv (Zp b1 1) (Zl 0 ⟨b1, (coV c).cells, 51⟩ (off := 1) (.int .i64 c.parts) ?_))))))))))
                  by_cases h20 : (2 : Int) < c.parts
                  · refine Zg h20 (Zv Z4 (Zk (Zk (Zk (Zk (Zv Z4 (Zv Z4 (Zv Z4 (ZN (zB ?_))))))))))
                    exact ZF Z4 Tryz.results79 (fun w hO => ⟨by rw [Co.may_iff.2 ⟨by omega, by assumption, by assumption, by grind, by grind, by grind, by omega, by omega, by omega⟩], hO.below⟩)
                  refine Zh h20 (Zv Z5 (Zv (Zp b1 2) (Zv (Zp b1 4) (Zl 0 ⟨b1, (coV c).cells, 51⟩ (off := 4) (.int .i64 c.v.pat) ?_))))
                  by_cases h21 : (c.v.pat : Int) = 0
                  · exact Zg h21 (Zv Z4 (Zv Z4 (Zv Z4 (ZN (zB (ZF Z4 Tryz.results79 (fun w hO => ⟨by rw [Co.may_iff.2 ⟨by omega, by assumption, by assumption, by grind, by grind, by grind, by omega, by omega, by omega⟩], hO.below⟩)))))))
                  exact Zh h21 (Zv Z5 (Zv Z5 (Zv Z5 (ZN (zB (ZF Z5 Tryz.results79 (fun w hO => ⟨by rw [show c.may = false from Bool.eq_false_iff.2 fun q0 => by have q1 := Co.may_iff.1 q0; grind], hO.below⟩)))))))
                refine Zh h19 (Zv Z5 (Zv (Zp b1 2) (Zv (Zp b1 3) (Zl 0 ⟨b1, (coV c).cells, 51⟩ (off := 3) (.int .i64 c.v.min) ?_))))
                by_cases h22 : (c.v.min : Int) = 0
                · refine Zg h22 (Zv Z4 (Zv Z4 (Zv Z4 (Zv (Zp b1 1) (Zl 0 ⟨b1, (coV c).cells, 51⟩ (off := 1) (.int .i64 c.parts) ?_)))))
                  by_cases h23 : (2 : Int) < c.parts
                  · refine Zg h23 (Zv Z4 (Zk (Zk (Zk (Zk (Zv Z4 (Zv Z4 (Zv Z4 (ZN (zB ?_))))))))))
                    exact ZF Z4 Tryz.results79 (fun w hO => ⟨by rw [Co.may_iff.2 ⟨by omega, by assumption, by assumption, by grind, by grind, by grind, by omega, by omega, by omega⟩], hO.below⟩)
                  refine Zh h23 (Zv Z5 (Zv (Zp b1 2) (Zv (Zp b1 4) (Zl 0 ⟨b1, (coV c).cells, 51⟩ (off := 4) (.int .i64 c.v.pat) ?_))))
                  by_cases h24 : (c.v.pat : Int) = 0
                  · exact Zg h24 (Zv Z4 (Zv Z4 (Zv Z4 (ZN (zB (ZF Z4 Tryz.results79 (fun w hO => ⟨by rw [Co.may_iff.2 ⟨by omega, by assumption, by assumption, by grind, by grind, by grind, by omega, by omega, by omega⟩], hO.below⟩)))))))
                  exact Zh h24 (Zv Z5 (Zv Z5 (Zv Z5 (ZN (zB (ZF Z5 Tryz.results79 (fun w hO => ⟨by rw [show c.may = false from Bool.eq_false_iff.2 fun q0 => by have q1 := Co.may_iff.1 q0; grind], hO.below⟩)))))))
                refine Zh h22 (Zv Z5 (Zv Z5 (Zv Z5 (Zk (Zk (Zk (Zk (Zk (Zk (Zk (Zk ?_)))))))))))
                exact Zk (Zv Z5 (Zv Z5 (ZN (zB (ZF Z5 Tryz.results79 (fun w hO => ⟨by rw [show c.may = false from Bool.eq_false_iff.2 fun q0 => by have q1 := Co.may_iff.1 q0; grind], hO.below⟩))))))
              refine Zh h18 (Zv Z5 (Zv Z5 (Zk (Zk (Zk (Zk (Zk (Zk (Zk (Zk (Zk ?_)))))))))))
              refine Zv Z5 (Zv Z5 (Zk (Zk (Zk (Zk (Zk (Zk (Zk (Zk (Zk (Zv Z5 ?_)))))))))))
              exact Zv Z5 (ZN (zB (ZF Z5 Tryz.results79 (fun w hO => ⟨by rw [show c.may = false from Bool.eq_false_iff.2 fun q0 => by have q1 := Co.may_iff.1 q0; grind], hO.below⟩))))
      refine Zh h5 (ZN (j6 (fun L f => ∃ (lo : Int) (hi : Int) (j : Nat → Value), ((c.op = 9 → lo = 0 ∧ hi = 2) ∧ (¬ c.op = 9 → lo = 1 ∧ hi = 3)) ∧ L = [⟨b1, (coV c).cells, 51⟩] ∧ f = xF j [(1, Zp b1 0), (3, .int .i64 lo), (4, .int .i64 hi)]) ?_ ?_))
      · exact Zf (yC (yQ ⟨1, 3, _, ⟨by omega, by omega⟩, rfl, ZU⟩))
      · rintro L f ⟨lo, hi, j, hj3, rfl, rfl⟩
        refine z8 (z7 (z7 (j6 (fun L f => ∃ (bad : Bool) (j : Nat → Value), ((bad = true → ¬ (lo ≤ c.parts ∧ c.parts ≤ hi ∧ (3 ≤ c.parts ∨ c.v.pre = []))) ∧ (bad = false → lo ≤ c.parts ∧ c.parts ≤ hi ∧ (3 ≤ c.parts ∨ c.v.pre = []))) ∧ L = [⟨b1, (coV c).cells, 51⟩] ∧ f = xF j [(1, Zp b1 0), (48, .bool bad)]) ?_ ?_)))
        · refine zA (Zv (Zp b1 1) (Zl 0 ⟨b1, (coV c).cells, 51⟩ (off := 1) (.int .i64 c.parts) (Zv (.int .i64 lo) ?_)))
          by_cases h25 : (c.parts : Int) < lo
          · refine Zg h25 (Zv Z4 (Zk (Zk (Zk (Zk (Zv Z4 (Zv Z4 (Zk (Zk (Zk (Zk ?_)))))))))))
            exact Zk (Zk (Zk (Zk (Zk (Zv Z4 (zP (yQ ⟨true, _, ⟨fun q0 => by grind, fun q0 => absurd q0 (by decide)⟩, rfl, ZU⟩)))))))
          refine Zh h25 (Zv Z5 (Zv (Zp b1 1) (Zl 0 ⟨b1, (coV c).cells, 51⟩ (off := 1) (.int .i64 c.parts) (Zv (.int .i64 hi) ?_))))
          by_cases h26 : (hi : Int) < c.parts
          · refine Zg h26 (Zv Z4 (Zv Z4 (Zk (Zk (Zk (Zk (Zk (Zk (Zk (Zk (Zk ?_)))))))))))
            exact Zv Z4 (zP (yQ ⟨true, _, ⟨fun q0 => by grind, fun q0 => absurd q0 (by decide)⟩, rfl, ZU⟩))
          refine Zh h26 (Zv Z5 (Zv Z5 (Zv (Zp b1 1) (Zl 0 ⟨b1, (coV c).cells, 51⟩ (off := 1) (.int .i64 c.parts) ?_))))
          by_cases h27 : (c.parts : Int) < 3
          · refine Zg h27 (Zv Z4 (Zv (Zp b1 2) (Zv (Zp b1 5) (Zl 0 ⟨b1, (coV c).cells, 51⟩ (off := 5) (.string (mkS c.v.pre)) ?_))))
            by_cases h28 : (c.v.pre : List UInt8) = []
            · exact zU Z5 (by kernel_rfl) (yV (a := c.v.pre) (b := ([])) rfl (by kernel_rfl) (by kernel_rfl) (decide_eq_true (h28))) (Zv Z5 (Zv Z5 (zP (yQ ⟨false, _, ⟨fun q0 => absurd q0 (by decide), fun q0 => ⟨by omega, by omega, by first | exact .inr (by assumption) | exact .inl (by omega)⟩⟩, rfl, ZU⟩))))
            exact zU Z4 (by kernel_rfl) (yV (a := c.v.pre) (b := ([])) rfl (by kernel_rfl) (by kernel_rfl) (decide_eq_false (h28))) (Zv Z4 (Zv Z4 (zP (yQ ⟨true, _, ⟨fun q0 => by grind, fun q0 => absurd q0 (by decide)⟩, rfl, ZU⟩))))
          exact Zh h27 (Zv Z5 (Zk (Zk (Zk (Zk (Zv Z5 (Zv Z5 (zP (yQ ⟨false, _, ⟨fun q0 => absurd q0 (by decide), fun q0 => ⟨by omega, by omega, by first | exact .inr (by assumption) | exact .inl (by omega)⟩⟩, rfl, ZU⟩)))))))))
        · rintro L f ⟨bad, j, hj2, rfl, rfl⟩
          refine z8 ?_
          cases h29 : bad with
          | true =>
            exact Zt (ZO (Zv Z5 (ZN (zB (z6 (ZF Z5 Tryz.results79 (fun w hO => ⟨by rw [show c.may = false from Bool.eq_false_iff.2 fun q0 => by have q1 := Co.may_iff.1 q0; grind], hO.below⟩)))))))
          | false =>
            refine Zf (ZB (ZO (Zv (Zp b1 1) (Zl 0 ⟨b1, (coV c).cells, 51⟩ (off := 1) (.int .i64 c.parts) ?_))))
            by_cases h30 : (0 : Int) < c.parts
            · refine Zg h30 (Zv Z4 (Zk (Zk (Zk (Zk (Zv Z4 (Zv Z4 (Zv (Zp b1 1) (Zl 0 ⟨b1, (coV c).cells, 51⟩ (off := 1) (.int .i64 c.parts) ?_)))))))))
              by_cases h31 : (1 : Int) < c.parts
              · refine Zg h31 (Zv Z4 (Zk (Zk (Zk (Zk (Zv Z4 (Zv Z4 (Zv Z4 (Zv (Zp b1 1) (Zl 0 ⟨b1, (coV c).cells, 51⟩ (off := 1) (.int .i64 c.parts) ?_))))))))))
                by_cases h32 : (2 : Int) < c.parts
                · refine Zg h32 (Zv Z4 (Zk (Zk (Zk (Zk (Zv Z4 (Zv Z4 (Zv Z4 (ZN (zB ?_))))))))))
                  exact ZF Z4 Tryz.results79 (fun w hO => ⟨by rw [Co.may_iff.2 ⟨by omega, by assumption, by assumption, by grind, by grind, by grind, by omega, by omega, by omega⟩], hO.below⟩)
                refine Zh h32 (Zv Z5 (Zv (Zp b1 2) (Zv (Zp b1 4) (Zl 0 ⟨b1, (coV c).cells, 51⟩ (off := 4) (.int .i64 c.v.pat) ?_))))
                by_cases h33 : (c.v.pat : Int) = 0
                · exact Zg h33 (Zv Z4 (Zv Z4 (Zv Z4 (ZN (zB (ZF Z4 Tryz.results79 (fun w hO => ⟨by rw [Co.may_iff.2 ⟨by omega, by assumption, by assumption, by grind, by grind, by grind, by omega, by omega, by omega⟩], hO.below⟩)))))))
                exact Zh h33 (Zv Z5 (Zv Z5 (Zv Z5 (ZN (zB (ZF Z5 Tryz.results79 (fun w hO => ⟨by rw [show c.may = false from Bool.eq_false_iff.2 fun q0 => by have q1 := Co.may_iff.1 q0; grind], hO.below⟩)))))))
              refine Zh h31 (Zv Z5 (Zv (Zp b1 2) (Zv (Zp b1 3) (Zl 0 ⟨b1, (coV c).cells, 51⟩ (off := 3) (.int .i64 c.v.min) ?_))))
              by_cases h34 : (c.v.min : Int) = 0
              · refine Zg h34 (Zv Z4 (Zv Z4 (Zv Z4 (Zv (Zp b1 1) (Zl 0 ⟨b1, (coV c).cells, 51⟩ (off := 1) (.int .i64 c.parts) ?_)))))
                by_cases h35 : (2 : Int) < c.parts
                · refine Zg h35 (Zv Z4 (Zk (Zk (Zk (Zk (Zv Z4 (Zv Z4 (Zv Z4 (ZN (zB ?_))))))))))
                  exact ZF Z4 Tryz.results79 (fun w hO => ⟨by rw [Co.may_iff.2 ⟨by omega, by assumption, by assumption, by grind, by grind, by grind, by omega, by omega, by omega⟩], hO.below⟩)
                refine Zh h35 (Zv Z5 (Zv (Zp b1 2) (Zv (Zp b1 4) (Zl 0 ⟨b1, (coV c).cells, 51⟩ (off := 4) (.int .i64 c.v.pat) ?_))))
                by_cases h36 : (c.v.pat : Int) = 0
                · exact Zg h36 (Zv Z4 (Zv Z4 (Zv Z4 (ZN (zB (ZF Z4 Tryz.results79 (fun w hO => ⟨by rw [Co.may_iff.2 ⟨by omega, by assumption, by assumption, by grind, by grind, by grind, by omega, by omega, by omega⟩], hO.below⟩)))))))
                exact Zh h36 (Zv Z5 (Zv Z5 (Zv Z5 (ZN (zB (ZF Z5 Tryz.results79 (fun w hO => ⟨by rw [show c.may = false from Bool.eq_false_iff.2 fun q0 => by have q1 := Co.may_iff.1 q0; grind], hO.below⟩)))))))
              refine Zh h34 (Zv Z5 (Zv Z5 (Zv Z5 (Zk (Zk (Zk (Zk (Zk (Zk (Zk (Zk ?_)))))))))))
              exact Zk (Zv Z5 (Zv Z5 (ZN (zB (ZF Z5 Tryz.results79 (fun w hO => ⟨by rw [show c.may = false from Bool.eq_false_iff.2 fun q0 => by have q1 := Co.may_iff.1 q0; grind], hO.below⟩))))))
            refine Zh h30 (Zv Z5 (Zv (Zp b1 2) (Zv (Zp b1 2) (Zl 0 ⟨b1, (coV c).cells, 51⟩ (off := 2) (.int .i64 c.v.maj) ?_))))
            by_cases h37 : (c.v.maj : Int) = 0
            · refine Zg h37 (Zv Z4 (Zv Z4 (Zv (Zp b1 1) (Zl 0 ⟨b1, (coV c).cells, 51⟩ (off := 1) (.int .i64 c.parts) ?_))))
              by_cases h38 : (1 : Int) < c.parts
              · refine Zg h38 (Zv Z4 (Zk (Zk (Zk (Zk (Zv Z4 (Zv Z4 (Zv Z4 (Zv (Zp b1 1) (Zl 0 ⟨b1, (coV c).cells, 51⟩ (off := 1) (.int .i64 c.parts) ?_))))))))))
                by_cases h39 : (2 : Int) < c.parts
                · refine Zg h39 (Zv Z4 (Zk (Zk (Zk (Zk (Zv Z4 (Zv Z4 (Zv Z4 (ZN (zB ?_))))))))))
                  exact ZF Z4 Tryz.results79 (fun w hO => ⟨by rw [Co.may_iff.2 ⟨by omega, by assumption, by assumption, by grind, by grind, by grind, by omega, by omega, by omega⟩], hO.below⟩)
                refine Zh h39 (Zv Z5 (Zv (Zp b1 2) (Zv (Zp b1 4) (Zl 0 ⟨b1, (coV c).cells, 51⟩ (off := 4) (.int .i64 c.v.pat) ?_))))
                by_cases h40 : (c.v.pat : Int) = 0
                · exact Zg h40 (Zv Z4 (Zv Z4 (Zv Z4 (ZN (zB (ZF Z4 Tryz.results79 (fun w hO => ⟨by rw [Co.may_iff.2 ⟨by omega, by assumption, by assumption, by grind, by grind, by grind, by omega, by omega, by omega⟩], hO.below⟩)))))))
                exact Zh h40 (Zv Z5 (Zv Z5 (Zv Z5 (ZN (zB (ZF Z5 Tryz.results79 (fun w hO => ⟨by rw [show c.may = false from Bool.eq_false_iff.2 fun q0 => by have q1 := Co.may_iff.1 q0; grind], hO.below⟩)))))))
              refine Zh h38 (Zv Z5 (Zv (Zp b1 2) (Zv (Zp b1 3) (Zl 0 ⟨b1, (coV c).cells, 51⟩ (off := 3) (.int .i64 c.v.min) ?_))))
              by_cases h41 : (c.v.min : Int) = 0
              · refine Zg h41 (Zv Z4 (Zv Z4 (Zv Z4 (Zv (Zp b1 1) (Zl 0 ⟨b1, (coV c).cells, 51⟩ (off := 1) (.int .i64 c.parts) ?_)))))
                by_cases h42 : (2 : Int) < c.parts
                · refine Zg h42 (Zv Z4 (Zk (Zk (Zk (Zk (Zv Z4 (Zv Z4 (Zv Z4 (ZN (zB ?_))))))))))
                  exact ZF Z4 Tryz.results79 (fun w hO => ⟨by rw [Co.may_iff.2 ⟨by omega, by assumption, by assumption, by grind, by grind, by grind, by omega, by omega, by omega⟩], hO.below⟩)
                refine Zh h42 (Zv Z5 (Zv (Zp b1 2) (Zv (Zp b1 4) (Zl 0 ⟨b1, (coV c).cells, 51⟩ (off := 4) (.int .i64 c.v.pat) ?_))))
                by_cases h43 : (c.v.pat : Int) = 0
                · exact Zg h43 (Zv Z4 (Zv Z4 (Zv Z4 (ZN (zB (ZF Z4 Tryz.results79 (fun w hO => ⟨by rw [Co.may_iff.2 ⟨by omega, by assumption, by assumption, by grind, by grind, by grind, by omega, by omega, by omega⟩], hO.below⟩)))))))
                exact Zh h43 (Zv Z5 (Zv Z5 (Zv Z5 (ZN (zB (ZF Z5 Tryz.results79 (fun w hO => ⟨by rw [show c.may = false from Bool.eq_false_iff.2 fun q0 => by have q1 := Co.may_iff.1 q0; grind], hO.below⟩)))))))
              refine Zh h41 (Zv Z5 (Zv Z5 (Zv Z5 (Zk (Zk (Zk (Zk (Zk (Zk (Zk (Zk ?_)))))))))))
              exact Zk (Zv Z5 (Zv Z5 (ZN (zB (ZF Z5 Tryz.results79 (fun w hO => ⟨by rw [show c.may = false from Bool.eq_false_iff.2 fun q0 => by have q1 := Co.may_iff.1 q0; grind], hO.below⟩))))))
            refine Zh h37 (Zv Z5 (Zv Z5 (Zk (Zk (Zk (Zk (Zk (Zk (Zk (Zk (Zk ?_)))))))))))
            refine Zv Z5 (Zv Z5 (Zk (Zk (Zk (Zk (Zk (Zk (Zk (Zk (Zk (Zv Z5 ?_)))))))))))
            exact Zv Z5 (ZN (zB (ZF Z5 Tryz.results79 (fun w hO => ⟨by rw [show c.may = false from Bool.eq_false_iff.2 fun q0 => by have q1 := Co.may_iff.1 q0; grind], hO.below⟩))))
    refine zU Z4 (by kernel_rfl) (yV (a := c.v.build) (b := ([])) rfl (by kernel_rfl) (by kernel_rfl) (decide_eq_false (h4))) (Zv Z4 (ZY (ZO (Zv Z5 (ZN (zB (z6 ?_)))))))
    exact ZF Z5 Tryz.results79 (fun w hO => ⟨by rw [show c.may = false from Bool.eq_false_iff.2 fun q0 => by have q1 := Co.may_iff.1 q0; grind], hO.below⟩)
  | false =>
    refine Zv Z4 (Zv Z4 (Zv Z4 (Zk (Zk (Zk (Zk (Zv Z4 (ZY (z7 ?_)))))))))
    exact zA (Zv Z5 (ZN (zB (z6 (ZF Z5 Tryz.results79 (fun w hO => ⟨by rw [show c.may = false from Bool.eq_false_iff.2 fun q0 => by have q1 := Co.may_iff.1 q0; grind], hO.below⟩))))))
theorem qZ (op : Int) (W : World) : Calls Tryz.prog 123 #[.int .i64 op] W fun e w' => e = .returned (.string (mkS (zO op))) ∧ Below W.heap.size W w' := by
  refine Z2 (n := 20) Tryz.func123 rfl (ZO (Zv (.string ⟨#[]⟩) (ZN (z7 (ZO (Zv (.int .i64 op) (zP (z8 ?_))))))))
  refine zL (z7 (zA ?_))
  by_cases h1 : (op : Int) = 1
  · refine Zg h1 (Zv Z4 (ZY (ZO (Zv (.string ⟨#[61]⟩) (ZN (zB (zF ?_)))))))
    exact z6 (ZF (.string ⟨#[61]⟩) Tryz.results123 (fun w hO => ⟨by unfold zO; simp [h1]; rfl, hO.below⟩))
  refine Zh h1 (Zv Z5 (ZX (z7 (zA ?_))))
  by_cases h2 : (op : Int) = 2
  · refine Zg h2 (Zv Z4 (ZY (ZO (Zv (.string ⟨#[33, 61]⟩) (ZN (zB (zF ?_)))))))
    exact z6 (ZF (.string ⟨#[33, 61]⟩) Tryz.results123 (fun w hO => ⟨by unfold zO; simp [h1, h2]; rfl, hO.below⟩))
  refine Zh h2 (Zv Z5 (ZX (z7 (zA ?_))))
  by_cases h3 : (op : Int) = 3
  · refine Zg h3 (Zv Z4 (ZY (ZO (Zv (.string ⟨#[60]⟩) (ZN (zB (zF ?_)))))))
    exact z6 (ZF (.string ⟨#[60]⟩) Tryz.results123 (fun w hO => ⟨by unfold zO; simp [h1, h2, h3]; rfl, hO.below⟩))
  refine Zh h3 (Zv Z5 (ZX (z7 (zA ?_))))
  by_cases h4 : (op : Int) = 4
  · refine Zg h4 (Zv Z4 (ZY (ZO (Zv (.string ⟨#[60, 61]⟩) (ZN (zB (zF ?_)))))))
    exact z6 (ZF (.string ⟨#[60, 61]⟩) Tryz.results123 (fun w hO => ⟨by unfold zO; simp [h1, h2, h3, h4]; rfl, hO.below⟩))
  refine Zh h4 (Zv Z5 (ZX (z7 (zA ?_))))
  by_cases h5 : (op : Int) = 5
  · refine Zg h5 (Zv Z4 (ZY (ZO (Zv (.string ⟨#[62]⟩) (ZN (zB (zF ?_)))))))
    exact z6 (ZF (.string ⟨#[62]⟩) Tryz.results123 (fun w hO => ⟨by unfold zO; simp [h1, h2, h3, h4, h5]; rfl, hO.below⟩))
  refine Zh h5 (Zv Z5 (ZX (z7 (zA ?_))))
  by_cases h6 : (op : Int) = 6
  · refine Zg h6 (Zv Z4 (ZY (ZO (Zv (.string ⟨#[62, 61]⟩) (ZN (zB (zF ?_)))))))
    exact z6 (ZF (.string ⟨#[62, 61]⟩) Tryz.results123 (fun w hO => ⟨by unfold zO; simp [h1, h2, h3, h4, h5, h6]; rfl, hO.below⟩))
  refine Zh h6 (Zv Z5 (ZX (z7 (zA ?_))))
  by_cases h7 : (op : Int) = 7
  · refine Zg h7 (Zv Z4 (ZY (ZO (Zv (.string ⟨#[94]⟩) (ZN (zB (zF ?_)))))))
    exact z6 (ZF (.string ⟨#[94]⟩) Tryz.results123 (fun w hO => ⟨by unfold zO; simp [h1, h2, h3, h4, h5, h6, h7]; rfl, hO.below⟩))
  refine Zh h7 (Zv Z5 (ZX (z7 (zA ?_))))
  by_cases h8 : (op : Int) = 8
  · refine Zg h8 (Zv Z4 (ZY (ZO (Zv (.string ⟨#[126]⟩) (ZN (zB (zF ?_)))))))
    exact z6 (ZF (.string ⟨#[126]⟩) Tryz.results123 (fun w hO => ⟨by unfold zO; simp [h1, h2, h3, h4, h5, h6, h7, h8]; rfl, hO.below⟩))
  refine Zh h8 (Zv Z5 (ZX (yC (zQ (z8 (ZO (Zv (.string ⟨#[]⟩) (zP ?_))))))))
  exact z8 (zB (ZF (.string ⟨#[]⟩) Tryz.results123 (fun w hO => ⟨by unfold zO; simp [h1, h2, h3, h4, h5, h6, h7, h8]; rfl, hO.below⟩)))
theorem qD (s t : List UInt8) (W : World) : Calls Tryz.prog 124 #[.string (mkS s), .string (mkS t)] W fun e w' => e = .returned (.bool (zY s t)) ∧ Below W.heap.size W w' := by
  have hs := yY s
  have ht := yY t
  refine Z2 (n := 18) Tryz.func124 rfl (ZO (Zv Z5 (ZR (Zv (.string (mkS s)) (Zv (.int .i64 ((mkS s).size)) (Zv (.string (mkS t)) (Zv (.int .i64 ((mkS t).size)) ?_)))))))
  by_cases h1 : ((mkS t).size : Int) ≤ (mkS s).size
  · refine Zg h1 (Zv Z4 (Zv (.string (mkS s)) (Zv (.string (mkS t)) (Zv (.int .i64 ((mkS t).size)) (zU (.string (mkS (s.take (mkS t).size))) (by kernel_rfl) (nC (s := s) (k := .i64) (j := ((mkS t).size : Int)) rfl (by kernel_rfl) (by kernel_rfl) Tryz.underlying9 (by omega) (by omega)) (Zv (.string (mkS t)) ?_))))))
    by_cases h2 : ((s.take (mkS t).size) : List UInt8) = t
    · exact zU Z4 (by kernel_rfl) (yM (a := (s.take (mkS t).size)) (b := t) rfl (by kernel_rfl) (by kernel_rfl) (decide_eq_true (h2))) (Zv Z4 (Zv Z4 (ZN (zB (ZF Z4 Tryz.results124 (fun w hO => ⟨by rw [show zY s t = true from decide_eq_true (by rw [← ht]; assumption)], hO.below⟩))))))
    exact zU Z5 (by kernel_rfl) (yM (a := (s.take (mkS t).size)) (b := t) rfl (by kernel_rfl) (by kernel_rfl) (decide_eq_false (h2))) (Zv Z5 (Zv Z5 (ZN (zB (ZF Z5 Tryz.results124 (fun w hO => ⟨by rw [show zY s t = false from decide_eq_false (by rw [← ht]; assumption)], hO.below⟩))))))
  refine Zh h1 (Zv Z5 (Zk (Zk (Zk (Zk (Zk (Zk (Zv Z5 (Zv Z5 (zP (z8 ?_)))))))))))
  exact zB (ZF Z5 Tryz.results124 (fun w hO => ⟨by rw [show zY s t = false from decide_eq_false fun q0 => by have q1 := congrArg List.length q0; rw [List.length_take] at q1; omega], hO.below⟩))
theorem fQ (v : Ver) (z0 : Int) (k : Nat) (W : World) (hv : v.short) (hz : z0 = k) (hk : k < 3) : Calls Tryz.prog 146 #[y8 v, .int .i64 z0] W fun e w' => e = .returned (zC (kI v k)) ∧ Below W.heap.size W w' := by
  have hk0 : kI v k = jI v z0 := by unfold jI; rw [hz, if_neg (by omega), Int.toNat_natCast]
  refine Z2 (n := 21) Tryz.func146 rfl (ZO (Zb (y8 v) (fun b1 => Za (.agg ZE) (fun b2 => ZN (z7 (zL (yL (fun L f m => ∃ (z : Int) (j : Nat → Value), (-1 ≤ z ∧ z ≤ 2 ∧ kI v k = jI v z) ∧ L = [⟨b2, ZE, 78⟩, ⟨b1, (y8 v).cells, 44⟩] ∧ f = xF j [(1, .int .i64 z), (2, Zp b1 0), (4, Zp b2 0)] ∧ m = (z + 1).toNat) ((z0 + 1).toNat) ⟨z0, _, ⟨by omega, by omega, hk0⟩, rfl, ZU, rfl⟩ ?_)))))))
  rintro L f m ⟨z, j, hrel, rfl, rfl, rfl⟩
  refine z7 (ZO (Zv (.int .i64 z) ?_))
  by_cases h1 : (0 : Int) ≤ z
  · refine Zg h1 (ZY (ZB (z7 (zL (ZO (Zl 1 ⟨b1, (y8 v).cells, 44⟩ (off := 0) (y8 v) (Zv (.int .i64 z) ?_)))))))
    refine Zc (k := 186) (args := #[y8 v, .int .i64 z]) (.tuple #[y8 (yI v z), .bool (yB v z)]) (fun w _ => rbump_any v z w hv.1 hv.2) (Zv (.tuple #[y8 (yI v z), .bool (yB v z)]) (Zv (y8 (yI v z)) (Zv (.bool (yB v z)) (Za (.agg Z1) (fun b3 => Zs 0 ⟨b3, Z1, 44⟩ (off := 0) (y8 (yI v z)) (Zv (.bool (yB v z)) (ZR (Zv (.bool (yB v z)) ?_))))))))
    refine zP (z8 ?_)
    cases h2 : yB v z with
    | true =>
      refine Zt (ZO (Zl 0 ⟨b3, (y8 (yI v z)).cells, 44⟩ (off := 0) (y8 (yI v z)) (Zc (k := 142) (args := #[y8 (yI v z)]) (zC ⟨0, y7 (yI v z), false⟩) (fun w _ => vU (yI v z) w (tM v z)) (Zs 1 ⟨b2, ZE, 78⟩ (off := 0) (zC ⟨0, y7 (yI v z), false⟩) (ZN (zB (zF (z6 (zW ?_)))))))))
      exact zF (z6 (ZC 1 ⟨b2, (zC ⟨0, y7 (yI v z), false⟩).cells, 78⟩ (off := 0) (zC ⟨0, y7 (yI v z), false⟩) Tryz.results146 (fun w hO => ⟨by rw [hrel.2.2, highZ_hit (by omega) (by assumption)]; rw [bump_core], hO.below⟩)))
    | false =>
      exact Zf (yC (zQ (z8 (zA (Zv (.int .i64 z) (Zu (k := .i64) ((z : Int) - 1) (IntWalk.i64_in _ (by omega)) (Zv (.int .i64 ((z : Int) - 1)) (zP (xM (fun w hO => Own.sub [_] hO) (zT (m' := (z - 1 + 1).toNat) (by omega) ⟨z - 1, _, ⟨by omega, by omega, by rw [hrel.2.2, highZ_next (by omega) (by assumption)]⟩, rfl, ZU, rfl⟩))))))))))
  refine Zh h1 (ZX (y5 (zD (zN (zH (z8 (ZO (Zc (k := 148) (args := #[]) (zC (zX 1)) (fun w _ => uS w) ?_))))))))
  exact Zs 0 ⟨b2, ZE, 78⟩ (off := 0) (zC (zX 1)) (ZN (zB (ZC 0 ⟨b2, (zC (zX 1)).cells, 78⟩ (off := 0) (zC (zX 1)) Tryz.results146 (fun w hO => ⟨by rw [hrel.2.2]; unfold jI; rw [if_pos (by omega)], hO.below⟩))))
theorem rcturns_any (c : Co) (W : World) (hc : c.short) : Calls Tryz.prog 149 #[coV c] W fun e w' => e = .returned (.int .i64 ((gI c : Nat) : Int)) ∧ Below W.heap.size W w' := by
  refine Z2 (n := 21) Tryz.func149 rfl (ZO (Zb (coV c) (fun b1 => Zv (.int .i64 0) (ZN (z7 (ZO (Zv (Zp b1 2) (Zv (Zp b1 2) ?_))))))))
  refine Zl 0 ⟨b1, (coV c).cells, 51⟩ (off := 2) (.int .i64 c.v.maj) ?_
  by_cases h1 : (0 : Int) < c.v.maj
  · refine Zg h1 (Zv Z4 (Zk (Zk (Zk (Zv Z4 (ZY (ZO (Zv (.int .i64 0) ?_))))))))
    exact ZN (zB (z6 (ZF (.int .i64 0) Tryz.results149 (fun w hO => ⟨by rw [show gI c = 0 from by unfold gI; grind]; rfl, hO.below⟩))))
  refine Zh h1 (Zv Z5 (Zv (Zp b1 1) (Zl 0 ⟨b1, (coV c).cells, 51⟩ (off := 1) (.int .i64 c.parts) ?_)))
  by_cases h2 : (c.parts : Int) = 1
  · refine Zg h2 (Zv Z4 (ZY (ZO (Zv (.int .i64 0) (ZN (zB (z6 ?_)))))))
    exact ZF (.int .i64 0) Tryz.results149 (fun w hO => ⟨by rw [show gI c = 0 from by unfold gI; grind]; rfl, hO.below⟩)
  refine Zh h2 (Zv Z5 (ZX (ZB (z7 (ZO (Zv (Zp b1 2) (Zv (Zp b1 3) ?_)))))))
  refine Zl 0 ⟨b1, (coV c).cells, 51⟩ (off := 3) (.int .i64 c.v.min) ?_
  by_cases h3 : (0 : Int) < c.v.min
  · refine Zg h3 (Zv Z4 (Zk (Zk (Zk (Zv Z4 (ZY (ZO (Zv (.int .i64 1) ?_))))))))
    exact ZN (zB (z6 (ZF (.int .i64 1) Tryz.results149 (fun w hO => ⟨by rw [show gI c = 1 from by unfold gI; grind]; rfl, hO.below⟩))))
  refine Zh h3 (Zv Z5 (Zv (Zp b1 1) (Zl 0 ⟨b1, (coV c).cells, 51⟩ (off := 1) (.int .i64 c.parts) ?_)))
  by_cases h4 : (c.parts : Int) = 2
  · refine Zg h4 (Zv Z4 (ZY (ZO (Zv (.int .i64 1) (ZN (zB (z6 ?_)))))))
    exact ZF (.int .i64 1) Tryz.results149 (fun w hO => ⟨by rw [show gI c = 1 from by unfold gI; grind]; rfl, hO.below⟩)
  refine Zh h4 (Zv Z5 (ZX (ZB (ZO (Zv (.int .i64 2) (zP (z8 ?_)))))))
  exact zB (ZF (.int .i64 2) Tryz.results149 (fun w hO => ⟨by rw [show gI c = 2 from by unfold gI; grind]; rfl, hO.below⟩))
theorem rcspan_any (c : Co) (W : World) (hc : c.short) (hm : c.may = true) : Calls Tryz.prog 93 #[coV c] W fun e w' => e = .returned (.tuple #[zC c.span.1, zC c.span.2]) ∧ Below W.heap.size W w' := by
  obtain ⟨ho, _, _, h9, hn, _⟩ := Co.facts hm
  refine Z2 (n := 77) Tryz.func93 rfl (ZO (Zb (coV c) (fun b1 => Za (.agg ZE) (fun b2 => Za (.agg ZE) (fun b3 => ZN (z7 (j6 (fun L f => ∃ (p4 : Nat) (j : Nat → Value), L = [⟨p4, (zC c.low).cells, 78⟩, ⟨b3, ZE, 78⟩, ⟨b2, ZE, 78⟩, ⟨b1, (coV c).cells, 51⟩] ∧ f = xF j [(1, Zp b1 0), (2, Zp b2 0), (3, Zp b3 0), (4, Zp p4 0), (5, .int .i64 ((c.parts : Int) - 1))]) ?_ ?_)))))))
  · refine uF (by kernel_rfl) (ZT 0 [] _ (Zp b1 2) yJ rfl (ZL 1 [] _ 2 ⟨b1, (coV c).cells, 51⟩ (off := 2) (.agg (ZP c.v)) yJ rfl rfl (ZT 3 [] _ (Zp b1 1) yJ rfl (ZL 4 [] _ 2 ⟨b1, (coV c).cells, 51⟩ (off := 1) (.int .i64 c.parts) yJ rfl rfl (hl_sum (k := .i64) 5 _ ((c.parts : Int) - 1) rfl (by kernel_rfl) (by kernel_rfl) (by kernel_rfl) yJ (fun w hO => Own.sub [] hO) (by kernel_rfl) (fun _ => by kernel_rfl) (IntWalk.i64_in _ (by omega)) (wS 2 6 (by kernel_rfl) ?_ ?_))))))
    · exact Zx [] _ (k := 142) (args := #[.agg (ZP c.v)]) (zC c.low) rfl (fun w _ => vU c.v w hc) (Zz 6 (Zy [] _ (.agg ZE) rfl rfl (fun b4 => Zz 7 (ZS [⟨b4, ZE, 78⟩] _ 0 ⟨b4, ZE, 78⟩ (off := 0) (zC c.low) rfl rfl (ZT 8 [⟨b4, (zC c.low).cells, 78⟩] _ (.int .i64 ((c.parts : Int) - 1)) yJ rfl (ZZ (yQ ⟨b4, _, rfl, ZU⟩)))))))
    exact Zy [] _ (.agg ZE) rfl rfl (fun b4 => Zz 2 (Zx [⟨b4, ZE, 78⟩] _ (k := 142) (args := #[.agg (ZP c.v)]) (zC c.low) rfl (fun w _ => vU c.v w hc) (Zz 7 (ZS [⟨b4, ZE, 78⟩] _ 0 ⟨b4, ZE, 78⟩ (off := 0) (zC c.low) rfl rfl (ZT 8 [⟨b4, (zC c.low).cells, 78⟩] _ (.int .i64 ((c.parts : Int) - 1)) yJ rfl (ZZ (yQ ⟨b4, _, rfl, ZU⟩)))))))
  · rintro L f ⟨p4, j, rfl, rfl⟩
    refine z8 (ZO (Zv (Zp b1 2) (Zl 3 ⟨b1, (coV c).cells, 51⟩ (off := 2) (.agg (ZP c.v)) (Zc (k := 145) (args := #[.agg (ZP c.v)]) (zC ⟨0, y7 c.v, true⟩) (fun w _ => rbehindC_any c.v w hc) (Za (.agg ZE) (fun b5 => Zs 0 ⟨b5, ZE, 78⟩ (off := 0) (zC ⟨0, y7 c.v, true⟩) (gJ (L' := [⟨b3, ZE, 78⟩, ⟨b2, ZE, 78⟩, ⟨b5, (zC ⟨0, y7 c.v, true⟩).cells, 78⟩, ⟨p4, (zC c.low).cells, 78⟩, ⟨b1, (coV c).cells, 51⟩]) (fun w hO => hO.perm ((List.perm_append_comm (l₁ := [_, _]) (l₂ := [_, _])).append_right [_])) (ZN (z7 ?_)))))))))
    refine z7 (j6 (fun L f => ∃ (j : Nat → Value), L = [⟨b3, ZE, 78⟩, ⟨b2, ZE, 78⟩, ⟨b5, (zC ⟨0, y7 c.v, true⟩).cells, 78⟩, ⟨p4, (zC c.low).cells, 78⟩, ⟨b1, (coV c).cells, 51⟩] ∧ f = xF j [(1, Zp b1 0), (2, Zp b2 0), (3, Zp b3 0), (4, Zp p4 0), (5, .int .i64 ((c.parts : Int) - 1)), (6, Zp b5 0), (23, .bool (decide (c.parts < 3 ∧ 0 < c.parts)))]) ?_ ?_)
    · refine zA (Zv (Zp b1 1) (Zl 4 ⟨b1, (coV c).cells, 51⟩ (off := 1) (.int .i64 c.parts) ?_))
      by_cases h1 : (c.parts : Int) < 3
      · refine Zg h1 (Zv Z4 (Zv (Zp b1 1) (Zl 4 ⟨b1, (coV c).cells, 51⟩ (off := 1) (.int .i64 c.parts) ?_)))
        by_cases h2 : (0 : Int) < c.parts
        · exact Zg h2 (Zv Z4 (zP (yQ ⟨_, rfl, by rw [decide_eq_true (show (c.parts < 3 ∧ 0 < c.parts) by omega)]; exact ZU⟩)))
        exact Zh h2 (Zv Z5 (zP (yQ ⟨_, rfl, by rw [decide_eq_false (show ¬ (c.parts < 3 ∧ 0 < c.parts) by omega)]; exact ZU⟩)))
      exact Zh h1 (Zv Z5 (Zk (Zk (Zk (Zv Z5 (zP (yQ ⟨_, rfl, by rw [decide_eq_false (show ¬ (c.parts < 3 ∧ 0 < c.parts) by omega)]; exact ZU⟩)))))))
    · rintro L f ⟨j, rfl, rfl⟩
      refine z8 (j6 (fun L f => ∃ (j : Nat → Value), L = [⟨b3, ZE, 78⟩, ⟨b2, ZE, 78⟩, ⟨b5, (zC c.aft).cells, 78⟩, ⟨p4, (zC c.low).cells, 78⟩, ⟨b1, (coV c).cells, 51⟩] ∧ f = xF j [(1, Zp b1 0), (2, Zp b2 0), (3, Zp b3 0), (4, Zp p4 0), (5, .int .i64 ((c.parts : Int) - 1)), (6, Zp b5 0)]) ?_ ?_)
      · cases h3 : decide (c.parts < 3 ∧ 0 < c.parts) with
        | true =>
          have hpp := of_decide_eq_true h3
          exact Zt (zA (Zv (Zp b1 2) (Zl 4 ⟨b1, (coV c).cells, 51⟩ (off := 2) (.agg (ZP c.v)) (Zv (.int .i64 ((c.parts : Int) - 1)) (Zc (k := 146) (args := #[.agg (ZP c.v), .int .i64 ((c.parts : Int) - 1)]) (zC (kI c.v (c.parts - 1).toNat)) (fun w _ => fQ c.v ((c.parts : Int) - 1) (c.parts - 1).toNat w hc (by omega) (by omega)) (Zs 2 ⟨b5, (zC ⟨0, y7 c.v, true⟩).cells, 78⟩ (off := 0) (zC (kI c.v (c.parts - 1).toNat)) (zP (yQ ⟨_, by rw [show c.aft = _ from if_pos (hpp)]; kernel_rfl, ZU⟩))))))))
        | false =>
          have hpp := of_decide_eq_false h3
          exact Zf (yC (yQ ⟨_, by rw [show c.aft = _ from if_neg (hpp)], ZU⟩))
      · rintro L f ⟨j, rfl, rfl⟩
        refine z8 (z7 (ZO (Zv (Zp b1 0) (Zl 4 ⟨b1, (coV c).cells, 51⟩ (off := 0) (.int .i64 c.op) (ZN (zL (z7 (z7 (zA ?_)))))))))
        by_cases h4 : (c.op : Int) = 1
        · refine Zg h4 (Zv Z4 (ZY (ZB (Zt (z7 (xO ([⟨b5, (zC c.aft).cells, 78⟩, ⟨p4, (zC c.low).cells, 78⟩, ⟨b1, (coV c).cells, 51⟩]) (by kernel_rfl) (fun w hO => Own.sub [⟨b3, ZE, 78⟩, ⟨b2, ZE, 78⟩] hO) (ZL 0 [⟨b3, ZE, 78⟩, ⟨b2, ZE, 78⟩] _ 1 ⟨p4, (zC c.low).cells, 78⟩ (off := 0) (zC c.low) (zG (zJ (zG zI))) rfl rfl (ZL 1 [⟨b3, ZE, 78⟩, ⟨b2, ZE, 78⟩] _ 0 ⟨b5, (zC c.aft).cells, 78⟩ (off := 0) (zC c.aft) (zG (zJ (zG zI))) rfl rfl ?_))))))))
          exact Zz 2 (ZS [⟨b3, ZE, 78⟩, ⟨b2, ZE, 78⟩] _ 1 ⟨b2, ZE, 78⟩ (off := 0) (zC c.low) rfl rfl (Zz 3 (ZS [⟨b3, ZE, 78⟩, ⟨b2, (zC c.low).cells, 78⟩] _ 0 ⟨b3, ZE, 78⟩ (off := 0) (zC c.aft) rfl rfl (ZZ (z8 (zB (zF (z6 (ZH 1 0 ⟨b2, (zC c.low).cells, 78⟩ ⟨b3, (zC c.aft).cells, 78⟩ (off := 0) (oft := 0) (zC c.low) (zC c.aft) Tryz.results93 (fun w hO => ⟨by rw [show c.span = (c.low, c.aft) from by unfold Co.span; simp [h4]], hO.below⟩))))))))))
        refine Zh h4 (Zv Z5 (ZX (zA ?_)))
        by_cases h5 : (c.op : Int) = 2
        · refine Zg h5 (Zv Z4 (ZY (z7 (xO ([⟨b5, (zC c.aft).cells, 78⟩, ⟨p4, (zC c.low).cells, 78⟩, ⟨b1, (coV c).cells, 51⟩]) (by kernel_rfl) (fun w hO => Own.sub [⟨b3, ZE, 78⟩, ⟨b2, ZE, 78⟩] hO) (ZL 0 [⟨b3, ZE, 78⟩, ⟨b2, ZE, 78⟩] _ 1 ⟨p4, (zC c.low).cells, 78⟩ (off := 0) (zC c.low) (zG (zJ (zG zI))) rfl rfl (ZL 1 [⟨b3, ZE, 78⟩, ⟨b2, ZE, 78⟩] _ 0 ⟨b5, (zC c.aft).cells, 78⟩ (off := 0) (zC c.aft) (zG (zJ (zG zI))) rfl rfl (Zz 2 (ZS [⟨b3, ZE, 78⟩, ⟨b2, ZE, 78⟩] _ 1 ⟨b2, ZE, 78⟩ (off := 0) (zC c.low) rfl rfl (Zz 3 ?_)))))))))
          exact ZS [⟨b3, ZE, 78⟩, ⟨b2, (zC c.low).cells, 78⟩] _ 0 ⟨b3, ZE, 78⟩ (off := 0) (zC c.aft) rfl rfl (ZZ (z8 (zB (zF (z6 (ZH 1 0 ⟨b2, (zC c.low).cells, 78⟩ ⟨b3, (zC c.aft).cells, 78⟩ (off := 0) (oft := 0) (zC c.low) (zC c.aft) Tryz.results93 (fun w hO => ⟨by rw [show c.span = (c.low, c.aft) from by unfold Co.span; simp [h4, h5]], hO.below⟩)))))))
        refine Zh h5 (Zv Z5 (ZX (z7 (zA ?_))))
        by_cases h6 : (c.op : Int) = 3
        · refine Zg h6 (Zv Z4 (ZY (z7 (xO ([⟨b5, (zC c.aft).cells, 78⟩, ⟨p4, (zC c.low).cells, 78⟩, ⟨b1, (coV c).cells, 51⟩]) (by kernel_rfl) (fun w hO => Own.sub [⟨b3, ZE, 78⟩, ⟨b2, ZE, 78⟩] hO) (ZL 1 [⟨b3, ZE, 78⟩, ⟨b2, ZE, 78⟩] _ 1 ⟨p4, (zC c.low).cells, 78⟩ (off := 0) (zC c.low) (zG (zJ (zG zI))) rfl rfl (Zz 0 (Zx [⟨b3, ZE, 78⟩, ⟨b2, ZE, 78⟩] _ (k := 147) (args := #[]) (zC (zX (-1))) rfl (fun w _ => uT w) (Zz 2 (ZS [⟨b3, ZE, 78⟩, ⟨b2, ZE, 78⟩] _ 1 ⟨b2, ZE, 78⟩ (off := 0) (zC (zX (-1))) rfl rfl ?_)))))))))
          exact Zz 3 (ZS [⟨b3, ZE, 78⟩, ⟨b2, (zC (zX (-1))).cells, 78⟩] _ 0 ⟨b3, ZE, 78⟩ (off := 0) (zC c.low) rfl rfl (ZZ (z8 (zB (zF (z6 (ZH 1 0 ⟨b2, (zC (zX (-1))).cells, 78⟩ ⟨b3, (zC c.low).cells, 78⟩ (off := 0) (oft := 0) (zC (zX (-1))) (zC c.low) Tryz.results93 (fun w hO => ⟨by rw [show c.span = ((zX (-1)), c.low) from by unfold Co.span; simp [h4, h5, h6]], hO.below⟩))))))))
        refine Zh h6 (Zv Z5 (ZX (z7 (zA ?_))))
        by_cases h7 : (c.op : Int) = 4
        · refine Zg h7 (Zv Z4 (ZY (z7 (xO ([⟨b5, (zC c.aft).cells, 78⟩, ⟨p4, (zC c.low).cells, 78⟩, ⟨b1, (coV c).cells, 51⟩]) (by kernel_rfl) (fun w hO => Own.sub [⟨b3, ZE, 78⟩, ⟨b2, ZE, 78⟩] hO) (ZL 1 [⟨b3, ZE, 78⟩, ⟨b2, ZE, 78⟩] _ 0 ⟨b5, (zC c.aft).cells, 78⟩ (off := 0) (zC c.aft) (zG (zJ (zG zI))) rfl rfl (Zz 0 (Zx [⟨b3, ZE, 78⟩, ⟨b2, ZE, 78⟩] _ (k := 147) (args := #[]) (zC (zX (-1))) rfl (fun w _ => uT w) (Zz 2 (ZS [⟨b3, ZE, 78⟩, ⟨b2, ZE, 78⟩] _ 1 ⟨b2, ZE, 78⟩ (off := 0) (zC (zX (-1))) rfl rfl ?_)))))))))
          exact Zz 3 (ZS [⟨b3, ZE, 78⟩, ⟨b2, (zC (zX (-1))).cells, 78⟩] _ 0 ⟨b3, ZE, 78⟩ (off := 0) (zC c.aft) rfl rfl (ZZ (z8 (zB (zF (z6 (ZH 1 0 ⟨b2, (zC (zX (-1))).cells, 78⟩ ⟨b3, (zC c.aft).cells, 78⟩ (off := 0) (oft := 0) (zC (zX (-1))) (zC c.aft) Tryz.results93 (fun w hO => ⟨by rw [show c.span = ((zX (-1)), c.aft) from by unfold Co.span; simp [h4, h5, h6, h7]], hO.below⟩))))))))
        refine Zh h7 (Zv Z5 (ZX (z7 (zA ?_))))
        by_cases h8 : (c.op : Int) = 5
        · refine Zg h8 (Zv Z4 (ZY (z7 (ok_drawt 2 (by kernel_rfl) (by kernel_rfl) (by kernel_rfl) ?_))))
          simp only [List.take_succ_cons, List.take_zero, List.drop_succ_cons, List.drop_zero]
          exact Zm 2 ⟨b5, (zC c.aft).cells, 78⟩ (off := 0) (zC c.aft) (Zq (k := 148) (args := #[]) (zC (zX 1)) (fun w _ => uS w) (xU (Zs 1 ⟨b2, ZE, 78⟩ (off := 0) (zC c.aft) (Zs 0 ⟨b3, ZE, 78⟩ (off := 0) (zC (zX 1)) (ZN (zB (zF (z6 (ZH 1 0 ⟨b2, (zC c.aft).cells, 78⟩ ⟨b3, (zC (zX 1)).cells, 78⟩ (off := 0) (oft := 0) (zC c.aft) (zC (zX 1)) Tryz.results93 (fun w hO => ⟨by rw [show c.span = (c.aft, (zX 1)) from by unfold Co.span; simp [h4, h5, h6, h7, h8]], hO.below⟩))))))))))
        refine Zh h8 (Zv Z5 (ZX (z7 (zA ?_))))
        by_cases h9 : (c.op : Int) = 6
        · refine Zg h9 (Zv Z4 (ZY (z7 (ok_drawt 2 (by kernel_rfl) (by kernel_rfl) (by kernel_rfl) ?_))))
          simp only [List.take_succ_cons, List.take_zero, List.drop_succ_cons, List.drop_zero]
          exact Zm 3 ⟨p4, (zC c.low).cells, 78⟩ (off := 0) (zC c.low) (Zq (k := 148) (args := #[]) (zC (zX 1)) (fun w _ => uS w) (xU (Zs 1 ⟨b2, ZE, 78⟩ (off := 0) (zC c.low) (Zs 0 ⟨b3, ZE, 78⟩ (off := 0) (zC (zX 1)) (ZN (zB (zF (z6 (ZH 1 0 ⟨b2, (zC c.low).cells, 78⟩ ⟨b3, (zC (zX 1)).cells, 78⟩ (off := 0) (oft := 0) (zC c.low) (zC (zX 1)) Tryz.results93 (fun w hO => ⟨by rw [show c.span = (c.low, (zX 1)) from by unfold Co.span; simp [h4, h5, h6, h7, h8, h9]], hO.below⟩))))))))))
        refine Zh h9 (Zv Z5 (ZX (z7 (zA ?_))))
        by_cases h10 : (c.op : Int) = 7
        · refine Zg h10 (Zv Z4 (ZY (z7 (xO ([⟨b5, (zC c.aft).cells, 78⟩, ⟨p4, (zC c.low).cells, 78⟩, ⟨b1, (coV c).cells, 51⟩]) (by kernel_rfl) (fun w hO => Own.sub [⟨b3, ZE, 78⟩, ⟨b2, ZE, 78⟩] hO) (ZL 0 [⟨b3, ZE, 78⟩, ⟨b2, ZE, 78⟩] _ 1 ⟨p4, (zC c.low).cells, 78⟩ (off := 0) (zC c.low) (zG (zJ (zG zI))) rfl rfl (ZT 1 [⟨b3, ZE, 78⟩, ⟨b2, ZE, 78⟩] _ (Zp b1 2) (zG (zJ (zG zI))) rfl (ZL 2 [⟨b3, ZE, 78⟩, ⟨b2, ZE, 78⟩] _ 2 ⟨b1, (coV c).cells, 51⟩ (off := 2) (.agg (ZP c.v)) (zG (zJ (zG zI))) rfl rfl (ZL 3 [⟨b3, ZE, 78⟩, ⟨b2, ZE, 78⟩] _ 2 ⟨b1, (coV c).cells, 51⟩ (off := 0) (coV c) (zG (zJ (zG zI))) rfl rfl (Zz 4 ?_)))))))))
          refine Zx [⟨b3, ZE, 78⟩, ⟨b2, ZE, 78⟩] _ (k := 149) (args := #[coV c]) (.int .i64 ((gI c : Nat) : Int)) rfl (fun w _ => rcturns_any c w hc) (Zz 5 (Zx [⟨b3, ZE, 78⟩, ⟨b2, ZE, 78⟩] _ (k := 146) (args := #[.agg (ZP c.v), .int .i64 ((gI c : Nat) : Int)]) (zC (kI c.v (gI c))) rfl (fun w _ => fQ c.v (((gI c : Nat) : Int)) (gI c) w hc (by omega) (turns_lt c)) (Zz 6 (ZS [⟨b3, ZE, 78⟩, ⟨b2, ZE, 78⟩] _ 1 ⟨b2, ZE, 78⟩ (off := 0) (zC c.low) rfl rfl (Zz 7 (ZS [⟨b3, ZE, 78⟩, ⟨b2, (zC c.low).cells, 78⟩] _ 0 ⟨b3, ZE, 78⟩ (off := 0) (zC (kI c.v (gI c))) rfl rfl (ZZ (z8 (zB (zF (z6 ?_)))))))))))
          exact ZH 1 0 ⟨b2, (zC c.low).cells, 78⟩ ⟨b3, (zC (kI c.v (gI c))).cells, 78⟩ (off := 0) (oft := 0) (zC c.low) (zC (kI c.v (gI c))) Tryz.results93 (fun w hO => ⟨by rw [show c.span = (c.low, (kI c.v (gI c))) from by unfold Co.span; simp [h4, h5, h6, h7, h8, h9, h10]], hO.below⟩)
        refine Zh h10 (Zv Z5 (ZX (z7 (zA ?_))))
        by_cases h11 : (c.op : Int) = 8
        · refine Zg h11 (Zv Z4 (ZY (z7 (xO ([⟨b5, (zC c.aft).cells, 78⟩, ⟨p4, (zC c.low).cells, 78⟩, ⟨b1, (coV c).cells, 51⟩]) (by kernel_rfl) (fun w hO => Own.sub [⟨b3, ZE, 78⟩, ⟨b2, ZE, 78⟩] hO) (ZL 0 [⟨b3, ZE, 78⟩, ⟨b2, ZE, 78⟩] _ 1 ⟨p4, (zC c.low).cells, 78⟩ (off := 0) (zC c.low) (zG (zJ (zG zI))) rfl rfl (ZT 1 [⟨b3, ZE, 78⟩, ⟨b2, ZE, 78⟩] _ (Zp b1 2) (zG (zJ (zG zI))) rfl (ZL 2 [⟨b3, ZE, 78⟩, ⟨b2, ZE, 78⟩] _ 2 ⟨b1, (coV c).cells, 51⟩ (off := 2) (.agg (ZP c.v)) (zG (zJ (zG zI))) rfl rfl (ZT 3 [⟨b3, ZE, 78⟩, ⟨b2, ZE, 78⟩] _ (.int .i64 ((c.parts : Int) - 1)) (zG (zJ (zG zI))) rfl (uK 4 [⟨b3, ZE, 78⟩, ⟨b2, ZE, 78⟩] _ (.int .i64 (min ((c.parts : Int) - 1) (1 : Int))) rfl (by kernel_rfl) (by kernel_rfl) (by kernel_rfl) (zG (zJ (zG zI))) (by kernel_rfl) (fun w _ => run_min2 (k := .i64) (q := .i64) (i := (c.parts : Int) - 1) (j := 1) rfl (by kernel_rfl) (by kernel_rfl) w) ?_)))))))))
          refine Zz 5 (Zx [⟨b3, ZE, 78⟩, ⟨b2, ZE, 78⟩] _ (k := 146) (args := #[.agg (ZP c.v), .int .i64 (min ((c.parts : Int) - 1) (1 : Int))]) (zC (kI c.v (min (c.parts - 1) 1).toNat)) rfl (fun w _ => fQ c.v (min ((c.parts : Int) - 1) (1 : Int)) (min (c.parts - 1) 1).toNat w hc (by omega) (by omega)) (Zz 6 (ZS [⟨b3, ZE, 78⟩, ⟨b2, ZE, 78⟩] _ 1 ⟨b2, ZE, 78⟩ (off := 0) (zC c.low) rfl rfl (Zz 7 (ZS [⟨b3, ZE, 78⟩, ⟨b2, (zC c.low).cells, 78⟩] _ 0 ⟨b3, ZE, 78⟩ (off := 0) (zC (kI c.v (min (c.parts - 1) 1).toNat)) rfl rfl (ZZ (z8 (zB (zF (z6 (ZH 1 0 ⟨b2, (zC c.low).cells, 78⟩ ⟨b3, (zC (kI c.v (min (c.parts - 1) 1).toNat)).cells, 78⟩ (off := 0) (oft := 0) (zC c.low) (zC (kI c.v (min (c.parts - 1) 1).toNat)) Tryz.results93 ?_)))))))))))
          exact fun w hO => ⟨by rw [show c.span = (c.low, (kI c.v (min (c.parts - 1) 1).toNat)) from by unfold Co.span; simp [h4, h5, h6, h7, h8, h9, h10, h11]], hO.below⟩
        refine Zh h11 (Zv Z5 (ZX (yC (zQ (z8 (z7 (ZO (Zv (Zp b1 1) ?_))))))))
        refine Zl 4 ⟨b1, (coV c).cells, 51⟩ (off := 1) (.int .i64 c.parts) ?_
        by_cases h12 : (c.parts : Int) = 0
        · refine Zg h12 (ZY (ZO (Zc (k := 147) (args := #[]) (zC (zX (-1))) (fun w _ => uT w) (Zc (k := 148) (args := #[]) (zC (zX 1)) (fun w _ => uS w) (Zs 1 ⟨b2, ZE, 78⟩ (off := 0) (zC (zX (-1))) (Zs 0 ⟨b3, ZE, 78⟩ (off := 0) (zC (zX 1)) (zP (z8 ?_))))))))
          exact zB (z6 (ZH 1 0 ⟨b2, (zC (zX (-1))).cells, 78⟩ ⟨b3, (zC (zX 1)).cells, 78⟩ (off := 0) (oft := 0) (zC (zX (-1))) (zC (zX 1)) Tryz.results93 (fun w hO => ⟨by rw [show c.span = ((zX (-1)), (zX 1)) from by unfold Co.span; simp [h4, h5, h6, h7, h8, h9, h10, h11, h12]], hO.below⟩)))
        refine Zh h12 (ZX (ZB (z7 (xO ([⟨b5, (zC c.aft).cells, 78⟩, ⟨p4, (zC c.low).cells, 78⟩, ⟨b1, (coV c).cells, 51⟩]) (by kernel_rfl) (fun w hO => Own.sub [⟨b3, ZE, 78⟩, ⟨b2, ZE, 78⟩] hO) (ZL 0 [⟨b3, ZE, 78⟩, ⟨b2, ZE, 78⟩] _ 1 ⟨p4, (zC c.low).cells, 78⟩ (off := 0) (zC c.low) (zG zI) rfl rfl (ZT 1 [⟨b3, ZE, 78⟩, ⟨b2, ZE, 78⟩] _ (Zp b1 2) (zG zI) rfl (ZL 2 [⟨b3, ZE, 78⟩, ⟨b2, ZE, 78⟩] _ 2 ⟨b1, (coV c).cells, 51⟩ (off := 2) (.agg (ZP c.v)) (zG zI) rfl rfl (ZT 3 [⟨b3, ZE, 78⟩, ⟨b2, ZE, 78⟩] _ (.int .i64 ((c.parts : Int) - 1)) (zG zI) rfl ?_))))))))
        exact Zz 4 (Zx [⟨b3, ZE, 78⟩, ⟨b2, ZE, 78⟩] _ (k := 146) (args := #[.agg (ZP c.v), .int .i64 ((c.parts : Int) - 1)]) (zC (kI c.v (c.parts - 1).toNat)) rfl (fun w _ => fQ c.v ((c.parts : Int) - 1) (c.parts - 1).toNat w hc (by omega) (by omega)) (Zz 5 (ZS [⟨b3, ZE, 78⟩, ⟨b2, ZE, 78⟩] _ 1 ⟨b2, ZE, 78⟩ (off := 0) (zC c.low) rfl rfl (Zz 6 (ZS [⟨b3, ZE, 78⟩, ⟨b2, (zC c.low).cells, 78⟩] _ 0 ⟨b3, ZE, 78⟩ (off := 0) (zC (kI c.v (c.parts - 1).toNat)) rfl rfl (ZZ (z8 (zB (ZH 1 0 ⟨b2, (zC c.low).cells, 78⟩ ⟨b3, (zC (kI c.v (c.parts - 1).toNat)).cells, 78⟩ (off := 0) (oft := 0) (zC c.low) (zC (kI c.v (c.parts - 1).toNat)) Tryz.results93 (fun w hO => ⟨by rw [show c.span = (c.low, (kI c.v (c.parts - 1).toNat)) from by unfold Co.span; simp [h4, h5, h6, h7, h8, h9, h10, h11, h12]], hO.below⟩))))))))))
end
section
theorem slit6 (s : Sp) (b : Nat) (cur : Array Value) (h : cur.toList = yR s) : SlS (.slice (some ⟨b, 0, none⟩) 1 1) [s] [⟨b, cur, 80⟩] := by
  have e : ([s] : List Sp).flatMap yR = yR s := List.append_nil _
  have hc : cur.toList.length = 14 := by rw [h]; rfl
  refine ⟨by rw [e]; rfl, .inr ⟨b, 1, cur, rfl, rfl, Nat.le_refl _, by decide, by rw [← Array.length_toList, hc], ?_⟩⟩
  rw [e, h]
  exact List.take_of_length_le (Nat.le_refl 14)
theorem high_short (v : Ver) (k : Nat) : (kI v k).short := by
  induction k with
  | zero =>
    unfold kI
    split
    · exact tM v 0
    · exact ⟨Nat.zero_le _, Nat.zero_le _⟩
  | succ k ih =>
    unfold kI
    split
    · exact tM v _
    · exact ih
theorem fL {c : Co} (h : c.short) : c.span.1.short ∧ c.span.2.short := by
  have hl : c.low.short := core_short h
  have he : ∀ e : Int, (zX e).short := fun e => ⟨Nat.zero_le _, Nat.zero_le _⟩
  have ha : c.aft.short := by
    unfold Co.aft
    split
    · exact high_short _ _
    · exact core_short h
  have hh := fun k => high_short c.v k
  unfold Co.span
  repeat' split
  all_goals exact ⟨by first | exact hl | exact ha | exact he _ | exact hh _, by first | exact hl | exact ha | exact he _ | exact hh _⟩
theorem v7 (lo hi : Cu) : kQ lo hi = if zV lo hi < 0 then [⟨lo, hi⟩] else [] := by
  unfold kQ qG
  by_cases h : zV lo hi < 0
  · rw [if_pos (bC h), if_pos h]; rfl
  · rw [if_neg (fun q => h (wQ q)), if_neg h]
theorem rcZone_any (c : Co) (W : World) (hc : c.short) : Calls Tryz.prog 88 #[coV c] W fun e w' => ∃ v' ob', e = .returned v' ∧ SlS v' c.zone ob' ∧ Own [] W w' ob' := by
  have hl1 : ({ c.v with pre := [48] } : Ver).short := ⟨by show ([48] : List UInt8).length ≤ _; decide, hc.2⟩
  have hb1 : ({ c.v with pre := [] } : Ver).short := ⟨Nat.zero_le _, hc.2⟩
  refine Z2 (n := 25) Tryz.func88 rfl (ZO (Zb (coV c) (fun b1 => Zv (.slice none 0 0) (ZN (z7 (ZO (Zl 0 ⟨b1, (coV c).cells, 51⟩ (off := 0) (coV c) (Zc (k := 79) (args := #[coV c]) (.bool c.may) (fun w _ => nG c w hc) ?_))))))))
  cases h1 : c.may with
  | true =>
    refine Zv Z5 (Zv Z5 (Zv (Zp b1 2) (Zv (Zp b1 5) (Zl 0 ⟨b1, (coV c).cells, 51⟩ (off := 5) (.string (mkS c.v.pre)) ?_))))
    by_cases h2 : (c.v.pre : List UInt8) = []
    · refine zU Z4 (by kernel_rfl) (yM (a := c.v.pre) (b := ([])) rfl (by kernel_rfl) (by kernel_rfl) (decide_eq_true (h2))) (Zv Z4 (ZY (ZO (Zv (.slice none 0 0) (ZN (zB (z6 ?_)))))))
      exact ZF (.slice none 0 0) Tryz.results88 (fun w hO => ⟨_, [], rfl, by rw [show c.zone = [] from by unfold Co.zone; simp [h1, h2]]; exact Sl.nil _ _, kF hO⟩)
    refine zU Z5 (by kernel_rfl) (yM (a := c.v.pre) (b := ([])) rfl (by kernel_rfl) (by kernel_rfl) (decide_eq_false (h2))) (Zv Z5 (ZX (ZB (ZO (Zv (Zp b1 2) (Zl 0 ⟨b1, (coV c).cells, 51⟩ (off := 2) (.agg (ZP c.v)) (Za (.agg Z1) (fun b2 => ?_))))))))
    refine Zs 0 ⟨b2, Z1, 44⟩ (off := 0) (.agg (ZP c.v)) (ZR (Zv (Zp b2 3) (Zs 0 ⟨b2, (ZP c.v), 44⟩ (off := 3) (.string ⟨#[]⟩) (ZR (Zl 0 ⟨b2, #[.int .i64 c.v.maj, .int .i64 c.v.min, .int .i64 c.v.pat, .string ⟨#[]⟩, .string (mkS c.v.build)], 44⟩ (off := 0) (.agg #[.int .i64 c.v.maj, .int .i64 c.v.min, .int .i64 c.v.pat, .string ⟨#[]⟩, .string (mkS c.v.build)]) ?_)))))
    refine Za (.agg Z1) (fun b3 => Zs 0 ⟨b3, Z1, 44⟩ (off := 0) (.agg #[.int .i64 c.v.maj, .int .i64 c.v.min, .int .i64 c.v.pat, .string ⟨#[]⟩, .string (mkS c.v.build)]) (ZR (Zv (Zp b3 3) (Zs 0 ⟨b3, #[.int .i64 c.v.maj, .int .i64 c.v.min, .int .i64 c.v.pat, .string ⟨#[]⟩, .string (mkS c.v.build)], 44⟩ (off := 3) (.string ⟨#[48]⟩) (ZN (z7 (uF (by kernel_rfl) ?_)))))))
    refine ZL 0 [] _ 0 ⟨b3, #[.int .i64 c.v.maj, .int .i64 c.v.min, .int .i64 c.v.pat, .string ⟨#[48]⟩, .string (mkS c.v.build)], 44⟩ (off := 0) (.agg #[.int .i64 c.v.maj, .int .i64 c.v.min, .int .i64 c.v.pat, .string ⟨#[48]⟩, .string (mkS c.v.build)]) (zG zI) rfl rfl (ZL 2 [] _ 1 ⟨b2, #[.int .i64 c.v.maj, .int .i64 c.v.min, .int .i64 c.v.pat, .string ⟨#[]⟩, .string (mkS c.v.build)], 44⟩ (off := 0) (.agg #[.int .i64 c.v.maj, .int .i64 c.v.min, .int .i64 c.v.pat, .string ⟨#[]⟩, .string (mkS c.v.build)]) (zG zI) rfl rfl (Zz 1 (Zx [] _ (k := 142) (args := #[.agg #[.int .i64 c.v.maj, .int .i64 c.v.min, .int .i64 c.v.pat, .string ⟨#[48]⟩, .string (mkS c.v.build)]]) (zC ⟨0, y7 (({ c.v with pre := [48] } : Ver)), false⟩) rfl (fun w _ => vU (({ c.v with pre := [48] } : Ver)) w hl1) (Zz 3 (Zx [] _ (k := 142) (args := #[.agg #[.int .i64 c.v.maj, .int .i64 c.v.min, .int .i64 c.v.pat, .string ⟨#[]⟩, .string (mkS c.v.build)]]) (zC ⟨0, y7 (({ c.v with pre := [] } : Ver)), false⟩) rfl (fun w _ => vU (({ c.v with pre := [] } : Ver)) w hb1) (ZT 4 [] _ (.agg #[.int .i64 0, .int .i64 ((y7 (({ c.v with pre := [48] } : Ver))).maj), .int .i64 ((y7 (({ c.v with pre := [48] } : Ver))).min), .int .i64 ((y7 (({ c.v with pre := [48] } : Ver))).pat), .string (mkS (y7 (({ c.v with pre := [48] } : Ver))).pre), .string (mkS (y7 (({ c.v with pre := [48] } : Ver))).build), .bool false, .int .i64 0, .int .i64 ((y7 (({ c.v with pre := [] } : Ver))).maj), .int .i64 ((y7 (({ c.v with pre := [] } : Ver))).min), .int .i64 ((y7 (({ c.v with pre := [] } : Ver))).pat), .string (mkS (y7 (({ c.v with pre := [] } : Ver))).pre), .string (mkS (y7 (({ c.v with pre := [] } : Ver))).build), .bool false]) (zG zI) rfl (Zz 5 (hl_lit _ 80 #[.int .i64 0, .int .i64 ((y7 (({ c.v with pre := [48] } : Ver))).maj), .int .i64 ((y7 (({ c.v with pre := [48] } : Ver))).min), .int .i64 ((y7 (({ c.v with pre := [48] } : Ver))).pat), .string (mkS (y7 (({ c.v with pre := [48] } : Ver))).pre), .string (mkS (y7 (({ c.v with pre := [48] } : Ver))).build), .bool false, .int .i64 0, .int .i64 ((y7 (({ c.v with pre := [] } : Ver))).maj), .int .i64 ((y7 (({ c.v with pre := [] } : Ver))).min), .int .i64 ((y7 (({ c.v with pre := [] } : Ver))).pat), .string (mkS (y7 (({ c.v with pre := [] } : Ver))).pre), .string (mkS (y7 (({ c.v with pre := [] } : Ver))).build), .bool false] rfl (by kernel_rfl) rfl (fun w hO => Own.sub [] hO) (fun _ => by kernel_rfl) (fun b4 => ZT 6 [⟨b4, #[.int .i64 0, .int .i64 ((y7 (({ c.v with pre := [48] } : Ver))).maj), .int .i64 ((y7 (({ c.v with pre := [48] } : Ver))).min), .int .i64 ((y7 (({ c.v with pre := [48] } : Ver))).pat), .string (mkS (y7 (({ c.v with pre := [48] } : Ver))).pre), .string (mkS (y7 (({ c.v with pre := [48] } : Ver))).build), .bool false, .int .i64 0, .int .i64 ((y7 (({ c.v with pre := [] } : Ver))).maj), .int .i64 ((y7 (({ c.v with pre := [] } : Ver))).min), .int .i64 ((y7 (({ c.v with pre := [] } : Ver))).pat), .string (mkS (y7 (({ c.v with pre := [] } : Ver))).pre), .string (mkS (y7 (({ c.v with pre := [] } : Ver))).build), .bool false], 80⟩] _ (.slice (some ⟨b4, 0, none⟩) 1 1) (zG zI) rfl (ZZ (z8 ?_)))))))))))
    exact zB (ZF (.slice (some ⟨b4, 0, none⟩) 1 1) Tryz.results88 (fun w hO => ⟨_, _, rfl, by rw [zone_row (by assumption) (by assumption)]; exact slit6 ⟨⟨0, fY c.v, false⟩, ⟨0, bareV c.v, false⟩⟩ b4 _ (by kernel_rfl), hO.sublist (List.cons_sublist_cons.2 (List.nil_sublist _))⟩))
  | false =>
    refine Zv Z4 (Zv Z4 (Zk (Zk (Zk (Zk (Zv Z4 (ZY (z7 (zA ?_)))))))))
    exact Zv (.slice none 0 0) (ZN (zB (z6 (ZF (.slice none 0 0) Tryz.results88 (fun w hO => ⟨_, [], rfl, by rw [show c.zone = [] from by unfold Co.zone; simp [h1]]; exact Sl.nil _ _, kF hO⟩)))))
theorem rcRegion_any (c : Co) (W : World) (hc : c.short) : Calls Tryz.prog 53 #[coV c] W fun e w' => ∃ v' ob', e = .returned v' ∧ SlS v' c.region ob' ∧ Own [] W w' ob' := by
  have hs1 := (fL hc).1
  have hs2 := (fL hc).2
  refine Z2 (n := 28) Tryz.func53 rfl (ZO (Zb (coV c) (fun b1 => Zv (.slice none 0 0) (ZN (z7 (ZO (Zl 0 ⟨b1, (coV c).cells, 51⟩ (off := 0) (coV c) (Zc (k := 79) (args := #[coV c]) (.bool c.may) (fun w _ => nG c w hc) ?_))))))))
  cases h1 : c.may with
  | true =>
    refine Zv Z5 (ZX (ZB (ZO (Zv (.slice none 0 0) (ZN (z7 ?_))))))
    refine zA (Zl 0 ⟨b1, (coV c).cells, 51⟩ (off := 0) (coV c) (Zc (k := 93) (args := #[coV c]) (.tuple #[zC c.span.1, zC c.span.2]) (fun w _ => rcspan_any c w hc h1) (Zv (.tuple #[zC c.span.1, zC c.span.2]) (Zv (zC c.span.1) (Zv (zC c.span.2) (Za (.agg ZE) (fun b2 => Za (.agg ZE) (fun b3 => Zs 1 ⟨b2, ZE, 78⟩ (off := 0) (zC c.span.1) (Zs 0 ⟨b3, ZE, 78⟩ (off := 0) (zC c.span.2) (zP (z8 ?_)))))))))))
    refine z7 (ZO (Zl 1 ⟨b2, (zC c.span.1).cells, 78⟩ (off := 0) (zC c.span.1) (Zl 0 ⟨b3, (zC c.span.2).cells, 78⟩ (off := 0) (zC c.span.2) (Zc (k := 94) (args := #[zC c.span.1, zC c.span.2]) (.int .i64 (zV c.span.1 c.span.2)) (fun w _ => jS c.span.1 c.span.2 w hs1 hs2) ?_))))
    by_cases h2 : (zV c.span.1 c.span.2 : Int) < 0
    · refine Zg h2 (ZY (zA (Zl 1 ⟨b2, (zC c.span.1).cells, 78⟩ (off := 0) (zC c.span.1) (Zl 0 ⟨b3, (zC c.span.2).cells, 78⟩ (off := 0) (zC c.span.2) (Zv (.agg (ZJ2 c.span.1 c.span.2)) (qC 80 (ZJ2 c.span.1 c.span.2) (by kernel_rfl) rfl (fun _ => by kernel_rfl) (fun b4 => Zv (.slice (some ⟨b4, 0, none⟩) 1 1) (zP (z8 ?_)))))))))
      refine z7 (ZO (Zv (Zp b1 0) (Zl 3 ⟨b1, (coV c).cells, 51⟩ (off := 0) (.int .i64 c.op) ?_)))
      by_cases h3 : (c.op : Int) = 2
      · refine Zg h3 (ZY (ZO (Zv (.slice (some ⟨b4, 0, none⟩) 1 1) (Zr (k := 95) (args := #[.slice (some ⟨b4, 0, none⟩) 1 1]) (fun v' L' => ∃ ob', L' = ob' ++ ([⟨b4, (ZJ2 c.span.1 c.span.2), 80⟩, ⟨b3, (zC c.span.2).cells, 78⟩, ⟨b2, (zC c.span.1).cells, 78⟩, ⟨b1, (coV c).cells, 51⟩]) ∧ SlS v' (vP [⟨c.span.1, c.span.2⟩]) ob') (fun w hO => (rnot_any (some ⟨b4, 0, none⟩) 1 [⟨c.span.1, c.span.2⟩] w (Sl.reads (slit6 ⟨c.span.1, c.span.2⟩ b4 (ZJ2 c.span.1 c.span.2) (by kernel_rfl)) rfl hO (fun x hx => by rw [List.mem_singleton.1 hx]; exact List.mem_cons_self)) (by show 1 ≤ _; decide) (fun s hs => by rw [List.mem_singleton.1 hs]; exact ⟨hs1, hs2⟩)).mono fun e w' ⟨v', ob', k1, k2, k3⟩ => ⟨v', _, k1, ⟨ob', rfl, by rw [if_pos (show zR [⟨c.span.1, c.span.2⟩] = true from bC (by assumption))] at k2; exact k2⟩, Own.joinN hO k3⟩) (fun v1 L1 hv1 => ?_)))))
        obtain ⟨o1, rfl, hr1⟩ := hv1
        exact Zv (v1) (ZN (zB (z6 (ZF (v1) Tryz.results53 (fun w hO => ⟨_, o1, rfl, by rw [show c.region = vP [⟨c.span.1, c.span.2⟩] from by unfold Co.region; rw [if_pos (by assumption), if_pos h3, v7, if_pos h2]]; exact hr1, hO.sublist (List.sublist_append_left _ _)⟩)))))
      refine Zh h3 (ZX (ZB (ZO (Zv (.slice (some ⟨b4, 0, none⟩) 1 1) (Zv (.slice (some ⟨b4, 0, none⟩) 1 1) (zP (z8 ?_)))))))
      exact zB (ZF (.slice (some ⟨b4, 0, none⟩) 1 1) Tryz.results53 (fun w hO => ⟨_, _, rfl, by rw [show c.region = [⟨c.span.1, c.span.2⟩] from by unfold Co.region; rw [if_pos (by assumption), if_neg h3, v7, if_pos h2]]; exact slit6 ⟨c.span.1, c.span.2⟩ b4 _ (by kernel_rfl), hO.sublist (List.cons_sublist_cons.2 (List.nil_sublist _))⟩))
    refine Zh h2 (ZX (ZB (z7 (ZO (Zv (Zp b1 0) (Zl 2 ⟨b1, (coV c).cells, 51⟩ (off := 0) (.int .i64 c.op) ?_))))))
    by_cases h4 : (c.op : Int) = 2
    · refine Zg h4 (ZY (ZO (Zv (.slice none 0 0) (Zr (k := 95) (args := #[.slice none 0 0]) (fun v' L' => ∃ ob', L' = ob' ++ ([⟨b3, (zC c.span.2).cells, 78⟩, ⟨b2, (zC c.span.1).cells, 78⟩, ⟨b1, (coV c).cells, 51⟩]) ∧ SlS v' (vP []) ob') (fun w hO => (rnot_any none 0 [] w (fun h0 => absurd h0 (Nat.lt_irrefl 0)) (by show 0 ≤ _; decide) (fun s hs => by simp at hs)).mono fun e w' ⟨v', ob', k1, k2, k3⟩ => ⟨v', _, k1, ⟨ob', rfl, by rw [if_pos (show zR [] = true from rfl)] at k2; exact k2⟩, Own.joinN hO k3⟩) (fun v1 L1 hv1 => ?_)))))
      obtain ⟨o1, rfl, hr1⟩ := hv1
      exact Zv (v1) (ZN (zB (z6 (ZF (v1) Tryz.results53 (fun w hO => ⟨_, o1, rfl, by rw [show c.region = vP [] from by unfold Co.region; rw [if_pos (by assumption), if_pos h4, v7, if_neg h2]]; exact hr1, hO.sublist (List.sublist_append_left _ _)⟩)))))
    refine Zh h4 (ZX (ZB (ZO (Zv (.slice none 0 0) (Zv (.slice none 0 0) (zP (z8 ?_)))))))
    exact zB (ZF (.slice none 0 0) Tryz.results53 (fun w hO => ⟨_, [], rfl, by rw [show c.region = [] from by unfold Co.region; rw [if_pos (by assumption), if_neg h4, v7, if_neg h2]]; exact Sl.nil _ _, kF hO⟩))
  | false =>
    refine Zv Z4 (ZY (ZO (Zv (.slice none 0 0) (ZN (zB (z6 (ZF (.slice none 0 0) Tryz.results53 ?_)))))))
    exact fun w hO => ⟨_, [], rfl, by rw [show c.region = [] from by unfold Co.region; simp [h1]]; exact Sl.nil _ _, kF hO⟩
end
section
def triV (l : List (List UInt8)) : Ver := if l.length = 3 then ⟨zS (tg l 0), zS (tg l 1), zS (tg l 2), [], []⟩ else Ver.zero
def triB (l : List (List UInt8)) : Bool := decide (l.length = 3) && (xZ (tg l 0) && xZ (tg l 1) && xZ (tg l 2))
theorem pU (n : Int) (h : yN n = true) (w : World) :
    Calls Tryz.prog 171 #[.int .i64 n] w fun e w' => e = .returned (.string (mkS (Lib.itoa n))) ∧ Below w.heap.size w w' := by
  unfold yN at h; simp at h
  exact rdigits_any n (by omega) (by omega) w
end
section
theorem uQ (op : Int) : (zO op).length ≤ 2 := by
  unfold zO
  repeat' split
  all_goals decide
theorem join_len (b : UInt8) (m : Nat) : ∀ (l : List (List UInt8)), (∀ x ∈ l, x.length ≤ m) → (yG b l).length ≤ l.length * (m + 1)
  | [], _ => by simp [yG]
  | [x], h => by
    have := h x (List.mem_singleton.2 rfl)
    simp [yG]; omega
  | x :: y :: r, h => by
    have h1 := h x (List.mem_cons_self ..)
    have h2 := join_len b m (y :: r) fun z hz => h z (List.mem_cons_of_mem _ hz)
    rw [yG, List.length_append, List.length_cons]
    simp only [List.length_cons, Nat.add_mul] at h2 ⊢
    omega
theorem nums_len9 {v : Ver} (hv : v.may = true) {n : Nat} : ∀ x ∈ yK v n, x.length ≤ 21 := fun x hx => by
  obtain ⟨k, hk, rfl⟩ := nums_mem hv hx
  have := itoa_len hk
  omega
theorem wI (v : Ver) (n : Nat) : (yK v n).length ≤ 3 := by unfold yK; rw [List.length_take]; simp; omega
theorem vL {v : Ver} (hv : v.may = true) (n : Nat) : (yG 46 (yK v n)).length ≤ 100 := by
  have h := join_len 46 21 (yK v n) (nums_len9 hv)
  have := wI v n
  omega
theorem uP {v : Ver} (hv : v.may = true) (n : Nat) : (yG 46 (yK v n ++ [[42]])).length ≤ 200 := by
  have h := join_len 46 21 (yK v n ++ [[42]]) (fun x hx => by
    rcases List.mem_append.1 hx with hx | hx
    · exact nums_len9 hv x hx
    · rw [List.mem_singleton.1 hx]; decide)
  have := wI v n
  rw [List.length_append] at h
  simp at h; omega
def toldC (v : Ver) : Array Value := #[.string (mkS (Lib.itoa v.maj)), .string (mkS (Lib.itoa v.min)), .string (mkS (Lib.itoa v.pat))]
theorem told_take (v : Ver) {n : Nat} (h : n ≤ 3) : (toldC v).toList.take (n * 1) = qN (yK v n) := by
  rw [Nat.mul_one]
  unfold qN yK
  rw [List.map_take]; rfl
theorem told_slt (v : Ver) {n : Nat} (h : n ≤ 3) (g : Nat) : SlT (.slice (some ⟨g, 0, none⟩) n 3) (yK v n) [⟨g, toldC v, 9⟩] := by
  have e := vK v h
  refine ⟨by rw [jP, e]; omega, .inr ⟨g, 3, toldC v, by rw [e], rfl, by rw [e]; exact h, by decide, rfl, ?_⟩⟩
  rw [e]; exact told_take v h
theorem strInfo : (Tryz.prog.info? 9).map (fun i => (i.zero.map (·.cells.size), i.size, i.bytes)) = some (some 1, 1, 16) := by kernel_rfl
theorem bI : ∃ i z, Tryz.prog.info? 9 = some i ∧ i.zero = some z ∧ i.size = 1 ∧ z.cells.size = 1 ∧ i.bytes = 16 := by
  have h := strInfo
  cases hi : Tryz.prog.info? 9 with
  | none => rw [hi] at h; cases h
  | some i =>
    rw [hi] at h
    simp only [Option.map_some, Option.some.injEq, Prod.mk.injEq] at h
    cases hz : i.zero with
    | none => rw [hz] at h; simp at h
    | some z => rw [hz] at h; simp at h; exact ⟨i, z, rfl, hz, h.2.1, h.1, h.2.2⟩
theorem parts_nat {c : Co} (h : c.may = true) : ((c.parts.toNat : Nat) : Int) = c.parts ∧ c.parts.toNat ≤ 3 := by
  obtain ⟨_, _, _, h9, hn, _⟩ := Co.facts h
  by_cases e : c.op = 9
  · have := h9 e; omega
  · have := hn e; omega
theorem star_text {c : Co} (h9 : c.op = 9) : yG 46 (yK c.v c.parts.toNat ++ [[42]]) = c.text := by
  unfold Co.text Co.rest
  rw [h9, if_pos rfl]; rfl
theorem text_pre {c : Co} (h9 : ¬ c.op = 9) (hp : ¬ c.v.pre = []) : zO c.op ++ yG 46 (yK c.v c.parts.toNat) ++ [45] ++ c.v.pre = c.text := by
  unfold Co.text Co.rest mE
  rw [if_neg h9]
  cases hq : c.v.pre with
  | nil => exact absurd hq hp
  | cons a r => simp
theorem text_bare {c : Co} (h9 : ¬ c.op = 9) (hp : c.v.pre = []) : zO c.op ++ yG 46 (yK c.v c.parts.toNat) = c.text := by
  unfold Co.text Co.rest mE
  rw [if_neg h9, hp]; simp
theorem rctold_any (c : Co) (W : World) (hc : c.short) (hm : c.may = true) : Calls Tryz.prog 126 #[coV c] W fun e w' => ∃ v' ob', e = .returned v' ∧ (∃ g, v' = .slice (some ⟨g, 0, none⟩) c.parts.toNat 3 ∧ ob' = [⟨g, toldC c.v, 9⟩]) ∧ Own [] W w' ob' := by
  obtain ⟨m1, m2, m3⟩ := vV (Co.facts hm).2.1
  have hpn := parts_nat hm
  refine Z2 (n := 21) Tryz.func126 rfl (ZO (Zb (coV c) (fun b1 => Zv (.slice none 0 0) (ZN (z7 (uF (by kernel_rfl) (ZT 0 [] _ (Zp b1 2) (zG zI) rfl (ZT 1 [] _ (Zp b1 2) (zG zI) rfl (ZL 2 [] _ 0 ⟨b1, (coV c).cells, 51⟩ (off := 2) (.int .i64 c.v.maj) (zG zI) rfl rfl ?_)))))))))
  refine ZT 4 [] _ (Zp b1 2) (zG zI) rfl (ZT 5 [] _ (Zp b1 3) (zG zI) rfl (ZL 6 [] _ 0 ⟨b1, (coV c).cells, 51⟩ (off := 3) (.int .i64 c.v.min) (zG zI) rfl rfl (ZT 8 [] _ (Zp b1 2) (zG zI) rfl (ZT 9 [] _ (Zp b1 4) (zG zI) rfl (ZL 10 [] _ 0 ⟨b1, (coV c).cells, 51⟩ (off := 4) (.int .i64 c.v.pat) (zG zI) rfl rfl (Zz 3 (Zx [] _ (k := 171) (args := #[.int .i64 c.v.maj]) (.string (mkS (Lib.itoa c.v.maj))) rfl (fun w _ => pU c.v.maj m1 w) (Zz 7 (Zx [] _ (k := 171) (args := #[.int .i64 c.v.min]) (.string (mkS (Lib.itoa c.v.min))) rfl (fun w _ => pU c.v.min m2 w) (Zz 11 (Zx [] _ (k := 171) (args := #[.int .i64 c.v.pat]) (.string (mkS (Lib.itoa c.v.pat))) rfl (fun w _ => pU c.v.pat m3 w) ?_)))))))))))
  refine Zz 12 (hl_lit _ 9 #[.string (mkS (Lib.itoa c.v.maj)), .string (mkS (Lib.itoa c.v.min)), .string (mkS (Lib.itoa c.v.pat))] rfl (by kernel_rfl) rfl (fun w hO => Own.sub [] hO) (fun _ => by kernel_rfl) (fun b2 => ZT 13 [⟨b2, #[.string (mkS (Lib.itoa c.v.maj)), .string (mkS (Lib.itoa c.v.min)), .string (mkS (Lib.itoa c.v.pat))], 9⟩] _ (.slice (some ⟨b2, 0, none⟩) 3 3) (zG zI) rfl (ZZ (z8 (ZO (Zv (.slice (some ⟨b2, 0, none⟩) 3 3) (Zv (Zp b1 1) (Zl 1 ⟨b1, (coV c).cells, 51⟩ (off := 1) (.int .i64 c.parts) (zU (.slice (some ⟨b2, 0, none⟩) c.parts.toNat 3) (by kernel_rfl) (dT (b := b2) (off := 0) (n := 3) (c := 3) (k := .i64) (j := c.parts) (e := 9) (sz := 1) rfl (by kernel_rfl) (by kernel_rfl) (by kernel_rfl) (by kernel_rfl) (by omega) (by omega)) (Zv (.slice (some ⟨b2, 0, none⟩) c.parts.toNat 3) ?_))))))))))
  exact ZN (zB (ZF (.slice (some ⟨b2, 0, none⟩) c.parts.toNat 3) Tryz.results126 (fun w hO => ⟨_, _, rfl, ⟨_, rfl, rfl⟩, hO.sublist (List.cons_sublist_cons.2 (List.nil_sublist _))⟩)))
theorem jT (c : Co) (W : World) (hc : c.short) : Calls Tryz.prog 78 #[coV c] W fun e w' => e = .returned (.string (mkS c.print)) ∧ Below W.heap.size W w' := by
  refine Z2 (n := 39) Tryz.func78 rfl (ZO (Zb (coV c) (fun b1 => Zv (.string ⟨#[]⟩) (ZN (z7 (ZO (Zl 0 ⟨b1, (coV c).cells, 51⟩ (off := 0) (coV c) (Zc (k := 79) (args := #[coV c]) (.bool c.may) (fun w _ => nG c w hc) ?_))))))))
  cases h1 : c.may with
  | true =>
    refine Zv Z5 (ZX (ZB (ZO (Zl 0 ⟨b1, (coV c).cells, 51⟩ (off := 0) (coV c) ?_))))
    have hcm := h1
    have hcv := (Co.facts hcm).2.1
    have hpn := parts_nat hcm
    refine Zr (k := 126) (args := #[coV c]) (fun v' L' => ∃ g, v' = .slice (some ⟨g, 0, none⟩) c.parts.toNat 3 ∧ L' = ⟨g, toldC c.v, 9⟩ :: [⟨b1, (coV c).cells, 51⟩]) (fun w hO => (rctold_any c w hc hcm).mono fun e w' ⟨v', ob', k1, ⟨g, k2, k4⟩, k3⟩ => ⟨v', _, k1, ⟨g, k2, rfl⟩, by subst k4; exact Own.joinN hO k3⟩) (fun v1 L1 hv1 => ?_)
    obtain ⟨g1, rfl, rfl⟩ := hv1
    refine Zv (.slice (some ⟨g1, 0, none⟩) c.parts.toNat 3) (ZN (z7 (ZO (Zv (Zp b1 0) (Zl 1 ⟨b1, (coV c).cells, 51⟩ (off := 0) (.int .i64 c.op) ?_)))))
    by_cases h2 : (c.op : Int) = 9
    · refine Zg h2 (ZY (ZO (Zv (.slice (some ⟨g1, 0, none⟩) c.parts.toNat 3) (Zv (Zp b1 1) (Zl 1 ⟨b1, (coV c).cells, 51⟩ (off := 1) (.int .i64 c.parts) (Zv (Zp b1 1) (Zl 1 ⟨b1, (coV c).cells, 51⟩ (off := 1) (.int .i64 c.parts) (zU (.slice (some ⟨g1, 0, none⟩) c.parts.toNat c.parts.toNat) (by kernel_rfl) (run_slhm (b := g1) (n := c.parts.toNat) (c := 3) (k := .i64) (q := .i64) (j := c.parts) (m := c.parts) (e := 9) (sz := 1) rfl (by kernel_rfl) (by kernel_rfl) (by kernel_rfl) (by kernel_rfl) (by kernel_rfl) (by omega) (by omega) (by omega)) ?_))))))))
      refine qC 9 #[.string ⟨#[42]⟩] (by kernel_rfl) rfl (fun _ => by kernel_rfl) (fun b2 => ?_)
      obtain ⟨i0, z0, e1, e2, e3, e4, e5⟩ := bI
      refine s_appendF (sz := 1) (by kernel_rfl) rfl Tryz.underlying58 e1 e2 e3 e4 (b := ⟨g1, 0, none⟩) (n := c.parts.toNat) (cap := c.parts.toNat) (xs := qN (yK c.v c.parts.toNat)) (by kernel_rfl) (by rw [jP, vK c.v hpn.2, Nat.mul_one]) (fun w hO j u hj => ?_) (a := ⟨b2, 0, none⟩) (m := 1) (c := 1) (news := qN [[42]]) (by kernel_rfl) (by kernel_rfl) (fun w hO j u hj => ?_) (by omega) (by unfold maxLen; omega) (by rw [e5]; omega) (fun va oa hva0 => ?_)
      · rw [← told_take c.v hpn.2, Nat.mul_one, List.getElem?_take] at hj
        split at hj
        · rw [yW, cell_of_row w g1 (0 + j) (toldC c.v) 9 _ (hO.held ⟨g1, toldC c.v, 9⟩ (by simp))]; simpa using hj
        · cases hj
      · rw [yW, cell_of_row w b2 (0 + j) (qN [[42]]).toArray 9 _ (hO.held ⟨b2, (qN [[42]]).toArray, 9⟩ List.mem_cons_self)]; simpa using hj
      have hva : SlT va (yK c.v c.parts.toNat ++ [[42]]) oa := hva0.to (by rw [List.length_append, vK c.v hpn.2]; rfl) (by unfold qN; rw [List.map_append])
      exact Zc (k := 127) (args := #[va, .int .u8 46]) (.string (mkS (yG 46 (yK c.v c.parts.toNat ++ [[42]])))) (fun w hO => rjoin_any va _ 46 w (SlT.readsT hva hO (fun x hx => by simp [hx])) (Nat.le_trans (uP hcv _) (by decide)) (by rw [List.length_append]; have := wI c.v c.parts.toNat; simp; omega)) (Zv (.string (mkS (yG 46 (yK c.v c.parts.toNat ++ [[42]])))) (ZN (zB (z6 (ZF (.string (mkS (yG 46 (yK c.v c.parts.toNat ++ [[42]])))) Tryz.results78 (fun w hO => ⟨by rw [qW hcm, ← star_text h2], hO.below⟩))))))
    refine Zh h2 (ZX (ZB (ZO (Zv (Zp b1 0) (Zl 1 ⟨b1, (coV c).cells, 51⟩ (off := 0) (.int .i64 c.op) (Zc (k := 123) (args := #[.int .i64 c.op]) (.string (mkS (zO c.op))) (fun w _ => qZ c.op w) (Zv (.slice (some ⟨g1, 0, none⟩) c.parts.toNat 3) ?_)))))))
    refine Zc (k := 127) (args := #[.slice (some ⟨g1, 0, none⟩) c.parts.toNat 3, .int .u8 46]) (.string (mkS (yG 46 (yK c.v c.parts.toNat)))) (fun w hO => rjoin_any _ _ 46 w (SlT.readsT (told_slt c.v hpn.2 g1) hO (fun x hx => by rw [List.mem_singleton.1 hx]; exact List.mem_cons_self)) (Nat.le_trans (vL hcv _) (by decide)) (Nat.le_trans (wI _ _) (by decide))) (zU (.string (mkS ((zO c.op) ++ (yG 46 (yK c.v c.parts.toNat))))) (by kernel_rfl) (yZ (a := (zO c.op)) (b := (yG 46 (yK c.v c.parts.toNat))) rfl (by kernel_rfl) (by kernel_rfl) (by have q1 := uQ c.op; have q2 := vL hcv c.parts.toNat; have q3 := hc.1; first | omega | (simp only [List.length_append, List.length_cons, List.length_nil]; omega))) (Zv (.string (mkS ((zO c.op) ++ (yG 46 (yK c.v c.parts.toNat))))) (ZN (z7 (ZO (Zv (Zp b1 2) (Zv (Zp b1 5) (Zl 1 ⟨b1, (coV c).cells, 51⟩ (off := 5) (.string (mkS c.v.pre)) ?_))))))))
    by_cases h3 : (c.v.pre : List UInt8) = []
    · refine zU Z5 (by kernel_rfl) (yV (a := c.v.pre) (b := ([])) rfl (by kernel_rfl) (by kernel_rfl) (decide_eq_true (h3))) (ZX (ZB (ZO (Zv (.string (mkS ((zO c.op) ++ (yG 46 (yK c.v c.parts.toNat))))) (Zv (.string (mkS ((zO c.op) ++ (yG 46 (yK c.v c.parts.toNat))))) (zP (z8 ?_)))))))
      exact zB (ZF (.string (mkS ((zO c.op) ++ (yG 46 (yK c.v c.parts.toNat))))) Tryz.results78 (fun w hO => ⟨by rw [qW hcm, ← text_bare h2 h3], hO.below⟩))
    refine zU Z4 (by kernel_rfl) (yV (a := c.v.pre) (b := ([])) rfl (by kernel_rfl) (by kernel_rfl) (decide_eq_false (h3))) (ZY (zA (Zv (.string (mkS ((zO c.op) ++ (yG 46 (yK c.v c.parts.toNat))))) (zU (.string (mkS (((zO c.op) ++ (yG 46 (yK c.v c.parts.toNat))) ++ [45]))) (by kernel_rfl) (yZ (a := ((zO c.op) ++ (yG 46 (yK c.v c.parts.toNat)))) (b := [45]) rfl (by kernel_rfl) (by kernel_rfl) (by have q1 := uQ c.op; have q2 := vL hcv c.parts.toNat; have q3 := hc.1; first | omega | (simp only [List.length_append, List.length_cons, List.length_nil]; omega))) (Zv (Zp b1 2) (Zv (Zp b1 5) (Zl 1 ⟨b1, (coV c).cells, 51⟩ (off := 5) (.string (mkS c.v.pre)) (zU (.string (mkS ((((zO c.op) ++ (yG 46 (yK c.v c.parts.toNat))) ++ [45]) ++ c.v.pre))) (by kernel_rfl) (yZ (a := (((zO c.op) ++ (yG 46 (yK c.v c.parts.toNat))) ++ [45])) (b := c.v.pre) rfl (by kernel_rfl) (by kernel_rfl) (by have q1 := uQ c.op; have q2 := vL hcv c.parts.toNat; have q3 := hc.1; first | omega | (simp only [List.length_append, List.length_cons, List.length_nil]; omega))) (Zv (.string (mkS ((((zO c.op) ++ (yG 46 (yK c.v c.parts.toNat))) ++ [45]) ++ c.v.pre))) ?_)))))))))
    exact ZR (Zv (.string (mkS ((((zO c.op) ++ (yG 46 (yK c.v c.parts.toNat))) ++ [45]) ++ c.v.pre))) (Zv (.string (mkS ((((zO c.op) ++ (yG 46 (yK c.v c.parts.toNat))) ++ [45]) ++ c.v.pre))) (ZN (zB (ZF (.string (mkS ((((zO c.op) ++ (yG 46 (yK c.v c.parts.toNat))) ++ [45]) ++ c.v.pre))) Tryz.results78 (fun w hO => ⟨by rw [qW hcm, ← text_pre h2 h3], hO.below⟩))))))
  | false =>
    refine Zv Z4 (ZY (ZO (Zv (.string ⟨#[]⟩) (ZN (zB (z6 (ZF (.string ⟨#[]⟩) Tryz.results78 ?_)))))))
    exact fun w hO => ⟨by unfold Co.print; simp [h1]; rfl, hO.below⟩
end
end Go.Proofs.YtkljdpiaghepfaaGreatDoor
