/-
  What the statement's proof leans on: the ways of walking, n7 mathematics, and what the program's functions return; each theorem says on what conditions.
-/
import Derived.Deep.RegionHeld3
import Derived.Outline
import Derived.Test.YtkljdpiaghepfaaGreatDoorMF4
set_option maxRecDepth 1000000
set_option maxHeartbeats 8000000
set_option linter.unusedVariables false
set_option linter.unusedSimpArgs false
set_option linter.unnecessarySimpa false
namespace Go.Proofs.YtkljdpiaghepfaaGreatDoor
open Go.RowKit

section
theorem bump_core (v : Ver) (k : Int) : zW (yD v k) = yD v k := by
  by_cases h : y8 v k = true
  · obtain ⟨a, b, c, e⟩ := bump_rel h
    rw [e]; rfl
  · unfold yD
    rw [if_neg h]; rfl
theorem pF (v : Ver) (k : Int) : (yD v k).short := by
  by_cases h : y8 v k = true
  · obtain ⟨a, b, c, e⟩ := bump_rel h
    rw [e]; exact ⟨Nat.zero_le _, Nat.zero_le _⟩
  · unfold yD
    rw [if_neg h]; exact ⟨Nat.zero_le _, Nat.zero_le _⟩
def vZ (v : Ver) (z : Int) : Cu := if z < 0 then zT 1 else xW v z.toNat
theorem highZ_hit {v : Ver} {z : Int} (h0 : 0 ≤ z) (h : y8 v z = true) : vZ v z = ⟨0, yD v z, false⟩ := by
  unfold vZ
  rw [if_neg (by omega)]
  obtain ⟨k, rfl⟩ : ∃ k : Nat, z = k := ⟨z.toNat, by omega⟩
  rw [Int.toNat_natCast]
  cases k with
  | zero => unfold xW; exact if_pos h
  | succ k => unfold xW; rw [if_pos h]
theorem highZ_next {v : Ver} {z : Int} (h0 : 0 ≤ z) (h : y8 v z = false) : vZ v z = vZ v (z - 1) := by
  unfold vZ
  rw [if_neg (by omega)]
  obtain ⟨k, rfl⟩ : ∃ k : Nat, z = k := ⟨z.toNat, by omega⟩
  rw [Int.toNat_natCast]
  cases k with
  | zero => unfold xW; rw [if_neg (by rw [show ((0 : Nat) : Int) = 0 from rfl] at h; rw [h]; decide), if_pos (by decide)]
  | succ k =>
    unfold xW
    rw [if_neg (by rw [h]; decide), if_neg (by omega)]
    rw [show (((k + 1 : Nat) : Int) - 1).toNat = k from by omega]
    cases k <;> rfl
theorem mF (c : Co) (W : World) (hc : c.short) : Calls Tryz.prog 79 #[coV c] W fun e w' => e = .returned (.bool c.may) ∧ Below W.heap.size W w' := by
  refine Z2 (n := 80) Tryz.func79 rfl (ZO (Zb (coV c) (fun b1 => Zv Z5 (ZN (z7 (ZO (Zv (Zp b1 0) (Zl 0 ⟨b1, (coV c).cells, 51⟩ (off := 0) (.int .i64 c.op) ?_))))))))
  by_cases h1 : (c.op : Int) < 1
  · refine Zg h1 (Zv Z4 (Zk (Zk (Zk (Zv Z4 (Zv Z4 (Zk (Zk (Zk (Zk (Zv Z4 ?_)))))))))))
    refine Zv Z4 (Zk (Zk (Zk (Zk (Zv Z4 (ZY (ZO (Zv Z5 ?_))))))))
    exact ZN (zC (z6 (ZF Z5 Tryz.results79 (fun w hO => ⟨by rw [show c.may = false from Bool.eq_false_iff.2 fun q0 => by have q1 := Co.may_iff.1 q0; grind], hO.below⟩))))
  refine Zh h1 (Zv Z5 (Zv (Zp b1 0) (Zl 0 ⟨b1, (coV c).cells, 51⟩ (off := 0) (.int .i64 c.op) ?_)))
  by_cases h2 : (9 : Int) < c.op
  · refine Zg h2 (Zv Z4 (Zv Z4 (Zk (Zk (Zk (Zk (Zv Z4 (Zv Z4 (Zk (Zk (Zk ?_)))))))))))
    refine Zk (Zv Z4 (ZY (ZO (Zv Z5 (ZN (zC (z6 ?_)))))))
    exact ZF Z5 Tryz.results79 (fun w hO => ⟨by rw [show c.may = false from Bool.eq_false_iff.2 fun q0 => by have q1 := Co.may_iff.1 q0; grind], hO.below⟩)
  refine Zh h2 (Zv Z5 (Zv Z5 (Zv (Zp b1 2) (Zl 0 ⟨b1, (coV c).cells, 51⟩ (off := 2) (.agg (ZP c.v)) (Zc (k := 56) (args := #[.agg (ZP c.v)]) (.bool c.v.may) (fun w _ => qR c.v w hc.1 hc.2) ?_)))))
  cases h3 : c.v.may with
  | true =>
    refine Zv Z5 (Zv Z5 (Zv Z5 (Zv (Zp b1 2) (Zv (Zp b1 6) (Zl 0 ⟨b1, (coV c).cells, 51⟩ (off := 6) (.string (mkS c.v.build)) ?_)))))
    by_cases h4 : (c.v.build : List UInt8) = []
    · refine zV Z5 (by kernel_rfl) (xC (a := c.v.build) (b := ([])) rfl (by kernel_rfl) (by kernel_rfl) (decide_eq_true (h4))) (Zv Z5 (ZX (ZB (ZO (Zv (.int .i64 1) (Zv (.int .i64 3) (zO ?_)))))))
      refine zB (z7 (ZO (Zv (Zp b1 0) (Zl 0 ⟨b1, (coV c).cells, 51⟩ (off := 0) (.int .i64 c.op) ?_))))
      by_cases h5 : (c.op : Int) = 9
      · refine Zg h5 (ZN (jS (fun L f => ∃ (lo : Int) (hi : Int) (j : Nat → Value), ((c.op = 9 → lo = 0 ∧ hi = 2) ∧ (¬ c.op = 9 → lo = 1 ∧ hi = 3)) ∧ L = [⟨b1, (coV c).cells, 51⟩] ∧ f = xZ j [(1, Zp b1 0), (3, .int .i64 lo), (4, .int .i64 hi)]) ?_ ?_))
        · exact Zt (zA (Zv (.int .i64 0) (Zv (.int .i64 2) (zO (yL ⟨0, 2, _, ⟨by omega, by omega⟩, rfl, ZU⟩)))))
        · rintro L f ⟨lo, hi, j, hj3, rfl, rfl⟩
          refine zB (z7 (z7 (jS (fun L f => ∃ (bad : Bool) (j : Nat → Value), ((bad = true → ¬ (lo ≤ c.parts ∧ c.parts ≤ hi ∧ (3 ≤ c.parts ∨ c.v.pre = []))) ∧ (bad = false → lo ≤ c.parts ∧ c.parts ≤ hi ∧ (3 ≤ c.parts ∨ c.v.pre = []))) ∧ L = [⟨b1, (coV c).cells, 51⟩] ∧ f = xZ j [(1, Zp b1 0), (48, .bool bad)]) ?_ ?_)))
          · refine zA (Zv (Zp b1 1) (Zl 0 ⟨b1, (coV c).cells, 51⟩ (off := 1) (.int .i64 c.parts) (Zv (.int .i64 lo) ?_)))
            by_cases h6 : (c.parts : Int) < lo
            · refine Zg h6 (Zv Z4 (Zk (Zk (Zk (Zk (Zv Z4 (Zv Z4 (Zk (Zk (Zk (Zk ?_)))))))))))
              exact Zk (Zk (Zk (Zk (Zk (Zv Z4 (zO (yL ⟨true, _, ⟨fun q0 => by grind, fun q0 => absurd q0 (by decide)⟩, rfl, ZU⟩)))))))
            refine Zh h6 (Zv Z5 (Zv (Zp b1 1) (Zl 0 ⟨b1, (coV c).cells, 51⟩ (off := 1) (.int .i64 c.parts) (Zv (.int .i64 hi) ?_))))
            by_cases h7 : (hi : Int) < c.parts
            · refine Zg h7 (Zv Z4 (Zv Z4 (Zk (Zk (Zk (Zk (Zk (Zk (Zk (Zk (Zk ?_)))))))))))
              exact Zv Z4 (zO (yL ⟨true, _, ⟨fun q0 => by grind, fun q0 => absurd q0 (by decide)⟩, rfl, ZU⟩))
            refine Zh h7 (Zv Z5 (Zv Z5 (Zv (Zp b1 1) (Zl 0 ⟨b1, (coV c).cells, 51⟩ (off := 1) (.int .i64 c.parts) ?_))))
            by_cases h8 : (c.parts : Int) < 3
            · refine Zg h8 (Zv Z4 (Zv (Zp b1 2) (Zv (Zp b1 5) (Zl 0 ⟨b1, (coV c).cells, 51⟩ (off := 5) (.string (mkS c.v.pre)) ?_))))
              by_cases h9 : (c.v.pre : List UInt8) = []
              · exact zV Z5 (by kernel_rfl) (xC (a := c.v.pre) (b := ([])) rfl (by kernel_rfl) (by kernel_rfl) (decide_eq_true (h9))) (Zv Z5 (Zv Z5 (zO (yL ⟨false, _, ⟨fun q0 => absurd q0 (by decide), fun q0 => ⟨by omega, by omega, by first | exact .inr (by assumption) | exact .inl (by omega)⟩⟩, rfl, ZU⟩))))
              exact zV Z4 (by kernel_rfl) (xC (a := c.v.pre) (b := ([])) rfl (by kernel_rfl) (by kernel_rfl) (decide_eq_false (h9))) (Zv Z4 (Zv Z4 (zO (yL ⟨true, _, ⟨fun q0 => by grind, fun q0 => absurd q0 (by decide)⟩, rfl, ZU⟩))))
            exact Zh h8 (Zv Z5 (Zk (Zk (Zk (Zk (Zv Z5 (Zv Z5 (zO (yL ⟨false, _, ⟨fun q0 => absurd q0 (by decide), fun q0 => ⟨by omega, by omega, by first | exact .inr (by assumption) | exact .inl (by omega)⟩⟩, rfl, ZU⟩)))))))))
          · rintro L f ⟨bad, j, hj2, rfl, rfl⟩
            refine zB ?_
            cases h10 : bad with
            | true =>
              exact Zt (ZO (Zv Z5 (ZN (zC (z6 (ZF Z5 Tryz.results79 (fun w hO => ⟨by rw [show c.may = false from Bool.eq_false_iff.2 fun q0 => by have q1 := Co.may_iff.1 q0; grind], hO.below⟩)))))))
            | false =>
              refine Zf (ZB (ZO (Zv (Zp b1 1) (Zl 0 ⟨b1, (coV c).cells, 51⟩ (off := 1) (.int .i64 c.parts) ?_))))
              by_cases h11 : (0 : Int) < c.parts
              · refine Zg h11 (Zv Z4 (Zk (Zk (Zk (Zk (Zv Z4 (Zv Z4 (Zv (Zp b1 1) (Zl 0 ⟨b1, (coV c).cells, 51⟩ (off := 1) (.int .i64 c.parts) ?_)))))))))
                by_cases h12 : (1 : Int) < c.parts
                · refine Zg h12 (Zv Z4 (Zk (Zk (Zk (Zk (Zv Z4 (Zv Z4 (Zv Z4 (Zv (Zp b1 1) (Zl 0 ⟨b1, (coV c).cells, 51⟩ (off := 1) (.int .i64 c.parts) ?_))))))))))
                  by_cases h13 : (2 : Int) < c.parts
                  · refine Zg h13 (Zv Z4 (Zk (Zk (Zk (Zk (Zv Z4 (Zv Z4 (Zv Z4 (ZN (zC ?_))))))))))
                    exact ZF Z4 Tryz.results79 (fun w hO => ⟨by rw [Co.may_iff.2 ⟨by omega, by assumption, by assumption, by grind, by grind, by grind, by omega, by omega, by omega⟩], hO.below⟩)
                  refine Zh h13 (Zv Z5 (Zv (Zp b1 2) (Zv (Zp b1 4) (Zl 0 ⟨b1, (coV c).cells, 51⟩ (off := 4) (.int .i64 c.v.pat) ?_))))
                  by_cases h14 : (c.v.pat : Int) = 0
                  · exact Zg h14 (Zv Z4 (Zv Z4 (Zv Z4 (ZN (zC (ZF Z4 Tryz.results79 (fun w hO => ⟨by rw [Co.may_iff.2 ⟨by omega, by assumption, by assumption, by grind, by grind, by grind, by omega, by omega, by omega⟩], hO.below⟩)))))))
                  exact Zh h14 (Zv Z5 (Zv Z5 (Zv Z5 (ZN (zC (ZF Z5 Tryz.results79 (fun w hO => ⟨by rw [show c.may = false from Bool.eq_false_iff.2 fun q0 => by have q1 := Co.may_iff.1 q0; grind], hO.below⟩)))))))
                refine Zh h12 (Zv Z5 (Zv (Zp b1 2) (Zv (Zp b1 3) (Zl 0 ⟨b1, (coV c).cells, 51⟩ (off := 3) (.int .i64 c.v.min) ?_))))
                by_cases h15 : (c.v.min : Int) = 0
                · refine Zg h15 (Zv Z4 (Zv Z4 (Zv Z4 (Zv (Zp b1 1) (Zl 0 ⟨b1, (coV c).cells, 51⟩ (off := 1) (.int .i64 c.parts) ?_)))))
                  by_cases h16 : (2 : Int) < c.parts
                  · refine Zg h16 (Zv Z4 (Zk (Zk (Zk (Zk (Zv Z4 (Zv Z4 (Zv Z4 (ZN (zC ?_))))))))))
                    exact ZF Z4 Tryz.results79 (fun w hO => ⟨by rw [Co.may_iff.2 ⟨by omega, by assumption, by assumption, by grind, by grind, by grind, by omega, by omega, by omega⟩], hO.below⟩)
                  refine Zh h16 (Zv Z5 (Zv (Zp b1 2) (Zv (Zp b1 4) (Zl 0 ⟨b1, (coV c).cells, 51⟩ (off := 4) (.int .i64 c.v.pat) ?_))))
                  by_cases h17 : (c.v.pat : Int) = 0
                  · exact Zg h17 (Zv Z4 (Zv Z4 (Zv Z4 (ZN (zC (ZF Z4 Tryz.results79 (fun w hO => ⟨by rw [Co.may_iff.2 ⟨by omega, by assumption, by assumption, by grind, by grind, by grind, by omega, by omega, by omega⟩], hO.below⟩)))))))
                  exact Zh h17 (Zv Z5 (Zv Z5 (Zv Z5 (ZN (zC (ZF Z5 Tryz.results79 (fun w hO => ⟨by rw [show c.may = false from Bool.eq_false_iff.2 fun q0 => by have q1 := Co.may_iff.1 q0; grind], hO.below⟩)))))))
                refine Zh h15 (Zv Z5 (Zv Z5 (Zv Z5 (Zk (Zk (Zk (Zk (Zk (Zk (Zk (Zk ?_)))))))))))
                exact Zk (Zv Z5 (Zv Z5 (ZN (zC (ZF Z5 Tryz.results79 (fun w hO => ⟨by rw [show c.may = false from Bool.eq_false_iff.2 fun q0 => by have q1 := Co.may_iff.1 q0; grind], hO.below⟩))))))
              refine Zh h11 (Zv Z5 (Zv (Zp b1 2) (Zv (Zp b1 2) (Zl 0 ⟨b1, (coV c).cells, 51⟩ (off := 2) (.int .i64 c.v.maj) ?_))))
              by_cases h18 : (c.v.maj : Int) = 0
              · refine Zg h18 (Zv Z4 (Zv Z4 (Zv (Zp b1 1) (Zl 0 ⟨b1, (coV c).cells, 51⟩ (off := 1) (.int .i64 c.parts) ?_))))
                by_cases h19 : (1 : Int) < c.parts
                · refine Zg h19 (Zv Z4 (Zk (Zk (Zk (Zk (Zv Z4 (Zv Z4 (Zv Z4 (Zv (Zp b1 1) (Zl 0 ⟨b1, (coV c).cells, 51⟩ (off := 1) (.int .i64 c.parts) ?_))))))))))
                  by_cases h20 : (2 : Int) < c.parts
                  · refine Zg h20 (Zv Z4 (Zk (Zk (Zk (Zk (Zv Z4 (Zv Z4 (Zv Z4 (ZN (zC ?_))))))))))
                    exact ZF Z4 Tryz.results79 (fun w hO => ⟨by rw [Co.may_iff.2 ⟨by omega, by assumption, by assumption, by grind, by grind, by grind, by omega, by omega, by omega⟩], hO.below⟩)
                  refine Zh h20 (Zv Z5 (Zv (Zp b1 2) (Zv (Zp b1 4) (Zl 0 ⟨b1, (coV c).cells, 51⟩ (off := 4) (.int .i64 c.v.pat) ?_))))
                  by_cases h21 : (c.v.pat : Int) = 0
                  · exact Zg h21 (Zv Z4 (Zv Z4 (Zv Z4 (ZN (zC (ZF Z4 Tryz.results79 (fun w hO => ⟨by rw [Co.may_iff.2 ⟨by omega, by assumption, by assumption, by grind, by grind, by grind, by omega, by omega, by omega⟩], hO.below⟩)))))))
                  exact Zh h21 (Zv Z5 (Zv Z5 (Zv Z5 (ZN (zC (ZF Z5 Tryz.results79 (fun w hO => ⟨by rw [show c.may = false from Bool.eq_false_iff.2 fun q0 => by have q1 := Co.may_iff.1 q0; grind], hO.below⟩)))))))
                refine Zh h19 (Zv Z5 (Zv (Zp b1 2) (Zv (Zp b1 3) (Zl 0 ⟨b1, (coV c).cells, 51⟩ (off := 3) (.int .i64 c.v.min) ?_))))
                by_cases h22 : (c.v.min : Int) = 0
                · refine Zg h22 (Zv Z4 (Zv Z4 (Zv Z4 (Zv (Zp b1 1) (Zl 0 ⟨b1, (coV c).cells, 51⟩ (off := 1) (.int .i64 c.parts) ?_)))))
                  by_cases h23 : (2 : Int) < c.parts
                  · refine Zg h23 (Zv Z4 (Zk (Zk (Zk (Zk (Zv Z4 (Zv Z4 (Zv Z4 (ZN (zC ?_))))))))))
                    exact ZF Z4 Tryz.results79 (fun w hO => ⟨by rw [Co.may_iff.2 ⟨by omega, by assumption, by assumption, by grind, by grind, by grind, by omega, by omega, by omega⟩], hO.below⟩)
                  refine Zh h23 (Zv Z5 (Zv (Zp b1 2) (Zv (Zp b1 4) (Zl 0 ⟨b1, (coV c).cells, 51⟩ (off := 4) (.int .i64 c.v.pat) ?_))))
                  by_cases h24 : (c.v.pat : Int) = 0
                  · exact Zg h24 (Zv Z4 (Zv Z4 (Zv Z4 (ZN (zC (ZF Z4 Tryz.results79 (fun w hO => ⟨by rw [Co.may_iff.2 ⟨by omega, by assumption, by assumption, by grind, by grind, by grind, by omega, by omega, by omega⟩], hO.below⟩)))))))
                  exact Zh h24 (Zv Z5 (Zv Z5 (Zv Z5 (ZN (zC (ZF Z5 Tryz.results79 (fun w hO => ⟨by rw [show c.may = false from Bool.eq_false_iff.2 fun q0 => by have q1 := Co.may_iff.1 q0; grind], hO.below⟩)))))))
                refine Zh h22 (Zv Z5 (Zv Z5 (Zv Z5 (Zk (Zk (Zk (Zk (Zk (Zk (Zk (Zk ?_)))))))))))
                exact Zk (Zv Z5 (Zv Z5 (ZN (zC (ZF Z5 Tryz.results79 (fun w hO => ⟨by rw [show c.may = false from Bool.eq_false_iff.2 fun q0 => by have q1 := Co.may_iff.1 q0; grind], hO.below⟩))))))
              refine Zh h18 (Zv Z5 (Zv Z5 (Zk (Zk (Zk (Zk (Zk (Zk (Zk (Zk (Zk ?_)))))))))))
              refine Zv Z5 (Zv Z5 (Zk (Zk (Zk (Zk (Zk (Zk (Zk (Zk (Zk (Zv Z5 ?_)))))))))))
              exact Zv Z5 (ZN (zC (ZF Z5 Tryz.results79 (fun w hO => ⟨by rw [show c.may = false from Bool.eq_false_iff.2 fun q0 => by have q1 := Co.may_iff.1 q0; grind], hO.below⟩))))
      refine Zh h5 (ZN (jS (fun L f => ∃ (lo : Int) (hi : Int) (j : Nat → Value), ((c.op = 9 → lo = 0 ∧ hi = 2) ∧ (¬ c.op = 9 → lo = 1 ∧ hi = 3)) ∧ L = [⟨b1, (coV c).cells, 51⟩] ∧ f = xZ j [(1, Zp b1 0), (3, .int .i64 lo), (4, .int .i64 hi)]) ?_ ?_))
      · exact Zf (yP (yL ⟨1, 3, _, ⟨by omega, by omega⟩, rfl, ZU⟩))
      · rintro L f ⟨lo, hi, j, hj3, rfl, rfl⟩
        refine zB (z7 (z7 (jS (fun L f => ∃ (bad : Bool) (j : Nat → Value), ((bad = true → ¬ (lo ≤ c.parts ∧ c.parts ≤ hi ∧ (3 ≤ c.parts ∨ c.v.pre = []))) ∧ (bad = false → lo ≤ c.parts ∧ c.parts ≤ hi ∧ (3 ≤ c.parts ∨ c.v.pre = []))) ∧ L = [⟨b1, (coV c).cells, 51⟩] ∧ f = xZ j [(1, Zp b1 0), (48, .bool bad)]) ?_ ?_)))
        · refine zA (Zv (Zp b1 1) (Zl 0 ⟨b1, (coV c).cells, 51⟩ (off := 1) (.int .i64 c.parts) (Zv (.int .i64 lo) ?_)))
          by_cases h25 : (c.parts : Int) < lo
          · refine Zg h25 (Zv Z4 (Zk (Zk (Zk (Zk (Zv Z4 (Zv Z4 (Zk (Zk (Zk (Zk ?_)))))))))))
            exact Zk (Zk (Zk (Zk (Zk (Zv Z4 (zO (yL ⟨true, _, ⟨fun q0 => by grind, fun q0 => absurd q0 (by decide)⟩, rfl, ZU⟩)))))))
          refine Zh h25 (Zv Z5 (Zv (Zp b1 1) (Zl 0 ⟨b1, (coV c).cells, 51⟩ (off := 1) (.int .i64 c.parts) (Zv (.int .i64 hi) ?_))))
          by_cases h26 : (hi : Int) < c.parts
          · refine Zg h26 (Zv Z4 (Zv Z4 (Zk (Zk (Zk (Zk (Zk (Zk (Zk (Zk (Zk ?_)))))))))))
            exact Zv Z4 (zO (yL ⟨true, _, ⟨fun q0 => by grind, fun q0 => absurd q0 (by decide)⟩, rfl, ZU⟩))
          refine Zh h26 (Zv Z5 (Zv Z5 (Zv (Zp b1 1) (Zl 0 ⟨b1, (coV c).cells, 51⟩ (off := 1) (.int .i64 c.parts) ?_))))
          by_cases h27 : (c.parts : Int) < 3
          · refine Zg h27 (Zv Z4 (Zv (Zp b1 2) (Zv (Zp b1 5) (Zl 0 ⟨b1, (coV c).cells, 51⟩ (off := 5) (.string (mkS c.v.pre)) ?_))))
            by_cases h28 : (c.v.pre : List UInt8) = []
            · exact zV Z5 (by kernel_rfl) (xC (a := c.v.pre) (b := ([])) rfl (by kernel_rfl) (by kernel_rfl) (decide_eq_true (h28))) (Zv Z5 (Zv Z5 (zO (yL ⟨false, _, ⟨fun q0 => absurd q0 (by decide), fun q0 => ⟨by omega, by omega, by first | exact .inr (by assumption) | exact .inl (by omega)⟩⟩, rfl, ZU⟩))))
            exact zV Z4 (by kernel_rfl) (xC (a := c.v.pre) (b := ([])) rfl (by kernel_rfl) (by kernel_rfl) (decide_eq_false (h28))) (Zv Z4 (Zv Z4 (zO (yL ⟨true, _, ⟨fun q0 => by grind, fun q0 => absurd q0 (by decide)⟩, rfl, ZU⟩))))
          exact Zh h27 (Zv Z5 (Zk (Zk (Zk (Zk (Zv Z5 (Zv Z5 (zO (yL ⟨false, _, ⟨fun q0 => absurd q0 (by decide), fun q0 => ⟨by omega, by omega, by first | exact .inr (by assumption) | exact .inl (by omega)⟩⟩, rfl, ZU⟩)))))))))
        · rintro L f ⟨bad, j, hj2, rfl, rfl⟩
          refine zB ?_
          cases h29 : bad with
          | true =>
            exact Zt (ZO (Zv Z5 (ZN (zC (z6 (ZF Z5 Tryz.results79 (fun w hO => ⟨by rw [show c.may = false from Bool.eq_false_iff.2 fun q0 => by have q1 := Co.may_iff.1 q0; grind], hO.below⟩)))))))
          | false =>
            refine Zf (ZB (ZO (Zv (Zp b1 1) (Zl 0 ⟨b1, (coV c).cells, 51⟩ (off := 1) (.int .i64 c.parts) ?_))))
            by_cases h30 : (0 : Int) < c.parts
            · refine Zg h30 (Zv Z4 (Zk (Zk (Zk (Zk (Zv Z4 (Zv Z4 (Zv (Zp b1 1) (Zl 0 ⟨b1, (coV c).cells, 51⟩ (off := 1) (.int .i64 c.parts) ?_)))))))))
              by_cases h31 : (1 : Int) < c.parts
              · refine Zg h31 (Zv Z4 (Zk (Zk (Zk (Zk (Zv Z4 (Zv Z4 (Zv Z4 (Zv (Zp b1 1) (Zl 0 ⟨b1, (coV c).cells, 51⟩ (off := 1) (.int .i64 c.parts) ?_))))))))))
                by_cases h32 : (2 : Int) < c.parts
                · refine Zg h32 (Zv Z4 (Zk (Zk (Zk (Zk (Zv Z4 (Zv Z4 (Zv Z4 (ZN (zC ?_))))))))))
                  exact ZF Z4 Tryz.results79 (fun w hO => ⟨by rw [Co.may_iff.2 ⟨by omega, by assumption, by assumption, by grind, by grind, by grind, by omega, by omega, by omega⟩], hO.below⟩)
                refine Zh h32 (Zv Z5 (Zv (Zp b1 2) (Zv (Zp b1 4) (Zl 0 ⟨b1, (coV c).cells, 51⟩ (off := 4) (.int .i64 c.v.pat) ?_))))
                by_cases h33 : (c.v.pat : Int) = 0
                · exact Zg h33 (Zv Z4 (Zv Z4 (Zv Z4 (ZN (zC (ZF Z4 Tryz.results79 (fun w hO => ⟨by rw [Co.may_iff.2 ⟨by omega, by assumption, by assumption, by grind, by grind, by grind, by omega, by omega, by omega⟩], hO.below⟩)))))))
                exact Zh h33 (Zv Z5 (Zv Z5 (Zv Z5 (ZN (zC (ZF Z5 Tryz.results79 (fun w hO => ⟨by rw [show c.may = false from Bool.eq_false_iff.2 fun q0 => by have q1 := Co.may_iff.1 q0; grind], hO.below⟩)))))))
              refine Zh h31 (Zv Z5 (Zv (Zp b1 2) (Zv (Zp b1 3) (Zl 0 ⟨b1, (coV c).cells, 51⟩ (off := 3) (.int .i64 c.v.min) ?_))))
              by_cases h34 : (c.v.min : Int) = 0
              · refine Zg h34 (Zv Z4 (Zv Z4 (Zv Z4 (Zv (Zp b1 1) (Zl 0 ⟨b1, (coV c).cells, 51⟩ (off := 1) (.int .i64 c.parts) ?_)))))
                by_cases h35 : (2 : Int) < c.parts
                · refine Zg h35 (Zv Z4 (Zk (Zk (Zk (Zk (Zv Z4 (Zv Z4 (Zv Z4 (ZN (zC ?_))))))))))
                  exact ZF Z4 Tryz.results79 (fun w hO => ⟨by rw [Co.may_iff.2 ⟨by omega, by assumption, by assumption, by grind, by grind, by grind, by omega, by omega, by omega⟩], hO.below⟩)
                refine Zh h35 (Zv Z5 (Zv (Zp b1 2) (Zv (Zp b1 4) (Zl 0 ⟨b1, (coV c).cells, 51⟩ (off := 4) (.int .i64 c.v.pat) ?_))))
                by_cases h36 : (c.v.pat : Int) = 0
                · exact Zg h36 (Zv Z4 (Zv Z4 (Zv Z4 (ZN (zC (ZF Z4 Tryz.results79 (fun w hO => ⟨by rw [Co.may_iff.2 ⟨by omega, by assumption, by assumption, by grind, by grind, by grind, by omega, by omega, by omega⟩], hO.below⟩)))))))
                exact Zh h36 (Zv Z5 (Zv Z5 (Zv Z5 (ZN (zC (ZF Z5 Tryz.results79 (fun w hO => ⟨by rw [show c.may = false from Bool.eq_false_iff.2 fun q0 => by have q1 := Co.may_iff.1 q0; grind], hO.below⟩)))))))
              refine Zh h34 (Zv Z5 (Zv Z5 (Zv Z5 (Zk (Zk (Zk (Zk (Zk (Zk (Zk (Zk ?_)))))))))))
              exact Zk (Zv Z5 (Zv Z5 (ZN (zC (ZF Z5 Tryz.results79 (fun w hO => ⟨by rw [show c.may = false from Bool.eq_false_iff.2 fun q0 => by have q1 := Co.may_iff.1 q0; grind], hO.below⟩))))))
            refine Zh h30 (Zv Z5 (Zv (Zp b1 2) (Zv (Zp b1 2) (Zl 0 ⟨b1, (coV c).cells, 51⟩ (off := 2) (.int .i64 c.v.maj) ?_))))
            by_cases h37 : (c.v.maj : Int) = 0
            · refine Zg h37 (Zv Z4 (Zv Z4 (Zv (Zp b1 1) (Zl 0 ⟨b1, (coV c).cells, 51⟩ (off := 1) (.int .i64 c.parts) ?_))))
              by_cases h38 : (1 : Int) < c.parts
              · refine Zg h38 (Zv Z4 (Zk (Zk (Zk (Zk (Zv Z4 (Zv Z4 (Zv Z4 (Zv (Zp b1 1) (Zl 0 ⟨b1, (coV c).cells, 51⟩ (off := 1) (.int .i64 c.parts) ?_))))))))))
                by_cases h39 : (2 : Int) < c.parts
                · refine Zg h39 (Zv Z4 (Zk (Zk (Zk (Zk (Zv Z4 (Zv Z4 (Zv Z4 (ZN (zC ?_))))))))))
                  exact ZF Z4 Tryz.results79 (fun w hO => ⟨by rw [Co.may_iff.2 ⟨by omega, by assumption, by assumption, by grind, by grind, by grind, by omega, by omega, by omega⟩], hO.below⟩)
                refine Zh h39 (Zv Z5 (Zv (Zp b1 2) (Zv (Zp b1 4) (Zl 0 ⟨b1, (coV c).cells, 51⟩ (off := 4) (.int .i64 c.v.pat) ?_))))
                by_cases h40 : (c.v.pat : Int) = 0
                · exact Zg h40 (Zv Z4 (Zv Z4 (Zv Z4 (ZN (zC (ZF Z4 Tryz.results79 (fun w hO => ⟨by rw [Co.may_iff.2 ⟨by omega, by assumption, by assumption, by grind, by grind, by grind, by omega, by omega, by omega⟩], hO.below⟩)))))))
                exact Zh h40 (Zv Z5 (Zv Z5 (Zv Z5 (ZN (zC (ZF Z5 Tryz.results79 (fun w hO => ⟨by rw [show c.may = false from Bool.eq_false_iff.2 fun q0 => by have q1 := Co.may_iff.1 q0; grind], hO.below⟩)))))))
              refine Zh h38 (Zv Z5 (Zv (Zp b1 2) (Zv (Zp b1 3) (Zl 0 ⟨b1, (coV c).cells, 51⟩ (off := 3) (.int .i64 c.v.min) ?_))))
              by_cases h41 : (c.v.min : Int) = 0
              · refine Zg h41 (Zv Z4 (Zv Z4 (Zv Z4 (Zv (Zp b1 1) (Zl 0 ⟨b1, (coV c).cells, 51⟩ (off := 1) (.int .i64 c.parts) ?_)))))
                by_cases h42 : (2 : Int) < c.parts
                · refine Zg h42 (Zv Z4 (Zk (Zk (Zk (Zk (Zv Z4 (Zv Z4 (Zv Z4 (ZN (zC ?_))))))))))
                  exact ZF Z4 Tryz.results79 (fun w hO => ⟨by rw [Co.may_iff.2 ⟨by omega, by assumption, by assumption, by grind, by grind, by grind, by omega, by omega, by omega⟩], hO.below⟩)
                refine Zh h42 (Zv Z5 (Zv (Zp b1 2) (Zv (Zp b1 4) (Zl 0 ⟨b1, (coV c).cells, 51⟩ (off := 4) (.int .i64 c.v.pat) ?_))))
                by_cases h43 : (c.v.pat : Int) = 0
                · exact Zg h43 (Zv Z4 (Zv Z4 (Zv Z4 (ZN (zC (ZF Z4 Tryz.results79 (fun w hO => ⟨by rw [Co.may_iff.2 ⟨by omega, by assumption, by assumption, by grind, by grind, by grind, by omega, by omega, by omega⟩], hO.below⟩)))))))
                exact Zh h43 (Zv Z5 (Zv Z5 (Zv Z5 (ZN (zC (ZF Z5 Tryz.results79 (fun w hO => ⟨by rw [show c.may = false from Bool.eq_false_iff.2 fun q0 => by have q1 := Co.may_iff.1 q0; grind], hO.below⟩)))))))
              refine Zh h41 (Zv Z5 (Zv Z5 (Zv Z5 (Zk (Zk (Zk (Zk (Zk (Zk (Zk (Zk ?_)))))))))))
              exact Zk (Zv Z5 (Zv Z5 (ZN (zC (ZF Z5 Tryz.results79 (fun w hO => ⟨by rw [show c.may = false from Bool.eq_false_iff.2 fun q0 => by have q1 := Co.may_iff.1 q0; grind], hO.below⟩))))))
            refine Zh h37 (Zv Z5 (Zv Z5 (Zk (Zk (Zk (Zk (Zk (Zk (Zk (Zk (Zk ?_)))))))))))
            refine Zv Z5 (Zv Z5 (Zk (Zk (Zk (Zk (Zk (Zk (Zk (Zk (Zk (Zv Z5 ?_)))))))))))
            exact Zv Z5 (ZN (zC (ZF Z5 Tryz.results79 (fun w hO => ⟨by rw [show c.may = false from Bool.eq_false_iff.2 fun q0 => by have q1 := Co.may_iff.1 q0; grind], hO.below⟩))))
    refine zV Z4 (by kernel_rfl) (xC (a := c.v.build) (b := ([])) rfl (by kernel_rfl) (by kernel_rfl) (decide_eq_false (h4))) (Zv Z4 (ZY (ZO (Zv Z5 (ZN (zC (z6 ?_)))))))
    exact ZF Z5 Tryz.results79 (fun w hO => ⟨by rw [show c.may = false from Bool.eq_false_iff.2 fun q0 => by have q1 := Co.may_iff.1 q0; grind], hO.below⟩)
  | false =>
    refine Zv Z4 (Zv Z4 (Zv Z4 (Zk (Zk (Zk (Zk (Zv Z4 (ZY (z7 ?_)))))))))
    exact zA (Zv Z5 (ZN (zC (z6 (ZF Z5 Tryz.results79 (fun w hO => ⟨by rw [show c.may = false from Bool.eq_false_iff.2 fun q0 => by have q1 := Co.may_iff.1 q0; grind], hO.below⟩))))))
theorem rcsign_any (op : Int) (W : World) : Calls Tryz.prog 123 #[.int .i64 op] W fun e w' => e = .returned (.string (mkS (yA op))) ∧ Below W.heap.size W w' := by
  refine Z2 (n := 20) Tryz.func123 rfl (ZO (Zv (.string ⟨#[]⟩) (ZN (z7 (ZO (Zv (.int .i64 op) (zO (zB ?_))))))))
  refine zM (z7 (zA ?_))
  by_cases h1 : (op : Int) = 1
  · refine Zg h1 (Zv Z4 (ZY (ZO (Zv (.string ⟨#[61]⟩) (ZN (zC (zG ?_)))))))
    exact z6 (ZF (.string ⟨#[61]⟩) Tryz.results123 (fun w hO => ⟨by unfold yA; simp [h1]; rfl, hO.below⟩))
  refine Zh h1 (Zv Z5 (ZX (z7 (zA ?_))))
  by_cases h2 : (op : Int) = 2
  · refine Zg h2 (Zv Z4 (ZY (ZO (Zv (.string ⟨#[33, 61]⟩) (ZN (zC (zG ?_)))))))
    exact z6 (ZF (.string ⟨#[33, 61]⟩) Tryz.results123 (fun w hO => ⟨by unfold yA; simp [h1, h2]; rfl, hO.below⟩))
  refine Zh h2 (Zv Z5 (ZX (z7 (zA ?_))))
  by_cases h3 : (op : Int) = 3
  · refine Zg h3 (Zv Z4 (ZY (ZO (Zv (.string ⟨#[60]⟩) (ZN (zC (zG ?_)))))))
    exact z6 (ZF (.string ⟨#[60]⟩) Tryz.results123 (fun w hO => ⟨by unfold yA; simp [h1, h2, h3]; rfl, hO.below⟩))
  refine Zh h3 (Zv Z5 (ZX (z7 (zA ?_))))
  by_cases h4 : (op : Int) = 4
  · refine Zg h4 (Zv Z4 (ZY (ZO (Zv (.string ⟨#[60, 61]⟩) (ZN (zC (zG ?_)))))))
    exact z6 (ZF (.string ⟨#[60, 61]⟩) Tryz.results123 (fun w hO => ⟨by unfold yA; simp [h1, h2, h3, h4]; rfl, hO.below⟩))
  refine Zh h4 (Zv Z5 (ZX (z7 (zA ?_))))
  by_cases h5 : (op : Int) = 5
  · refine Zg h5 (Zv Z4 (ZY (ZO (Zv (.string ⟨#[62]⟩) (ZN (zC (zG ?_)))))))
    exact z6 (ZF (.string ⟨#[62]⟩) Tryz.results123 (fun w hO => ⟨by unfold yA; simp [h1, h2, h3, h4, h5]; rfl, hO.below⟩))
  refine Zh h5 (Zv Z5 (ZX (z7 (zA ?_))))
  by_cases h6 : (op : Int) = 6
  · refine Zg h6 (Zv Z4 (ZY (ZO (Zv (.string ⟨#[62, 61]⟩) (ZN (zC (zG ?_)))))))
    exact z6 (ZF (.string ⟨#[62, 61]⟩) Tryz.results123 (fun w hO => ⟨by unfold yA; simp [h1, h2, h3, h4, h5, h6]; rfl, hO.below⟩))
  refine Zh h6 (Zv Z5 (ZX (z7 (zA ?_))))
  by_cases h7 : (op : Int) = 7
  · refine Zg h7 (Zv Z4 (ZY (ZO (Zv (.string ⟨#[94]⟩) (ZN (zC (zG ?_)))))))
    exact z6 (ZF (.string ⟨#[94]⟩) Tryz.results123 (fun w hO => ⟨by unfold yA; simp [h1, h2, h3, h4, h5, h6, h7]; rfl, hO.below⟩))
  refine Zh h7 (Zv Z5 (ZX (z7 (zA ?_))))
  by_cases h8 : (op : Int) = 8
  · refine Zg h8 (Zv Z4 (ZY (ZO (Zv (.string ⟨#[126]⟩) (ZN (zC (zG ?_)))))))
    exact z6 (ZF (.string ⟨#[126]⟩) Tryz.results123 (fun w hO => ⟨by unfold yA; simp [h1, h2, h3, h4, h5, h6, h7, h8]; rfl, hO.below⟩))
  refine Zh h8 (Zv Z5 (ZX (yP (zP (zB (ZO (Zv (.string ⟨#[]⟩) (zO ?_))))))))
  exact zB (zC (ZF (.string ⟨#[]⟩) Tryz.results123 (fun w hO => ⟨by unfold yA; simp [h1, h2, h3, h4, h5, h6, h7, h8]; rfl, hO.below⟩)))
theorem dT (v : Ver) (z0 : Int) (k : Nat) (W : World) (hv : v.short) (hz : z0 = k) (hk : k < 3) : Calls Tryz.prog 146 #[y6 v, .int .i64 z0] W fun e w' => e = .returned (z8 (xW v k)) ∧ Below W.heap.size W w' := by
  have hk0 : xW v k = vZ v z0 := by unfold vZ; rw [hz, if_neg (by omega), Int.toNat_natCast]
  refine Z2 (n := 21) Tryz.func146 rfl (ZO (Zb (y6 v) (fun b1 => Za (.agg ZE) (fun b2 => ZN (z7 (zM (yN (fun L f m => ∃ (z : Int) (j : Nat → Value), (-1 ≤ z ∧ z ≤ 2 ∧ xW v k = vZ v z) ∧ L = [⟨b2, ZE, 78⟩, ⟨b1, (y6 v).cells, 44⟩] ∧ f = xZ j [(1, .int .i64 z), (2, Zp b1 0), (4, Zp b2 0)] ∧ m = (z + 1).toNat) ((z0 + 1).toNat) ⟨z0, _, ⟨by omega, by omega, hk0⟩, rfl, ZU, rfl⟩ ?_)))))))
  rintro L f m ⟨z, j, hrel, rfl, rfl, rfl⟩
  refine z7 (ZO (Zv (.int .i64 z) ?_))
  by_cases h1 : (0 : Int) ≤ z
  · refine Zg h1 (ZY (ZB (z7 (zM (ZO (Zl 1 ⟨b1, (y6 v).cells, 44⟩ (off := 0) (y6 v) (Zv (.int .i64 z) ?_)))))))
    refine Zc (k := 186) (args := #[y6 v, .int .i64 z]) (.tuple #[y6 (yD v z), .bool (y8 v z)]) (fun w _ => rbump_any v z w hv.1 hv.2) (Zv (.tuple #[y6 (yD v z), .bool (y8 v z)]) (Zv (y6 (yD v z)) (Zv (.bool (y8 v z)) (Za (.agg Z7) (fun b3 => Zs 0 ⟨b3, Z7, 44⟩ (off := 0) (y6 (yD v z)) (Zv (.bool (y8 v z)) (ZR (Zv (.bool (y8 v z)) ?_))))))))
    refine zO (zB ?_)
    cases h2 : y8 v z with
    | true =>
      refine Zt (ZO (Zl 0 ⟨b3, (y6 (yD v z)).cells, 44⟩ (off := 0) (y6 (yD v z)) (Zc (k := 142) (args := #[y6 (yD v z)]) (z8 ⟨0, zW (yD v z), false⟩) (fun w _ => vF (yD v z) w (pF v z)) (Zs 1 ⟨b2, ZE, 78⟩ (off := 0) (z8 ⟨0, zW (yD v z), false⟩) (ZN (zC (zG (z6 (y5 ?_)))))))))
      exact zG (z6 (ZC 1 ⟨b2, (z8 ⟨0, zW (yD v z), false⟩).cells, 78⟩ (off := 0) (z8 ⟨0, zW (yD v z), false⟩) Tryz.results146 (fun w hO => ⟨by rw [hrel.2.2, highZ_hit (by omega) (by assumption)]; rw [bump_core], hO.below⟩)))
    | false =>
      exact Zf (yP (zP (zB (zA (Zv (.int .i64 z) (Zu (k := .i64) ((z : Int) - 1) (IntWalk.i64_in _ (by omega)) (Zv (.int .i64 ((z : Int) - 1)) (zO (xB (fun w hO => Own.sub [_] hO) (zS (m' := (z - 1 + 1).toNat) (by omega) ⟨z - 1, _, ⟨by omega, by omega, by rw [hrel.2.2, highZ_next (by omega) (by assumption)]⟩, rfl, ZU, rfl⟩))))))))))
  refine Zh h1 (ZX (y7 (zF (zN (zJ (zB (ZO (Zc (k := 148) (args := #[]) (z8 (zT 1)) (fun w _ => u6 w) ?_))))))))
  exact Zs 0 ⟨b2, ZE, 78⟩ (off := 0) (z8 (zT 1)) (ZN (zC (ZC 0 ⟨b2, (z8 (zT 1)).cells, 78⟩ (off := 0) (z8 (zT 1)) Tryz.results146 (fun w hO => ⟨by rw [hrel.2.2]; unfold vZ; rw [if_pos (by omega)], hO.below⟩))))
theorem rcturns_any (c : Co) (W : World) (hc : c.short) : Calls Tryz.prog 149 #[coV c] W fun e w' => e = .returned (.int .i64 ((g9 c : Nat) : Int)) ∧ Below W.heap.size W w' := by
  refine Z2 (n := 21) Tryz.func149 rfl (ZO (Zb (coV c) (fun b1 => Zv (.int .i64 0) (ZN (z7 (ZO (Zv (Zp b1 2) (Zv (Zp b1 2) ?_))))))))
  refine Zl 0 ⟨b1, (coV c).cells, 51⟩ (off := 2) (.int .i64 c.v.maj) ?_
  by_cases h1 : (0 : Int) < c.v.maj
  · refine Zg h1 (Zv Z4 (Zk (Zk (Zk (Zv Z4 (ZY (ZO (Zv (.int .i64 0) ?_))))))))
    exact ZN (zC (z6 (ZF (.int .i64 0) Tryz.results149 (fun w hO => ⟨by rw [show g9 c = 0 from by unfold g9; grind]; rfl, hO.below⟩))))
  refine Zh h1 (Zv Z5 (Zv (Zp b1 1) (Zl 0 ⟨b1, (coV c).cells, 51⟩ (off := 1) (.int .i64 c.parts) ?_)))
  by_cases h2 : (c.parts : Int) = 1
  · refine Zg h2 (Zv Z4 (ZY (ZO (Zv (.int .i64 0) (ZN (zC (z6 ?_)))))))
    exact ZF (.int .i64 0) Tryz.results149 (fun w hO => ⟨by rw [show g9 c = 0 from by unfold g9; grind]; rfl, hO.below⟩)
  refine Zh h2 (Zv Z5 (ZX (ZB (z7 (ZO (Zv (Zp b1 2) (Zv (Zp b1 3) ?_)))))))
  refine Zl 0 ⟨b1, (coV c).cells, 51⟩ (off := 3) (.int .i64 c.v.min) ?_
  by_cases h3 : (0 : Int) < c.v.min
  · refine Zg h3 (Zv Z4 (Zk (Zk (Zk (Zv Z4 (ZY (ZO (Zv (.int .i64 1) ?_))))))))
    exact ZN (zC (z6 (ZF (.int .i64 1) Tryz.results149 (fun w hO => ⟨by rw [show g9 c = 1 from by unfold g9; grind]; rfl, hO.below⟩))))
  refine Zh h3 (Zv Z5 (Zv (Zp b1 1) (Zl 0 ⟨b1, (coV c).cells, 51⟩ (off := 1) (.int .i64 c.parts) ?_)))
  by_cases h4 : (c.parts : Int) = 2
  · refine Zg h4 (Zv Z4 (ZY (ZO (Zv (.int .i64 1) (ZN (zC (z6 ?_)))))))
    exact ZF (.int .i64 1) Tryz.results149 (fun w hO => ⟨by rw [show g9 c = 1 from by unfold g9; grind]; rfl, hO.below⟩)
  refine Zh h4 (Zv Z5 (ZX (ZB (ZO (Zv (.int .i64 2) (zO (zB ?_)))))))
  exact zC (ZF (.int .i64 2) Tryz.results149 (fun w hO => ⟨by rw [show g9 c = 2 from by unfold g9; grind]; rfl, hO.below⟩))
theorem rcspan_any (c : Co) (W : World) (hc : c.short) (hm : c.may = true) : Calls Tryz.prog 93 #[coV c] W fun e w' => e = .returned (.tuple #[z8 c.span.1, z8 c.span.2]) ∧ Below W.heap.size W w' := by
  obtain ⟨ho, _, _, h9, hn, _⟩ := Co.facts hm
  refine Z2 (n := 77) Tryz.func93 rfl (ZO (Zb (coV c) (fun b1 => Za (.agg ZE) (fun b2 => Za (.agg ZE) (fun b3 => ZN (z7 (jS (fun L f => ∃ (p4 : Nat) (j : Nat → Value), L = [⟨p4, (z8 c.low).cells, 78⟩, ⟨b3, ZE, 78⟩, ⟨b2, ZE, 78⟩, ⟨b1, (coV c).cells, 51⟩] ∧ f = xZ j [(1, Zp b1 0), (2, Zp b2 0), (3, Zp b3 0), (4, Zp p4 0), (5, .int .i64 ((c.parts : Int) - 1))]) ?_ ?_)))))))
  · refine j0 (by kernel_rfl) (ZT 0 [] _ (Zp b1 2) yE rfl (ZL 1 [] _ 2 ⟨b1, (coV c).cells, 51⟩ (off := 2) (.agg (ZP c.v)) yE rfl rfl (ZT 3 [] _ (Zp b1 1) yE rfl (ZL 4 [] _ 2 ⟨b1, (coV c).cells, 51⟩ (off := 1) (.int .i64 c.parts) yE rfl rfl (hl_sum (k := .i64) 5 _ ((c.parts : Int) - 1) rfl (by kernel_rfl) (by kernel_rfl) (by kernel_rfl) yE (fun w hO => Own.sub [] hO) (by kernel_rfl) (fun _ => by kernel_rfl) (IntWalk.i64_in _ (by omega)) (uR 2 6 (by kernel_rfl) ?_ ?_))))))
    · exact Zx [] _ (k := 142) (args := #[.agg (ZP c.v)]) (z8 c.low) rfl (fun w _ => vF c.v w hc) (Zz 6 (Zy [] _ (.agg ZE) rfl rfl (fun b4 => Zz 7 (ZS [⟨b4, ZE, 78⟩] _ 0 ⟨b4, ZE, 78⟩ (off := 0) (z8 c.low) rfl rfl (ZT 8 [⟨b4, (z8 c.low).cells, 78⟩] _ (.int .i64 ((c.parts : Int) - 1)) yE rfl (ZZ (yL ⟨b4, _, rfl, ZU⟩)))))))
    exact Zy [] _ (.agg ZE) rfl rfl (fun b4 => Zz 2 (Zx [⟨b4, ZE, 78⟩] _ (k := 142) (args := #[.agg (ZP c.v)]) (z8 c.low) rfl (fun w _ => vF c.v w hc) (Zz 7 (ZS [⟨b4, ZE, 78⟩] _ 0 ⟨b4, ZE, 78⟩ (off := 0) (z8 c.low) rfl rfl (ZT 8 [⟨b4, (z8 c.low).cells, 78⟩] _ (.int .i64 ((c.parts : Int) - 1)) yE rfl (ZZ (yL ⟨b4, _, rfl, ZU⟩)))))))
  · rintro L f ⟨p4, j, rfl, rfl⟩
    refine zB (ZO (Zv (Zp b1 2) (Zl 3 ⟨b1, (coV c).cells, 51⟩ (off := 2) (.agg (ZP c.v)) (Zc (k := 145) (args := #[.agg (ZP c.v)]) (z8 ⟨0, zW c.v, true⟩) (fun w _ => rbehindC_any c.v w hc) (Za (.agg ZE) (fun b5 => Zs 0 ⟨b5, ZE, 78⟩ (off := 0) (z8 ⟨0, zW c.v, true⟩) (qJ (L' := [⟨b3, ZE, 78⟩, ⟨b2, ZE, 78⟩, ⟨b5, (z8 ⟨0, zW c.v, true⟩).cells, 78⟩, ⟨p4, (z8 c.low).cells, 78⟩, ⟨b1, (coV c).cells, 51⟩]) (fun w hO => hO.perm ((List.perm_append_comm (l₁ := [_, _]) (l₂ := [_, _])).append_right [_])) (ZN (z7 ?_)))))))))
    refine z7 (jS (fun L f => ∃ (j : Nat → Value), L = [⟨b3, ZE, 78⟩, ⟨b2, ZE, 78⟩, ⟨b5, (z8 ⟨0, zW c.v, true⟩).cells, 78⟩, ⟨p4, (z8 c.low).cells, 78⟩, ⟨b1, (coV c).cells, 51⟩] ∧ f = xZ j [(1, Zp b1 0), (2, Zp b2 0), (3, Zp b3 0), (4, Zp p4 0), (5, .int .i64 ((c.parts : Int) - 1)), (6, Zp b5 0), (23, .bool (decide (c.parts < 3 ∧ 0 < c.parts)))]) ?_ ?_)
    · refine zA (Zv (Zp b1 1) (Zl 4 ⟨b1, (coV c).cells, 51⟩ (off := 1) (.int .i64 c.parts) ?_))
      by_cases h1 : (c.parts : Int) < 3
      · refine Zg h1 (Zv Z4 (Zv (Zp b1 1) (Zl 4 ⟨b1, (coV c).cells, 51⟩ (off := 1) (.int .i64 c.parts) ?_)))
        by_cases h2 : (0 : Int) < c.parts
        · exact Zg h2 (Zv Z4 (zO (yL ⟨_, rfl, by rw [decide_eq_true (show (c.parts < 3 ∧ 0 < c.parts) by omega)]; exact ZU⟩)))
        exact Zh h2 (Zv Z5 (zO (yL ⟨_, rfl, by rw [decide_eq_false (show ¬ (c.parts < 3 ∧ 0 < c.parts) by omega)]; exact ZU⟩)))
      exact Zh h1 (Zv Z5 (Zk (Zk (Zk (Zv Z5 (zO (yL ⟨_, rfl, by rw [decide_eq_false (show ¬ (c.parts < 3 ∧ 0 < c.parts) by omega)]; exact ZU⟩)))))))
    · rintro L f ⟨j, rfl, rfl⟩
      refine zB (jS (fun L f => ∃ (j : Nat → Value), L = [⟨b3, ZE, 78⟩, ⟨b2, ZE, 78⟩, ⟨b5, (z8 c.aft).cells, 78⟩, ⟨p4, (z8 c.low).cells, 78⟩, ⟨b1, (coV c).cells, 51⟩] ∧ f = xZ j [(1, Zp b1 0), (2, Zp b2 0), (3, Zp b3 0), (4, Zp p4 0), (5, .int .i64 ((c.parts : Int) - 1)), (6, Zp b5 0)]) ?_ ?_)
      · cases h3 : decide (c.parts < 3 ∧ 0 < c.parts) with
        | true =>
          have hpp := of_decide_eq_true h3
          exact Zt (zA (Zv (Zp b1 2) (Zl 4 ⟨b1, (coV c).cells, 51⟩ (off := 2) (.agg (ZP c.v)) (Zv (.int .i64 ((c.parts : Int) - 1)) (Zc (k := 146) (args := #[.agg (ZP c.v), .int .i64 ((c.parts : Int) - 1)]) (z8 (xW c.v (c.parts - 1).toNat)) (fun w _ => dT c.v ((c.parts : Int) - 1) (c.parts - 1).toNat w hc (by omega) (by omega)) (Zs 2 ⟨b5, (z8 ⟨0, zW c.v, true⟩).cells, 78⟩ (off := 0) (z8 (xW c.v (c.parts - 1).toNat)) (zO (yL ⟨_, by rw [show c.aft = _ from if_pos (hpp)]; kernel_rfl, ZU⟩))))))))
        | false =>
          have hpp := of_decide_eq_false h3
          exact Zf (yP (yL ⟨_, by rw [show c.aft = _ from if_neg (hpp)], ZU⟩))
      · rintro L f ⟨j, rfl, rfl⟩
        refine zB (z7 (ZO (Zv (Zp b1 0) (Zl 4 ⟨b1, (coV c).cells, 51⟩ (off := 0) (.int .i64 c.op) (ZN (zM (z7 (z7 (zA ?_)))))))))
        by_cases h4 : (c.op : Int) = 1
        · refine Zg h4 (Zv Z4 (ZY (ZB (Zt (z7 (xE ([⟨b5, (z8 c.aft).cells, 78⟩, ⟨p4, (z8 c.low).cells, 78⟩, ⟨b1, (coV c).cells, 51⟩]) (by kernel_rfl) (fun w hO => Own.sub [⟨b3, ZE, 78⟩, ⟨b2, ZE, 78⟩] hO) (ZL 0 [⟨b3, ZE, 78⟩, ⟨b2, ZE, 78⟩] _ 1 ⟨p4, (z8 c.low).cells, 78⟩ (off := 0) (z8 c.low) (zD (zI (zD zH))) rfl rfl (ZL 1 [⟨b3, ZE, 78⟩, ⟨b2, ZE, 78⟩] _ 0 ⟨b5, (z8 c.aft).cells, 78⟩ (off := 0) (z8 c.aft) (zD (zI (zD zH))) rfl rfl ?_))))))))
          exact Zz 2 (ZS [⟨b3, ZE, 78⟩, ⟨b2, ZE, 78⟩] _ 1 ⟨b2, ZE, 78⟩ (off := 0) (z8 c.low) rfl rfl (Zz 3 (ZS [⟨b3, ZE, 78⟩, ⟨b2, (z8 c.low).cells, 78⟩] _ 0 ⟨b3, ZE, 78⟩ (off := 0) (z8 c.aft) rfl rfl (ZZ (zB (zC (zG (z6 (ZH 1 0 ⟨b2, (z8 c.low).cells, 78⟩ ⟨b3, (z8 c.aft).cells, 78⟩ (off := 0) (oft := 0) (z8 c.low) (z8 c.aft) Tryz.results93 (fun w hO => ⟨by rw [show c.span = (c.low, c.aft) from by unfold Co.span; simp [h4]], hO.below⟩))))))))))
        refine Zh h4 (Zv Z5 (ZX (zA ?_)))
        by_cases h5 : (c.op : Int) = 2
        · refine Zg h5 (Zv Z4 (ZY (z7 (xE ([⟨b5, (z8 c.aft).cells, 78⟩, ⟨p4, (z8 c.low).cells, 78⟩, ⟨b1, (coV c).cells, 51⟩]) (by kernel_rfl) (fun w hO => Own.sub [⟨b3, ZE, 78⟩, ⟨b2, ZE, 78⟩] hO) (ZL 0 [⟨b3, ZE, 78⟩, ⟨b2, ZE, 78⟩] _ 1 ⟨p4, (z8 c.low).cells, 78⟩ (off := 0) (z8 c.low) (zD (zI (zD zH))) rfl rfl (ZL 1 [⟨b3, ZE, 78⟩, ⟨b2, ZE, 78⟩] _ 0 ⟨b5, (z8 c.aft).cells, 78⟩ (off := 0) (z8 c.aft) (zD (zI (zD zH))) rfl rfl (Zz 2 (ZS [⟨b3, ZE, 78⟩, ⟨b2, ZE, 78⟩] _ 1 ⟨b2, ZE, 78⟩ (off := 0) (z8 c.low) rfl rfl (Zz 3 ?_)))))))))
          exact ZS [⟨b3, ZE, 78⟩, ⟨b2, (z8 c.low).cells, 78⟩] _ 0 ⟨b3, ZE, 78⟩ (off := 0) (z8 c.aft) rfl rfl (ZZ (zB (zC (zG (z6 (ZH 1 0 ⟨b2, (z8 c.low).cells, 78⟩ ⟨b3, (z8 c.aft).cells, 78⟩ (off := 0) (oft := 0) (z8 c.low) (z8 c.aft) Tryz.results93 (fun w hO => ⟨by rw [show c.span = (c.low, c.aft) from by unfold Co.span; simp [h4, h5]], hO.below⟩)))))))
        refine Zh h5 (Zv Z5 (ZX (z7 (zA ?_))))
        by_cases h6 : (c.op : Int) = 3
        · refine Zg h6 (Zv Z4 (ZY (z7 (xE ([⟨b5, (z8 c.aft).cells, 78⟩, ⟨p4, (z8 c.low).cells, 78⟩, ⟨b1, (coV c).cells, 51⟩]) (by kernel_rfl) (fun w hO => Own.sub [⟨b3, ZE, 78⟩, ⟨b2, ZE, 78⟩] hO) (ZL 1 [⟨b3, ZE, 78⟩, ⟨b2, ZE, 78⟩] _ 1 ⟨p4, (z8 c.low).cells, 78⟩ (off := 0) (z8 c.low) (zD (zI (zD zH))) rfl rfl (Zz 0 (Zx [⟨b3, ZE, 78⟩, ⟨b2, ZE, 78⟩] _ (k := 147) (args := #[]) (z8 (zT (-1))) rfl (fun w _ => u7 w) (Zz 2 (ZS [⟨b3, ZE, 78⟩, ⟨b2, ZE, 78⟩] _ 1 ⟨b2, ZE, 78⟩ (off := 0) (z8 (zT (-1))) rfl rfl ?_)))))))))
          exact Zz 3 (ZS [⟨b3, ZE, 78⟩, ⟨b2, (z8 (zT (-1))).cells, 78⟩] _ 0 ⟨b3, ZE, 78⟩ (off := 0) (z8 c.low) rfl rfl (ZZ (zB (zC (zG (z6 (ZH 1 0 ⟨b2, (z8 (zT (-1))).cells, 78⟩ ⟨b3, (z8 c.low).cells, 78⟩ (off := 0) (oft := 0) (z8 (zT (-1))) (z8 c.low) Tryz.results93 (fun w hO => ⟨by rw [show c.span = ((zT (-1)), c.low) from by unfold Co.span; simp [h4, h5, h6]], hO.below⟩))))))))
        refine Zh h6 (Zv Z5 (ZX (z7 (zA ?_))))
        by_cases h7 : (c.op : Int) = 4
        · refine Zg h7 (Zv Z4 (ZY (z7 (xE ([⟨b5, (z8 c.aft).cells, 78⟩, ⟨p4, (z8 c.low).cells, 78⟩, ⟨b1, (coV c).cells, 51⟩]) (by kernel_rfl) (fun w hO => Own.sub [⟨b3, ZE, 78⟩, ⟨b2, ZE, 78⟩] hO) (ZL 1 [⟨b3, ZE, 78⟩, ⟨b2, ZE, 78⟩] _ 0 ⟨b5, (z8 c.aft).cells, 78⟩ (off := 0) (z8 c.aft) (zD (zI (zD zH))) rfl rfl (Zz 0 (Zx [⟨b3, ZE, 78⟩, ⟨b2, ZE, 78⟩] _ (k := 147) (args := #[]) (z8 (zT (-1))) rfl (fun w _ => u7 w) (Zz 2 (ZS [⟨b3, ZE, 78⟩, ⟨b2, ZE, 78⟩] _ 1 ⟨b2, ZE, 78⟩ (off := 0) (z8 (zT (-1))) rfl rfl ?_)))))))))
          exact Zz 3 (ZS [⟨b3, ZE, 78⟩, ⟨b2, (z8 (zT (-1))).cells, 78⟩] _ 0 ⟨b3, ZE, 78⟩ (off := 0) (z8 c.aft) rfl rfl (ZZ (zB (zC (zG (z6 (ZH 1 0 ⟨b2, (z8 (zT (-1))).cells, 78⟩ ⟨b3, (z8 c.aft).cells, 78⟩ (off := 0) (oft := 0) (z8 (zT (-1))) (z8 c.aft) Tryz.results93 (fun w hO => ⟨by rw [show c.span = ((zT (-1)), c.aft) from by unfold Co.span; simp [h4, h5, h6, h7]], hO.below⟩))))))))
        refine Zh h7 (Zv Z5 (ZX (z7 (zA ?_))))
        by_cases h8 : (c.op : Int) = 5
        · refine Zg h8 (Zv Z4 (ZY (z7 (tA 2 (by kernel_rfl) (by kernel_rfl) (by kernel_rfl) ?_))))
          simp only [List.take_succ_cons, List.take_zero, List.drop_succ_cons, List.drop_zero]
          exact Zm 2 ⟨b5, (z8 c.aft).cells, 78⟩ (off := 0) (z8 c.aft) (Zq (k := 148) (args := #[]) (z8 (zT 1)) (fun w _ => u6 w) (kP (Zs 1 ⟨b2, ZE, 78⟩ (off := 0) (z8 c.aft) (Zs 0 ⟨b3, ZE, 78⟩ (off := 0) (z8 (zT 1)) (ZN (zC (zG (z6 (ZH 1 0 ⟨b2, (z8 c.aft).cells, 78⟩ ⟨b3, (z8 (zT 1)).cells, 78⟩ (off := 0) (oft := 0) (z8 c.aft) (z8 (zT 1)) Tryz.results93 (fun w hO => ⟨by rw [show c.span = (c.aft, (zT 1)) from by unfold Co.span; simp [h4, h5, h6, h7, h8]], hO.below⟩))))))))))
        refine Zh h8 (Zv Z5 (ZX (z7 (zA ?_))))
        by_cases h9 : (c.op : Int) = 6
        · refine Zg h9 (Zv Z4 (ZY (z7 (tA 2 (by kernel_rfl) (by kernel_rfl) (by kernel_rfl) ?_))))
          simp only [List.take_succ_cons, List.take_zero, List.drop_succ_cons, List.drop_zero]
          exact Zm 3 ⟨p4, (z8 c.low).cells, 78⟩ (off := 0) (z8 c.low) (Zq (k := 148) (args := #[]) (z8 (zT 1)) (fun w _ => u6 w) (kP (Zs 1 ⟨b2, ZE, 78⟩ (off := 0) (z8 c.low) (Zs 0 ⟨b3, ZE, 78⟩ (off := 0) (z8 (zT 1)) (ZN (zC (zG (z6 (ZH 1 0 ⟨b2, (z8 c.low).cells, 78⟩ ⟨b3, (z8 (zT 1)).cells, 78⟩ (off := 0) (oft := 0) (z8 c.low) (z8 (zT 1)) Tryz.results93 (fun w hO => ⟨by rw [show c.span = (c.low, (zT 1)) from by unfold Co.span; simp [h4, h5, h6, h7, h8, h9]], hO.below⟩))))))))))
        refine Zh h9 (Zv Z5 (ZX (z7 (zA ?_))))
        by_cases h10 : (c.op : Int) = 7
        · refine Zg h10 (Zv Z4 (ZY (z7 (xE ([⟨b5, (z8 c.aft).cells, 78⟩, ⟨p4, (z8 c.low).cells, 78⟩, ⟨b1, (coV c).cells, 51⟩]) (by kernel_rfl) (fun w hO => Own.sub [⟨b3, ZE, 78⟩, ⟨b2, ZE, 78⟩] hO) (ZL 0 [⟨b3, ZE, 78⟩, ⟨b2, ZE, 78⟩] _ 1 ⟨p4, (z8 c.low).cells, 78⟩ (off := 0) (z8 c.low) (zD (zI (zD zH))) rfl rfl (ZT 1 [⟨b3, ZE, 78⟩, ⟨b2, ZE, 78⟩] _ (Zp b1 2) (zD (zI (zD zH))) rfl (ZL 2 [⟨b3, ZE, 78⟩, ⟨b2, ZE, 78⟩] _ 2 ⟨b1, (coV c).cells, 51⟩ (off := 2) (.agg (ZP c.v)) (zD (zI (zD zH))) rfl rfl (ZL 3 [⟨b3, ZE, 78⟩, ⟨b2, ZE, 78⟩] _ 2 ⟨b1, (coV c).cells, 51⟩ (off := 0) (coV c) (zD (zI (zD zH))) rfl rfl (Zz 4 ?_)))))))))
          refine Zx [⟨b3, ZE, 78⟩, ⟨b2, ZE, 78⟩] _ (k := 149) (args := #[coV c]) (.int .i64 ((g9 c : Nat) : Int)) rfl (fun w _ => rcturns_any c w hc) (Zz 5 (Zx [⟨b3, ZE, 78⟩, ⟨b2, ZE, 78⟩] _ (k := 146) (args := #[.agg (ZP c.v), .int .i64 ((g9 c : Nat) : Int)]) (z8 (xW c.v (g9 c))) rfl (fun w _ => dT c.v (((g9 c : Nat) : Int)) (g9 c) w hc (by omega) (turns_lt c)) (Zz 6 (ZS [⟨b3, ZE, 78⟩, ⟨b2, ZE, 78⟩] _ 1 ⟨b2, ZE, 78⟩ (off := 0) (z8 c.low) rfl rfl (Zz 7 (ZS [⟨b3, ZE, 78⟩, ⟨b2, (z8 c.low).cells, 78⟩] _ 0 ⟨b3, ZE, 78⟩ (off := 0) (z8 (xW c.v (g9 c))) rfl rfl (ZZ (zB (zC (zG (z6 ?_)))))))))))
          exact ZH 1 0 ⟨b2, (z8 c.low).cells, 78⟩ ⟨b3, (z8 (xW c.v (g9 c))).cells, 78⟩ (off := 0) (oft := 0) (z8 c.low) (z8 (xW c.v (g9 c))) Tryz.results93 (fun w hO => ⟨by rw [show c.span = (c.low, (xW c.v (g9 c))) from by unfold Co.span; simp [h4, h5, h6, h7, h8, h9, h10]], hO.below⟩)
        refine Zh h10 (Zv Z5 (ZX (z7 (zA ?_))))
        by_cases h11 : (c.op : Int) = 8
        · refine Zg h11 (Zv Z4 (ZY (z7 (xE ([⟨b5, (z8 c.aft).cells, 78⟩, ⟨p4, (z8 c.low).cells, 78⟩, ⟨b1, (coV c).cells, 51⟩]) (by kernel_rfl) (fun w hO => Own.sub [⟨b3, ZE, 78⟩, ⟨b2, ZE, 78⟩] hO) (ZL 0 [⟨b3, ZE, 78⟩, ⟨b2, ZE, 78⟩] _ 1 ⟨p4, (z8 c.low).cells, 78⟩ (off := 0) (z8 c.low) (zD (zI (zD zH))) rfl rfl (ZT 1 [⟨b3, ZE, 78⟩, ⟨b2, ZE, 78⟩] _ (Zp b1 2) (zD (zI (zD zH))) rfl (ZL 2 [⟨b3, ZE, 78⟩, ⟨b2, ZE, 78⟩] _ 2 ⟨b1, (coV c).cells, 51⟩ (off := 2) (.agg (ZP c.v)) (zD (zI (zD zH))) rfl rfl (ZT 3 [⟨b3, ZE, 78⟩, ⟨b2, ZE, 78⟩] _ (.int .i64 ((c.parts : Int) - 1)) (zD (zI (zD zH))) rfl (vS 4 [⟨b3, ZE, 78⟩, ⟨b2, ZE, 78⟩] _ (.int .i64 (min ((c.parts : Int) - 1) (1 : Int))) rfl (by kernel_rfl) (by kernel_rfl) (by kernel_rfl) (zD (zI (zD zH))) (by kernel_rfl) (fun w _ => run_min2 (k := .i64) (q := .i64) (i := (c.parts : Int) - 1) (j := 1) rfl (by kernel_rfl) (by kernel_rfl) w) ?_)))))))))
          refine Zz 5 (Zx [⟨b3, ZE, 78⟩, ⟨b2, ZE, 78⟩] _ (k := 146) (args := #[.agg (ZP c.v), .int .i64 (min ((c.parts : Int) - 1) (1 : Int))]) (z8 (xW c.v (min (c.parts - 1) 1).toNat)) rfl (fun w _ => dT c.v (min ((c.parts : Int) - 1) (1 : Int)) (min (c.parts - 1) 1).toNat w hc (by omega) (by omega)) (Zz 6 (ZS [⟨b3, ZE, 78⟩, ⟨b2, ZE, 78⟩] _ 1 ⟨b2, ZE, 78⟩ (off := 0) (z8 c.low) rfl rfl (Zz 7 (ZS [⟨b3, ZE, 78⟩, ⟨b2, (z8 c.low).cells, 78⟩] _ 0 ⟨b3, ZE, 78⟩ (off := 0) (z8 (xW c.v (min (c.parts - 1) 1).toNat)) rfl rfl (ZZ (zB (zC (zG (z6 (ZH 1 0 ⟨b2, (z8 c.low).cells, 78⟩ ⟨b3, (z8 (xW c.v (min (c.parts - 1) 1).toNat)).cells, 78⟩ (off := 0) (oft := 0) (z8 c.low) (z8 (xW c.v (min (c.parts - 1) 1).toNat)) Tryz.results93 ?_)))))))))))
          exact fun w hO => ⟨by rw [show c.span = (c.low, (xW c.v (min (c.parts - 1) 1).toNat)) from by unfold Co.span; simp [h4, h5, h6, h7, h8, h9, h10, h11]], hO.below⟩
        refine Zh h11 (Zv Z5 (ZX (yP (zP (zB (z7 (ZO (Zv (Zp b1 1) ?_))))))))
        refine Zl 4 ⟨b1, (coV c).cells, 51⟩ (off := 1) (.int .i64 c.parts) ?_
        by_cases h12 : (c.parts : Int) = 0
        · refine Zg h12 (ZY (ZO (Zc (k := 147) (args := #[]) (z8 (zT (-1))) (fun w _ => u7 w) (Zc (k := 148) (args := #[]) (z8 (zT 1)) (fun w _ => u6 w) (Zs 1 ⟨b2, ZE, 78⟩ (off := 0) (z8 (zT (-1))) (Zs 0 ⟨b3, ZE, 78⟩ (off := 0) (z8 (zT 1)) (zO (zB ?_))))))))
          exact zC (z6 (ZH 1 0 ⟨b2, (z8 (zT (-1))).cells, 78⟩ ⟨b3, (z8 (zT 1)).cells, 78⟩ (off := 0) (oft := 0) (z8 (zT (-1))) (z8 (zT 1)) Tryz.results93 (fun w hO => ⟨by rw [show c.span = ((zT (-1)), (zT 1)) from by unfold Co.span; simp [h4, h5, h6, h7, h8, h9, h10, h11, h12]], hO.below⟩)))
        refine Zh h12 (ZX (ZB (z7 (xE ([⟨b5, (z8 c.aft).cells, 78⟩, ⟨p4, (z8 c.low).cells, 78⟩, ⟨b1, (coV c).cells, 51⟩]) (by kernel_rfl) (fun w hO => Own.sub [⟨b3, ZE, 78⟩, ⟨b2, ZE, 78⟩] hO) (ZL 0 [⟨b3, ZE, 78⟩, ⟨b2, ZE, 78⟩] _ 1 ⟨p4, (z8 c.low).cells, 78⟩ (off := 0) (z8 c.low) (zD zH) rfl rfl (ZT 1 [⟨b3, ZE, 78⟩, ⟨b2, ZE, 78⟩] _ (Zp b1 2) (zD zH) rfl (ZL 2 [⟨b3, ZE, 78⟩, ⟨b2, ZE, 78⟩] _ 2 ⟨b1, (coV c).cells, 51⟩ (off := 2) (.agg (ZP c.v)) (zD zH) rfl rfl (ZT 3 [⟨b3, ZE, 78⟩, ⟨b2, ZE, 78⟩] _ (.int .i64 ((c.parts : Int) - 1)) (zD zH) rfl ?_))))))))
        exact Zz 4 (Zx [⟨b3, ZE, 78⟩, ⟨b2, ZE, 78⟩] _ (k := 146) (args := #[.agg (ZP c.v), .int .i64 ((c.parts : Int) - 1)]) (z8 (xW c.v (c.parts - 1).toNat)) rfl (fun w _ => dT c.v ((c.parts : Int) - 1) (c.parts - 1).toNat w hc (by omega) (by omega)) (Zz 5 (ZS [⟨b3, ZE, 78⟩, ⟨b2, ZE, 78⟩] _ 1 ⟨b2, ZE, 78⟩ (off := 0) (z8 c.low) rfl rfl (Zz 6 (ZS [⟨b3, ZE, 78⟩, ⟨b2, (z8 c.low).cells, 78⟩] _ 0 ⟨b3, ZE, 78⟩ (off := 0) (z8 (xW c.v (c.parts - 1).toNat)) rfl rfl (ZZ (zB (zC (ZH 1 0 ⟨b2, (z8 c.low).cells, 78⟩ ⟨b3, (z8 (xW c.v (c.parts - 1).toNat)).cells, 78⟩ (off := 0) (oft := 0) (z8 c.low) (z8 (xW c.v (c.parts - 1).toNat)) Tryz.results93 (fun w hO => ⟨by rw [show c.span = (c.low, (xW c.v (c.parts - 1).toNat)) from by unfold Co.span; simp [h4, h5, h6, h7, h8, h9, h10, h11, h12]], hO.below⟩))))))))))
end
section
theorem slit6 (s : Sp) (b : Nat) (cur : Array Value) (h : cur.toList = yJ s) : SlS (.slice (some ⟨b, 0, none⟩) 1 1) [s] [⟨b, cur, 80⟩] := by
  have e : ([s] : List Sp).flatMap yJ = yJ s := List.append_nil _
  have hc : cur.toList.length = 14 := by rw [h]; rfl
  refine ⟨by rw [e]; rfl, .inr ⟨b, 1, cur, rfl, rfl, Nat.le_refl _, by decide, by rw [← Array.length_toList, hc], ?_⟩⟩
  rw [e, h]
  exact List.take_of_length_le (Nat.le_refl 14)
theorem high_short (v : Ver) (k : Nat) : (xW v k).short := by
  induction k with
  | zero =>
    unfold xW
    split
    · exact pF v 0
    · exact ⟨Nat.zero_le _, Nat.zero_le _⟩
  | succ k ih =>
    unfold xW
    split
    · exact pF v _
    · exact ih
theorem dO {c : Co} (h : c.short) : c.span.1.short ∧ c.span.2.short := by
  have hl : c.low.short := core_short h
  have he : ∀ e : Int, (zT e).short := fun e => ⟨Nat.zero_le _, Nat.zero_le _⟩
  have ha : c.aft.short := by
    unfold Co.aft
    split
    · exact high_short _ _
    · exact core_short h
  have hh := fun k => high_short c.v k
  unfold Co.span
  repeat' split
  all_goals exact ⟨by first | exact hl | exact ha | exact he _ | exact hh _, by first | exact hl | exact ha | exact he _ | exact hh _⟩
theorem qL (lo hi : Cu) : kI lo hi = if zQ lo hi < 0 then [⟨lo, hi⟩] else [] := by
  unfold kI gY
  by_cases h : zQ lo hi < 0
  · rw [if_pos (wA h), if_pos h]; rfl
  · rw [if_neg (fun q => h (uQ q)), if_neg h]
theorem rcZone_any (c : Co) (W : World) (hc : c.short) : Calls Tryz.prog 88 #[coV c] W fun e w' => ∃ v' ob', e = .returned v' ∧ SlS v' c.zone ob' ∧ Own [] W w' ob' := by
  have hl1 : ({ c.v with pre := [48] } : Ver).short := ⟨by show ([48] : List UInt8).length ≤ _; decide, hc.2⟩
  have hb1 : ({ c.v with pre := [] } : Ver).short := ⟨Nat.zero_le _, hc.2⟩
  refine Z2 (n := 25) Tryz.func88 rfl (ZO (Zb (coV c) (fun b1 => Zv (.slice none 0 0) (ZN (z7 (ZO (Zl 0 ⟨b1, (coV c).cells, 51⟩ (off := 0) (coV c) (Zc (k := 79) (args := #[coV c]) (.bool c.may) (fun w _ => mF c w hc) ?_))))))))
  cases h1 : c.may with
  | true =>
    refine Zv Z5 (Zv Z5 (Zv (Zp b1 2) (Zv (Zp b1 5) (Zl 0 ⟨b1, (coV c).cells, 51⟩ (off := 5) (.string (mkS c.v.pre)) ?_))))
    by_cases h2 : (c.v.pre : List UInt8) = []
    · refine zV Z4 (by kernel_rfl) (yM (a := c.v.pre) (b := ([])) rfl (by kernel_rfl) (by kernel_rfl) (decide_eq_true (h2))) (Zv Z4 (ZY (ZO (Zv (.slice none 0 0) (ZN (zC (z6 ?_)))))))
      exact ZF (.slice none 0 0) Tryz.results88 (fun w hO => ⟨_, [], rfl, by rw [show c.zone = [] from by unfold Co.zone; simp [h1, h2]]; exact Sl.nil _ _, kK hO⟩)
    refine zV Z5 (by kernel_rfl) (yM (a := c.v.pre) (b := ([])) rfl (by kernel_rfl) (by kernel_rfl) (decide_eq_false (h2))) (Zv Z5 (ZX (ZB (ZO (Zv (Zp b1 2) (Zl 0 ⟨b1, (coV c).cells, 51⟩ (off := 2) (.agg (ZP c.v)) (Za (.agg Z7) (fun b2 => ?_))))))))
    refine Zs 0 ⟨b2, Z7, 44⟩ (off := 0) (.agg (ZP c.v)) (ZR (Zv (Zp b2 3) (Zs 0 ⟨b2, (ZP c.v), 44⟩ (off := 3) (.string ⟨#[]⟩) (ZR (Zl 0 ⟨b2, #[.int .i64 c.v.maj, .int .i64 c.v.min, .int .i64 c.v.pat, .string ⟨#[]⟩, .string (mkS c.v.build)], 44⟩ (off := 0) (.agg #[.int .i64 c.v.maj, .int .i64 c.v.min, .int .i64 c.v.pat, .string ⟨#[]⟩, .string (mkS c.v.build)]) ?_)))))
    refine Za (.agg Z7) (fun b3 => Zs 0 ⟨b3, Z7, 44⟩ (off := 0) (.agg #[.int .i64 c.v.maj, .int .i64 c.v.min, .int .i64 c.v.pat, .string ⟨#[]⟩, .string (mkS c.v.build)]) (ZR (Zv (Zp b3 3) (Zs 0 ⟨b3, #[.int .i64 c.v.maj, .int .i64 c.v.min, .int .i64 c.v.pat, .string ⟨#[]⟩, .string (mkS c.v.build)], 44⟩ (off := 3) (.string ⟨#[48]⟩) (ZN (z7 (j0 (by kernel_rfl) ?_)))))))
    refine ZL 0 [] _ 0 ⟨b3, #[.int .i64 c.v.maj, .int .i64 c.v.min, .int .i64 c.v.pat, .string ⟨#[48]⟩, .string (mkS c.v.build)], 44⟩ (off := 0) (.agg #[.int .i64 c.v.maj, .int .i64 c.v.min, .int .i64 c.v.pat, .string ⟨#[48]⟩, .string (mkS c.v.build)]) (zD zH) rfl rfl (ZL 2 [] _ 1 ⟨b2, #[.int .i64 c.v.maj, .int .i64 c.v.min, .int .i64 c.v.pat, .string ⟨#[]⟩, .string (mkS c.v.build)], 44⟩ (off := 0) (.agg #[.int .i64 c.v.maj, .int .i64 c.v.min, .int .i64 c.v.pat, .string ⟨#[]⟩, .string (mkS c.v.build)]) (zD zH) rfl rfl (Zz 1 (Zx [] _ (k := 142) (args := #[.agg #[.int .i64 c.v.maj, .int .i64 c.v.min, .int .i64 c.v.pat, .string ⟨#[48]⟩, .string (mkS c.v.build)]]) (z8 ⟨0, zW (({ c.v with pre := [48] } : Ver)), false⟩) rfl (fun w _ => vF (({ c.v with pre := [48] } : Ver)) w hl1) (Zz 3 (Zx [] _ (k := 142) (args := #[.agg #[.int .i64 c.v.maj, .int .i64 c.v.min, .int .i64 c.v.pat, .string ⟨#[]⟩, .string (mkS c.v.build)]]) (z8 ⟨0, zW (({ c.v with pre := [] } : Ver)), false⟩) rfl (fun w _ => vF (({ c.v with pre := [] } : Ver)) w hb1) (ZT 4 [] _ (.agg #[.int .i64 0, .int .i64 ((zW (({ c.v with pre := [48] } : Ver))).maj), .int .i64 ((zW (({ c.v with pre := [48] } : Ver))).min), .int .i64 ((zW (({ c.v with pre := [48] } : Ver))).pat), .string (mkS (zW (({ c.v with pre := [48] } : Ver))).pre), .string (mkS (zW (({ c.v with pre := [48] } : Ver))).build), .bool false, .int .i64 0, .int .i64 ((zW (({ c.v with pre := [] } : Ver))).maj), .int .i64 ((zW (({ c.v with pre := [] } : Ver))).min), .int .i64 ((zW (({ c.v with pre := [] } : Ver))).pat), .string (mkS (zW (({ c.v with pre := [] } : Ver))).pre), .string (mkS (zW (({ c.v with pre := [] } : Ver))).build), .bool false]) (zD zH) rfl (Zz 5 (hl_lit _ 80 #[.int .i64 0, .int .i64 ((zW (({ c.v with pre := [48] } : Ver))).maj), .int .i64 ((zW (({ c.v with pre := [48] } : Ver))).min), .int .i64 ((zW (({ c.v with pre := [48] } : Ver))).pat), .string (mkS (zW (({ c.v with pre := [48] } : Ver))).pre), .string (mkS (zW (({ c.v with pre := [48] } : Ver))).build), .bool false, .int .i64 0, .int .i64 ((zW (({ c.v with pre := [] } : Ver))).maj), .int .i64 ((zW (({ c.v with pre := [] } : Ver))).min), .int .i64 ((zW (({ c.v with pre := [] } : Ver))).pat), .string (mkS (zW (({ c.v with pre := [] } : Ver))).pre), .string (mkS (zW (({ c.v with pre := [] } : Ver))).build), .bool false] rfl (by kernel_rfl) rfl (fun w hO => Own.sub [] hO) (fun _ => by kernel_rfl) (fun b4 => ZT 6 [⟨b4, #[.int .i64 0, .int .i64 ((zW (({ c.v with pre := [48] } : Ver))).maj), .int .i64 ((zW (({ c.v with pre := [48] } : Ver))).min), .int .i64 ((zW (({ c.v with pre := [48] } : Ver))).pat), .string (mkS (zW (({ c.v with pre := [48] } : Ver))).pre), .string (mkS (zW (({ c.v with pre := [48] } : Ver))).build), .bool false, .int .i64 0, .int .i64 ((zW (({ c.v with pre := [] } : Ver))).maj), .int .i64 ((zW (({ c.v with pre := [] } : Ver))).min), .int .i64 ((zW (({ c.v with pre := [] } : Ver))).pat), .string (mkS (zW (({ c.v with pre := [] } : Ver))).pre), .string (mkS (zW (({ c.v with pre := [] } : Ver))).build), .bool false], 80⟩] _ (.slice (some ⟨b4, 0, none⟩) 1 1) (zD zH) rfl (ZZ (zB ?_)))))))))))
    exact zC (ZF (.slice (some ⟨b4, 0, none⟩) 1 1) Tryz.results88 (fun w hO => ⟨_, _, rfl, by rw [zone_row (by assumption) (by assumption)]; exact slit6 ⟨⟨0, dZ c.v, false⟩, ⟨0, tO c.v, false⟩⟩ b4 _ (by kernel_rfl), hO.sublist (List.cons_sublist_cons.2 (List.nil_sublist _))⟩))
  | false =>
    refine Zv Z4 (Zv Z4 (Zk (Zk (Zk (Zk (Zv Z4 (ZY (z7 (zA ?_)))))))))
    exact Zv (.slice none 0 0) (ZN (zC (z6 (ZF (.slice none 0 0) Tryz.results88 (fun w hO => ⟨_, [], rfl, by rw [show c.zone = [] from by unfold Co.zone; simp [h1]]; exact Sl.nil _ _, kK hO⟩)))))
theorem rcRegion_any (c : Co) (W : World) (hc : c.short) : Calls Tryz.prog 53 #[coV c] W fun e w' => ∃ v' ob', e = .returned v' ∧ SlS v' c.region ob' ∧ Own [] W w' ob' := by
  have hs1 := (dO hc).1
  have hs2 := (dO hc).2
  refine Z2 (n := 28) Tryz.func53 rfl (ZO (Zb (coV c) (fun b1 => Zv (.slice none 0 0) (ZN (z7 (ZO (Zl 0 ⟨b1, (coV c).cells, 51⟩ (off := 0) (coV c) (Zc (k := 79) (args := #[coV c]) (.bool c.may) (fun w _ => mF c w hc) ?_))))))))
  cases h1 : c.may with
  | true =>
    refine Zv Z5 (ZX (ZB (ZO (Zv (.slice none 0 0) (ZN (z7 ?_))))))
    refine zA (Zl 0 ⟨b1, (coV c).cells, 51⟩ (off := 0) (coV c) (Zc (k := 93) (args := #[coV c]) (.tuple #[z8 c.span.1, z8 c.span.2]) (fun w _ => rcspan_any c w hc h1) (Zv (.tuple #[z8 c.span.1, z8 c.span.2]) (Zv (z8 c.span.1) (Zv (z8 c.span.2) (Za (.agg ZE) (fun b2 => Za (.agg ZE) (fun b3 => Zs 1 ⟨b2, ZE, 78⟩ (off := 0) (z8 c.span.1) (Zs 0 ⟨b3, ZE, 78⟩ (off := 0) (z8 c.span.2) (zO (zB ?_)))))))))))
    refine z7 (ZO (Zl 1 ⟨b2, (z8 c.span.1).cells, 78⟩ (off := 0) (z8 c.span.1) (Zl 0 ⟨b3, (z8 c.span.2).cells, 78⟩ (off := 0) (z8 c.span.2) (Zc (k := 94) (args := #[z8 c.span.1, z8 c.span.2]) (.int .i64 (zQ c.span.1 c.span.2)) (fun w _ => jB c.span.1 c.span.2 w hs1 hs2) ?_))))
    by_cases h2 : (zQ c.span.1 c.span.2 : Int) < 0
    · refine Zg h2 (ZY (zA (Zl 1 ⟨b2, (z8 c.span.1).cells, 78⟩ (off := 0) (z8 c.span.1) (Zl 0 ⟨b3, (z8 c.span.2).cells, 78⟩ (off := 0) (z8 c.span.2) (Zv (.agg (ZJ2 c.span.1 c.span.2)) (vC 80 (ZJ2 c.span.1 c.span.2) (by kernel_rfl) rfl (fun _ => by kernel_rfl) (fun b4 => Zv (.slice (some ⟨b4, 0, none⟩) 1 1) (zO (zB ?_)))))))))
      refine z7 (ZO (Zv (Zp b1 0) (Zl 3 ⟨b1, (coV c).cells, 51⟩ (off := 0) (.int .i64 c.op) ?_)))
      by_cases h3 : (c.op : Int) = 2
      · refine Zg h3 (ZY (ZO (Zv (.slice (some ⟨b4, 0, none⟩) 1 1) (Zr (k := 95) (args := #[.slice (some ⟨b4, 0, none⟩) 1 1]) (fun v' L' => ∃ ob', L' = ob' ++ ([⟨b4, (ZJ2 c.span.1 c.span.2), 80⟩, ⟨b3, (z8 c.span.2).cells, 78⟩, ⟨b2, (z8 c.span.1).cells, 78⟩, ⟨b1, (coV c).cells, 51⟩]) ∧ SlS v' (v8 [⟨c.span.1, c.span.2⟩]) ob') (fun w hO => (rnot_any (some ⟨b4, 0, none⟩) 1 [⟨c.span.1, c.span.2⟩] w (Sl.reads (slit6 ⟨c.span.1, c.span.2⟩ b4 (ZJ2 c.span.1 c.span.2) (by kernel_rfl)) rfl hO (fun x hx => by rw [List.mem_singleton.1 hx]; exact List.mem_cons_self)) (by show 1 ≤ _; decide) (fun s hs => by rw [List.mem_singleton.1 hs]; exact ⟨hs1, hs2⟩)).mono fun e w' ⟨v', ob', k1, k2, k3⟩ => ⟨v', _, k1, ⟨ob', rfl, by rw [if_pos (show zL [⟨c.span.1, c.span.2⟩] = true from wA (by assumption))] at k2; exact k2⟩, Own.joinN hO k3⟩) (fun v1 L1 hv1 => ?_)))))
        obtain ⟨o1, rfl, hr1⟩ := hv1
        exact Zv (v1) (ZN (zC (z6 (ZF (v1) Tryz.results53 (fun w hO => ⟨_, o1, rfl, by rw [show c.region = v8 [⟨c.span.1, c.span.2⟩] from by unfold Co.region; rw [if_pos (by assumption), if_pos h3, qL, if_pos h2]]; exact hr1, hO.sublist (List.sublist_append_left _ _)⟩)))))
      refine Zh h3 (ZX (ZB (ZO (Zv (.slice (some ⟨b4, 0, none⟩) 1 1) (Zv (.slice (some ⟨b4, 0, none⟩) 1 1) (zO (zB ?_)))))))
      exact zC (ZF (.slice (some ⟨b4, 0, none⟩) 1 1) Tryz.results53 (fun w hO => ⟨_, _, rfl, by rw [show c.region = [⟨c.span.1, c.span.2⟩] from by unfold Co.region; rw [if_pos (by assumption), if_neg h3, qL, if_pos h2]]; exact slit6 ⟨c.span.1, c.span.2⟩ b4 _ (by kernel_rfl), hO.sublist (List.cons_sublist_cons.2 (List.nil_sublist _))⟩))
    refine Zh h2 (ZX (ZB (z7 (ZO (Zv (Zp b1 0) (Zl 2 ⟨b1, (coV c).cells, 51⟩ (off := 0) (.int .i64 c.op) ?_))))))
    by_cases h4 : (c.op : Int) = 2
    · refine Zg h4 (ZY (ZO (Zv (.slice none 0 0) (Zr (k := 95) (args := #[.slice none 0 0]) (fun v' L' => ∃ ob', L' = ob' ++ ([⟨b3, (z8 c.span.2).cells, 78⟩, ⟨b2, (z8 c.span.1).cells, 78⟩, ⟨b1, (coV c).cells, 51⟩]) ∧ SlS v' (v8 []) ob') (fun w hO => (rnot_any none 0 [] w (fun h0 => absurd h0 (Nat.lt_irrefl 0)) (by show 0 ≤ _; decide) (fun s hs => by simp at hs)).mono fun e w' ⟨v', ob', k1, k2, k3⟩ => ⟨v', _, k1, ⟨ob', rfl, by rw [if_pos (show zL [] = true from rfl)] at k2; exact k2⟩, Own.joinN hO k3⟩) (fun v1 L1 hv1 => ?_)))))
      obtain ⟨o1, rfl, hr1⟩ := hv1
      exact Zv (v1) (ZN (zC (z6 (ZF (v1) Tryz.results53 (fun w hO => ⟨_, o1, rfl, by rw [show c.region = v8 [] from by unfold Co.region; rw [if_pos (by assumption), if_pos h4, qL, if_neg h2]]; exact hr1, hO.sublist (List.sublist_append_left _ _)⟩)))))
    refine Zh h4 (ZX (ZB (ZO (Zv (.slice none 0 0) (Zv (.slice none 0 0) (zO (zB ?_)))))))
    exact zC (ZF (.slice none 0 0) Tryz.results53 (fun w hO => ⟨_, [], rfl, by rw [show c.region = [] from by unfold Co.region; rw [if_pos (by assumption), if_neg h4, qL, if_neg h2]]; exact Sl.nil _ _, kK hO⟩))
  | false =>
    refine Zv Z4 (ZY (ZO (Zv (.slice none 0 0) (ZN (zC (z6 (ZF (.slice none 0 0) Tryz.results53 ?_)))))))
    exact fun w hO => ⟨_, [], rfl, by rw [show c.region = [] from by unfold Co.region; simp [h1]]; exact Sl.nil _ _, kK hO⟩
end
section
def triV (l : List (List UInt8)) : Ver := if l.length = 3 then ⟨zR (tg l 0), zR (tg l 1), zR (tg l 2), [], []⟩ else Ver.zero
def triB (l : List (List UInt8)) : Bool := decide (l.length = 3) && (gJ (tg l 0) && gJ (tg l 1) && gJ (tg l 2))
theorem nK (n : Int) (h : yH n = true) (w : World) :
    Calls Tryz.prog 171 #[.int .i64 n] w fun e w' => e = .returned (.string (mkS (Lib.itoa n))) ∧ Below w.heap.size w w' := by
  unfold yH at h; simp at h
  exact rdigits_any n (by omega) (by omega) w
end
section
theorem u0 (op : Int) : (yA op).length ≤ 2 := by
  unfold yA
  repeat' split
  all_goals decide
theorem join_len (b : UInt8) (m : Nat) : ∀ (l : List (List UInt8)), (∀ x ∈ l, x.length ≤ m) → (yC b l).length ≤ l.length * (m + 1)
  | [], _ => by simp [yC]
  | [x], h => by
    have := h x (List.mem_singleton.2 rfl)
    simp [yC]; omega
  | x :: y :: r, h => by
    have h1 := h x (List.mem_cons_self ..)
    have h2 := join_len b m (y :: r) fun z hz => h z (List.mem_cons_of_mem _ hz)
    rw [yC, List.length_append, List.length_cons]
    simp only [List.length_cons, Nat.add_mul] at h2 ⊢
    omega
theorem nums_len9 {v : Ver} (hv : v.may = true) {n : Nat} : ∀ x ∈ yF v n, x.length ≤ 21 := fun x hx => by
  obtain ⟨k, hk, rfl⟩ := nums_mem hv hx
  have := itoa_len hk
  omega
theorem uK (v : Ver) (n : Nat) : (yF v n).length ≤ 3 := by unfold yF; rw [List.length_take]; simp; omega
theorem qY {v : Ver} (hv : v.may = true) (n : Nat) : (yC 46 (yF v n)).length ≤ 100 := by
  have h := join_len 46 21 (yF v n) (nums_len9 hv)
  have := uK v n
  omega
theorem jZ {v : Ver} (hv : v.may = true) (n : Nat) : (yC 46 (yF v n ++ [[42]])).length ≤ 200 := by
  have h := join_len 46 21 (yF v n ++ [[42]]) (fun x hx => by
    rcases List.mem_append.1 hx with hx | hx
    · exact nums_len9 hv x hx
    · rw [List.mem_singleton.1 hx]; decide)
  have := uK v n
  rw [List.length_append] at h
  simp at h; omega
def toldC (v : Ver) : Array Value := #[.string (mkS (Lib.itoa v.maj)), .string (mkS (Lib.itoa v.min)), .string (mkS (Lib.itoa v.pat))]
theorem told_take (v : Ver) {n : Nat} (h : n ≤ 3) : (toldC v).toList.take (n * 1) = qQ (yF v n) := by
  rw [Nat.mul_one]
  unfold qQ yF
  rw [List.map_take]; rfl
theorem told_slt (v : Ver) {n : Nat} (h : n ≤ 3) (g : Nat) : SlT (.slice (some ⟨g, 0, none⟩) n 3) (yF v n) [⟨g, toldC v, 9⟩] := by
  have e := qX v h
  refine ⟨by rw [j8, e]; omega, .inr ⟨g, 3, toldC v, by rw [e], rfl, by rw [e]; exact h, by decide, rfl, ?_⟩⟩
  rw [e]; exact told_take v h
theorem strInfo : (Tryz.prog.info? 9).map (fun i => (i.zero.map (·.cells.size), i.size, i.bytes)) = some (some 1, 1, 16) := by kernel_rfl
theorem fH : ∃ i z, Tryz.prog.info? 9 = some i ∧ i.zero = some z ∧ i.size = 1 ∧ z.cells.size = 1 ∧ i.bytes = 16 := by
  have h := strInfo
  cases hi : Tryz.prog.info? 9 with
  | none => rw [hi] at h; cases h
  | some i =>
    rw [hi] at h
    simp only [Option.map_some, Option.some.injEq, Prod.mk.injEq] at h
    cases hz : i.zero with
    | none => rw [hz] at h; simp at h
    | some z => rw [hz] at h; simp at h; exact ⟨i, z, rfl, hz, h.2.1, h.1, h.2.2⟩
theorem parts_nat {c : Co} (h : c.may = true) : ((c.parts.toNat : Nat) : Int) = c.parts ∧ c.parts.toNat ≤ 3 := by
  obtain ⟨_, _, _, h9, hn, _⟩ := Co.facts h
  by_cases e : c.op = 9
  · have := h9 e; omega
  · have := hn e; omega
theorem star_text {c : Co} (h9 : c.op = 9) : yC 46 (yF c.v c.parts.toNat ++ [[42]]) = c.text := by
  unfold Co.text Co.rest
  rw [h9, if_pos rfl]; rfl
theorem text_pre {c : Co} (h9 : ¬ c.op = 9) (hp : ¬ c.v.pre = []) : yA c.op ++ yC 46 (yF c.v c.parts.toNat) ++ [45] ++ c.v.pre = c.text := by
  unfold Co.text Co.rest fE
  rw [if_neg h9]
  cases hq : c.v.pre with
  | nil => exact absurd hq hp
  | cons a r => simp
theorem text_bare {c : Co} (h9 : ¬ c.op = 9) (hp : c.v.pre = []) : yA c.op ++ yC 46 (yF c.v c.parts.toNat) = c.text := by
  unfold Co.text Co.rest fE
  rw [if_neg h9, hp]; simp
theorem rctold_any (c : Co) (W : World) (hc : c.short) (hm : c.may = true) : Calls Tryz.prog 126 #[coV c] W fun e w' => ∃ v' ob', e = .returned v' ∧ (∃ g, v' = .slice (some ⟨g, 0, none⟩) c.parts.toNat 3 ∧ ob' = [⟨g, toldC c.v, 9⟩]) ∧ Own [] W w' ob' := by
  obtain ⟨m1, m2, m3⟩ := vG (Co.facts hm).2.1
  have hpn := parts_nat hm
  refine Z2 (n := 21) Tryz.func126 rfl (ZO (Zb (coV c) (fun b1 => Zv (.slice none 0 0) (ZN (z7 (j0 (by kernel_rfl) (ZT 0 [] _ (Zp b1 2) (zD zH) rfl (ZT 1 [] _ (Zp b1 2) (zD zH) rfl (ZL 2 [] _ 0 ⟨b1, (coV c).cells, 51⟩ (off := 2) (.int .i64 c.v.maj) (zD zH) rfl rfl ?_)))))))))
  refine ZT 4 [] _ (Zp b1 2) (zD zH) rfl (ZT 5 [] _ (Zp b1 3) (zD zH) rfl (ZL 6 [] _ 0 ⟨b1, (coV c).cells, 51⟩ (off := 3) (.int .i64 c.v.min) (zD zH) rfl rfl (ZT 8 [] _ (Zp b1 2) (zD zH) rfl (ZT 9 [] _ (Zp b1 4) (zD zH) rfl (ZL 10 [] _ 0 ⟨b1, (coV c).cells, 51⟩ (off := 4) (.int .i64 c.v.pat) (zD zH) rfl rfl (Zz 3 (Zx [] _ (k := 171) (args := #[.int .i64 c.v.maj]) (.string (mkS (Lib.itoa c.v.maj))) rfl (fun w _ => nK c.v.maj m1 w) (Zz 7 (Zx [] _ (k := 171) (args := #[.int .i64 c.v.min]) (.string (mkS (Lib.itoa c.v.min))) rfl (fun w _ => nK c.v.min m2 w) (Zz 11 (Zx [] _ (k := 171) (args := #[.int .i64 c.v.pat]) (.string (mkS (Lib.itoa c.v.pat))) rfl (fun w _ => nK c.v.pat m3 w) ?_)))))))))))
  refine Zz 12 (hl_lit _ 9 #[.string (mkS (Lib.itoa c.v.maj)), .string (mkS (Lib.itoa c.v.min)), .string (mkS (Lib.itoa c.v.pat))] rfl (by kernel_rfl) rfl (fun w hO => Own.sub [] hO) (fun _ => by kernel_rfl) (fun b2 => ZT 13 [⟨b2, #[.string (mkS (Lib.itoa c.v.maj)), .string (mkS (Lib.itoa c.v.min)), .string (mkS (Lib.itoa c.v.pat))], 9⟩] _ (.slice (some ⟨b2, 0, none⟩) 3 3) (zD zH) rfl (ZZ (zB (ZO (Zv (.slice (some ⟨b2, 0, none⟩) 3 3) (Zv (Zp b1 1) (Zl 1 ⟨b1, (coV c).cells, 51⟩ (off := 1) (.int .i64 c.parts) (zV (.slice (some ⟨b2, 0, none⟩) c.parts.toNat 3) (by kernel_rfl) (fL (b := b2) (off := 0) (n := 3) (c := 3) (k := .i64) (j := c.parts) (e := 9) (sz := 1) rfl (by kernel_rfl) (by kernel_rfl) (by kernel_rfl) (by kernel_rfl) (by omega) (by omega)) (Zv (.slice (some ⟨b2, 0, none⟩) c.parts.toNat 3) ?_))))))))))
  exact ZN (zC (ZF (.slice (some ⟨b2, 0, none⟩) c.parts.toNat 3) Tryz.results126 (fun w hO => ⟨_, _, rfl, ⟨_, rfl, rfl⟩, hO.sublist (List.cons_sublist_cons.2 (List.nil_sublist _))⟩)))
theorem wZ (c : Co) (W : World) (hc : c.short) : Calls Tryz.prog 78 #[coV c] W fun e w' => e = .returned (.string (mkS c.print)) ∧ Below W.heap.size W w' := by
  refine Z2 (n := 39) Tryz.func78 rfl (ZO (Zb (coV c) (fun b1 => Zv (.string ⟨#[]⟩) (ZN (z7 (ZO (Zl 0 ⟨b1, (coV c).cells, 51⟩ (off := 0) (coV c) (Zc (k := 79) (args := #[coV c]) (.bool c.may) (fun w _ => mF c w hc) ?_))))))))
  cases h1 : c.may with
  | true =>
    refine Zv Z5 (ZX (ZB (ZO (Zl 0 ⟨b1, (coV c).cells, 51⟩ (off := 0) (coV c) ?_))))
    have hcm := h1
    have hcv := (Co.facts hcm).2.1
    have hpn := parts_nat hcm
    refine Zr (k := 126) (args := #[coV c]) (fun v' L' => ∃ g, v' = .slice (some ⟨g, 0, none⟩) c.parts.toNat 3 ∧ L' = ⟨g, toldC c.v, 9⟩ :: [⟨b1, (coV c).cells, 51⟩]) (fun w hO => (rctold_any c w hc hcm).mono fun e w' ⟨v', ob', k1, ⟨g, k2, k4⟩, k3⟩ => ⟨v', _, k1, ⟨g, k2, rfl⟩, by subst k4; exact Own.joinN hO k3⟩) (fun v1 L1 hv1 => ?_)
    obtain ⟨g1, rfl, rfl⟩ := hv1
    refine Zv (.slice (some ⟨g1, 0, none⟩) c.parts.toNat 3) (ZN (z7 (ZO (Zv (Zp b1 0) (Zl 1 ⟨b1, (coV c).cells, 51⟩ (off := 0) (.int .i64 c.op) ?_)))))
    by_cases h2 : (c.op : Int) = 9
    · refine Zg h2 (ZY (ZO (Zv (.slice (some ⟨g1, 0, none⟩) c.parts.toNat 3) (Zv (Zp b1 1) (Zl 1 ⟨b1, (coV c).cells, 51⟩ (off := 1) (.int .i64 c.parts) (Zv (Zp b1 1) (Zl 1 ⟨b1, (coV c).cells, 51⟩ (off := 1) (.int .i64 c.parts) (zV (.slice (some ⟨g1, 0, none⟩) c.parts.toNat c.parts.toNat) (by kernel_rfl) (run_slhm (b := g1) (n := c.parts.toNat) (c := 3) (k := .i64) (q := .i64) (j := c.parts) (m := c.parts) (e := 9) (sz := 1) rfl (by kernel_rfl) (by kernel_rfl) (by kernel_rfl) (by kernel_rfl) (by kernel_rfl) (by omega) (by omega) (by omega)) ?_))))))))
      refine vC 9 #[.string ⟨#[42]⟩] (by kernel_rfl) rfl (fun _ => by kernel_rfl) (fun b2 => ?_)
      obtain ⟨i0, z0, e1, e2, e3, e4, e5⟩ := fH
      refine s_appendF (sz := 1) (by kernel_rfl) rfl Tryz.underlying58 e1 e2 e3 e4 (b := ⟨g1, 0, none⟩) (n := c.parts.toNat) (cap := c.parts.toNat) (xs := qQ (yF c.v c.parts.toNat)) (by kernel_rfl) (by rw [j8, qX c.v hpn.2, Nat.mul_one]) (fun w hO j u hj => ?_) (a := ⟨b2, 0, none⟩) (m := 1) (c := 1) (news := qQ [[42]]) (by kernel_rfl) (by kernel_rfl) (fun w hO j u hj => ?_) (by omega) (by unfold maxLen; omega) (by rw [e5]; omega) (fun va oa hva0 => ?_)
      · rw [← told_take c.v hpn.2, Nat.mul_one, List.getElem?_take] at hj
        split at hj
        · rw [yQ, cell_of_row w g1 (0 + j) (toldC c.v) 9 _ (hO.held ⟨g1, toldC c.v, 9⟩ (by simp))]; simpa using hj
        · cases hj
      · rw [yQ, cell_of_row w b2 (0 + j) (qQ [[42]]).toArray 9 _ (hO.held ⟨b2, (qQ [[42]]).toArray, 9⟩ List.mem_cons_self)]; simpa using hj
      have hva : SlT va (yF c.v c.parts.toNat ++ [[42]]) oa := hva0.to (by rw [List.length_append, qX c.v hpn.2]; rfl) (by unfold qQ; rw [List.map_append])
      exact Zc (k := 127) (args := #[va, .int .u8 46]) (.string (mkS (yC 46 (yF c.v c.parts.toNat ++ [[42]])))) (fun w hO => rjoin_any va _ 46 w (SlT.readsT hva hO (fun x hx => by simp [hx])) (Nat.le_trans (jZ hcv _) (by decide)) (by rw [List.length_append]; have := uK c.v c.parts.toNat; simp; omega)) (Zv (.string (mkS (yC 46 (yF c.v c.parts.toNat ++ [[42]])))) (ZN (zC (z6 (ZF (.string (mkS (yC 46 (yF c.v c.parts.toNat ++ [[42]])))) Tryz.results78 (fun w hO => ⟨by rw [qF hcm, ← star_text h2], hO.below⟩))))))
    refine Zh h2 (ZX (ZB (ZO (Zv (Zp b1 0) (Zl 1 ⟨b1, (coV c).cells, 51⟩ (off := 0) (.int .i64 c.op) (Zc (k := 123) (args := #[.int .i64 c.op]) (.string (mkS (yA c.op))) (fun w _ => rcsign_any c.op w) (Zv (.slice (some ⟨g1, 0, none⟩) c.parts.toNat 3) ?_)))))))
    refine Zc (k := 127) (args := #[.slice (some ⟨g1, 0, none⟩) c.parts.toNat 3, .int .u8 46]) (.string (mkS (yC 46 (yF c.v c.parts.toNat)))) (fun w hO => rjoin_any _ _ 46 w (SlT.readsT (told_slt c.v hpn.2 g1) hO (fun x hx => by rw [List.mem_singleton.1 hx]; exact List.mem_cons_self)) (Nat.le_trans (qY hcv _) (by decide)) (Nat.le_trans (uK _ _) (by decide))) (zV (.string (mkS ((yA c.op) ++ (yC 46 (yF c.v c.parts.toNat))))) (by kernel_rfl) (yY (a := (yA c.op)) (b := (yC 46 (yF c.v c.parts.toNat))) rfl (by kernel_rfl) (by kernel_rfl) (by have q1 := u0 c.op; have q2 := qY hcv c.parts.toNat; have q3 := hc.1; first | omega | (simp only [List.length_append, List.length_cons, List.length_nil]; omega))) (Zv (.string (mkS ((yA c.op) ++ (yC 46 (yF c.v c.parts.toNat))))) (ZN (z7 (ZO (Zv (Zp b1 2) (Zv (Zp b1 5) (Zl 1 ⟨b1, (coV c).cells, 51⟩ (off := 5) (.string (mkS c.v.pre)) ?_))))))))
    by_cases h3 : (c.v.pre : List UInt8) = []
    · refine zV Z5 (by kernel_rfl) (xC (a := c.v.pre) (b := ([])) rfl (by kernel_rfl) (by kernel_rfl) (decide_eq_true (h3))) (ZX (ZB (ZO (Zv (.string (mkS ((yA c.op) ++ (yC 46 (yF c.v c.parts.toNat))))) (Zv (.string (mkS ((yA c.op) ++ (yC 46 (yF c.v c.parts.toNat))))) (zO (zB ?_)))))))
      exact zC (ZF (.string (mkS ((yA c.op) ++ (yC 46 (yF c.v c.parts.toNat))))) Tryz.results78 (fun w hO => ⟨by rw [qF hcm, ← text_bare h2 h3], hO.below⟩))
    refine zV Z4 (by kernel_rfl) (xC (a := c.v.pre) (b := ([])) rfl (by kernel_rfl) (by kernel_rfl) (decide_eq_false (h3))) (ZY (zA (Zv (.string (mkS ((yA c.op) ++ (yC 46 (yF c.v c.parts.toNat))))) (zV (.string (mkS (((yA c.op) ++ (yC 46 (yF c.v c.parts.toNat))) ++ [45]))) (by kernel_rfl) (yY (a := ((yA c.op) ++ (yC 46 (yF c.v c.parts.toNat)))) (b := [45]) rfl (by kernel_rfl) (by kernel_rfl) (by have q1 := u0 c.op; have q2 := qY hcv c.parts.toNat; have q3 := hc.1; first | omega | (simp only [List.length_append, List.length_cons, List.length_nil]; omega))) (Zv (Zp b1 2) (Zv (Zp b1 5) (Zl 1 ⟨b1, (coV c).cells, 51⟩ (off := 5) (.string (mkS c.v.pre)) (zV (.string (mkS ((((yA c.op) ++ (yC 46 (yF c.v c.parts.toNat))) ++ [45]) ++ c.v.pre))) (by kernel_rfl) (yY (a := (((yA c.op) ++ (yC 46 (yF c.v c.parts.toNat))) ++ [45])) (b := c.v.pre) rfl (by kernel_rfl) (by kernel_rfl) (by have q1 := u0 c.op; have q2 := qY hcv c.parts.toNat; have q3 := hc.1; first | omega | (simp only [List.length_append, List.length_cons, List.length_nil]; omega))) (Zv (.string (mkS ((((yA c.op) ++ (yC 46 (yF c.v c.parts.toNat))) ++ [45]) ++ c.v.pre))) ?_)))))))))
    exact ZR (Zv (.string (mkS ((((yA c.op) ++ (yC 46 (yF c.v c.parts.toNat))) ++ [45]) ++ c.v.pre))) (Zv (.string (mkS ((((yA c.op) ++ (yC 46 (yF c.v c.parts.toNat))) ++ [45]) ++ c.v.pre))) (ZN (zC (ZF (.string (mkS ((((yA c.op) ++ (yC 46 (yF c.v c.parts.toNat))) ++ [45]) ++ c.v.pre))) Tryz.results78 (fun w hO => ⟨by rw [qF hcm, ← text_pre h2 h3], hO.below⟩))))))
  | false =>
    refine Zv Z4 (ZY (ZO (Zv (.string ⟨#[]⟩) (ZN (zC (z6 (ZF (.string ⟨#[]⟩) Tryz.results78 ?_)))))))
    exact fun w hO => ⟨by unfold Co.print; simp [h1]; rfl, hO.below⟩
end
section
def numsOk (l : List (List UInt8)) : Bool := decide (l.length ≤ 3) && l.all gJ
def numsVal (l : List (List UInt8)) : Ver := if numsOk l then ⟨zR (tg l 0), zR (tg l 1), zR (tg l 2), [], []⟩ else Ver.zero
theorem pN {l : List (List UInt8)} {i : Nat} (h : i < l.length) : l[i] = tg l i := by
  unfold tg
  rw [List.getElem?_eq_getElem h]; rfl
theorem tgi_out {l : List (List UInt8)} {i : Nat} (h : l.length ≤ i) : zR (tg l i) = 0 := by
  unfold tg
  rw [List.getElem?_eq_none h]; rfl
end
section
end
section
def pcV (s : List UInt8) : Co := (qB s).getD ⟨0, 0, Ver.zero⟩
def pcE (s : List UInt8) : Int := if (qB s).isSome then 0 else 6
theorem pc_none {s : List UInt8} (h : qB s = none) : pcV s = ⟨0, 0, Ver.zero⟩ ∧ pcE s = 6 := by unfold pcV pcE; rw [h]; exact ⟨rfl, rfl⟩
theorem pc_some {s : List UInt8} {c : Co} (h : qB s = some c) : pcV s = c ∧ pcE s = 0 := by unfold pcV pcE; rw [h]; exact ⟨rfl, rfl⟩
theorem tg_short {l : List (List UInt8)} (h : ∀ x ∈ l, x.length ≤ 1000000) (i : Nat) : (tg l i).length ≤ 1000000 := by
  unfold tg
  cases hq : l[i]? with
  | none => exact Nat.zero_le _
  | some x => exact h x (List.mem_of_getElem? hq)
end
section
def coC (c : Co) : List Value := (coV c).cells.toList
theorem j4 (c : Co) : (coC c).length = 7 := rfl
theorem co_cells (c : Co) : ∀ u ∈ coC c, u.oneCell' = true := by
  intro u hu
  unfold coC coV at hu
  simp only [Value.cells, List.mem_cons, List.not_mem_nil, or_false] at hu
  rcases hu with rfl | rfl | rfl | rfl | rfl | rfl | rfl <;> rfl
structure Al where
  A : Option Addr
  l : List Co
  cap : Nat
def alC (x : Al) : List Value := [.slice x.A x.l.length x.cap]
theorem gO (x : Al) : (alC x).length = 1 := rfl
theorem al_cells (x : Al) : ∀ u ∈ alC x, u.oneCell' = true := fun u hu => by rw [List.mem_singleton.1 hu]; rfl
def yK (xs : List Al) : List (List Co) := xs.map Al.l
theorem k8 (xs : List Al) : (yK xs).length = xs.length := List.length_map ..
theorem bW {xs : List Al} {i : Nat} (hi : i < xs.length) {x : Al} (h : xs[i] = x) : (yK xs)[i]'(by rw [k8]; exact hi) = x.l := by
  unfold yK; rw [List.getElem_map, h]
def ShortA (l : List Co) : Prop := ∀ c ∈ l, c.short
structure RgIn (w : World) (B : Nat) (A : Option Addr) (xs : List Al) : Prop where
  top : Reads alC w B A xs
  each : ∀ x ∈ xs, Reads coC w B x.A x.l
  n : xs.length ≤ 1000
  m : ∀ x ∈ xs, x.l.length ≤ 1000
  short : ∀ x ∈ xs, ShortA x.l
theorem RgIn.on {w w' : World} {B B' : Nat} {A : Option Addr} {xs : List Al} (h : RgIn w B A xs) (hb : Below B w w') (hB : B ≤ B') : RgIn w' B' A xs := ⟨h.top.on hb hB, fun x hx => (h.each x hx).on hb hB, h.n, h.m, h.short⟩
theorem bM {α : Type} {p : α → Prop} {l : List α} {i : Nat} (h : ∀ x ∈ l.take i, p x) (hi : i < l.length) {x : α} (hx : l[i] = x) (hp : p x) : ∀ y ∈ l.take (i + 1), p y := fun y hy => by
  rw [List.take_succ_eq_append_getElem hi] at hy
  rcases List.mem_append.1 hy with hy | hy
  · exact h y hy
  · rw [List.mem_singleton.1 hy, hx]; exact hp
theorem pO {α : Type} {p : α → Prop} {l : List α} {i : Nat} (h : ∀ x ∈ l.take i, p x) (hi : l.length ≤ i) : ∀ y ∈ l, p y := by rwa [List.take_of_length_le hi] at h
theorem tH {l : List Co} (h : ¬ (1 ≤ l.length ∧ l.length ≤ 6)) : fewA l = false := by unfold fewA; rw [decide_eq_false h]; rfl
theorem fewA_one {l : List Co} {c : Co} (hm : c ∈ l) (h : c.may = false) : fewA l = false := by
  cases hf : fewA l with
  | false => rfl
  | true => rw [(fewA.facts hf).2 c hm] at h; cases h
theorem fewA_all {l : List Co} (h1 : 1 ≤ l.length ∧ l.length ≤ 6) (h : ∀ c ∈ l, c.may = true) : fewA l = true := by
  unfold fewA; rw [decide_eq_true h1, List.all_eq_true.2 h]; rfl
theorem few_len {xs : List Al} (h : ¬ (1 ≤ xs.length ∧ xs.length ≤ 6)) : fewR (yK xs) = false := by unfold fewR; rw [k8, decide_eq_false h]; rfl
theorem few_one {xs : List Al} {x : Al} (hm : x ∈ xs) (h : fewA x.l = false) : fewR (yK xs) = false := by
  cases hf : fewR (yK xs) with
  | false => rfl
  | true => rw [(fewR.facts hf).2 x.l (List.mem_map.2 ⟨x, hm, rfl⟩)] at h; cases h
theorem few_all {xs : List Al} (h1 : 1 ≤ xs.length ∧ xs.length ≤ 6) (h : ∀ x ∈ xs, fewA x.l = true) : fewR (yK xs) = true := by
  unfold fewR; rw [k8, decide_eq_true h1, List.all_eq_true.2 fun a ha => by obtain ⟨x, hx, rfl⟩ := List.mem_map.1 ha; exact h x hx]; rfl
theorem few_mem {xs : List Al} (h : fewR (yK xs) = true) : (1 ≤ xs.length ∧ xs.length ≤ 6) ∧ ∀ x ∈ xs, (1 ≤ x.l.length ∧ x.l.length ≤ 6) ∧ ∀ c ∈ x.l, c.may = true := by
  obtain ⟨h1, h2⟩ := fewR.facts h
  rw [k8] at h1
  exact ⟨h1, fun x hx => fewA.facts (h2 x.l (List.mem_map.2 ⟨x, hx, rfl⟩))⟩
theorem joinB_step (sep : List UInt8) {l : List (List UInt8)} {i : Nat} (hi : i < l.length) : vD sep (l.take (i + 1)) = (if i = 0 then [] else vD sep (l.take i) ++ sep) ++ l[i] := by
  rw [List.take_succ_eq_append_getElem hi, joinB_snoc]
  by_cases h : i = 0
  · subst h; rfl
  · have hne : l.take i ≠ [] := fun e => by
      have h3 : (l.take i).length = 0 := by rw [e]; rfl
      rw [List.length_take] at h3; omega
    rw [if_neg hne, if_neg h]
theorem uX {l : List Co} {k : Nat} (hk : k < l.length) {c : Co} (hc : l[k] = c) : xG (l.take (k + 1)) = (if k = 0 then [] else xG (l.take k) ++ [44, 32]) ++ c.print := by
  unfold xG
  rw [List.map_take, List.map_take, joinB_step _ (by rw [List.length_map]; exact hk), List.getElem_map, hc]
theorem rgText_step {r : List (List Co)} {i : Nat} (hi : i < r.length) {a : List Co} (ha : r[i] = a) : kH (r.take (i + 1)) = (if i = 0 then [] else kH (r.take i) ++ [32, 124, 124, 32]) ++ xG a := by
  unfold kH
  rw [List.map_take, List.map_take, joinB_step _ (by rw [List.length_map]; exact hi), List.getElem_map, ha]
theorem hD {c : Co} (h : c.may = true) : c.print.length ≤ 300 := by
  obtain ⟨_, hv, _⟩ := Co.facts h
  have hp := preOk_short (tC hv)
  rw [qF h]
  unfold Co.text Co.rest
  rw [List.length_append]
  have h1 : (yA c.op).length ≤ 2 := by
    unfold yA
    repeat' split
    all_goals decide
  split
  · have := jZ hv c.parts.toNat; omega
  · rw [List.length_append]
    have := qY hv c.parts.toNat
    have : (fE 45 c.v.pre).length ≤ 37 := by
      unfold fE
      split
      · exact Nat.zero_le _
      · rw [List.length_cons]; omega
    omega
end
end Go.Proofs.YtkljdpiaghepfaaGreatDoor
