/-
  What the statements' proofs lean on, part 4: each part begins with a remark that says what it proves and on what conditions.
-/
import Derived.Deep.RegionHeld3
import Derived.Outline
import Derived.Below
import Derived.ChangeSame
import Derived.ProofKit
import Derived.OpenShut
import Derived.LaidSub
import Derived.Carry
import Derived.Deep.DeepHandedRow
import Derived.Test.YtglbfknmeojfkaaRows
import Derived.ChangeArms
import Derived.Deep.Fields
import Derived.DataReads
import Derived.ChangeOld
import Derived.Test.YtglbfknmeojfkaaFA3

section
/-
  linchpinref6: May, sign, begins, high, turns, span, Zone, Region: what they return for comparators whose strings have at most a million bytes; nothing that was there is changed.
-/
namespace Go.Proofs.Ytglbfknmeojfkaa
open Go.RowKit
set_option maxRecDepth 100000
set_option linter.unusedVariables false
set_option linter.unusedSimpArgs false
set_option maxHeartbeats 2000000

/-- What is left of high's search at z. -/
def highZ (v : Ver) (z : Int) : Cu := if z < 0 then endC 1 else highC v z.toNat
theorem rcMay_any (c : Co) (W : World) (hc : c.short) : Calls Try.prog 68 #[coV c] W fun e w' => e = .returned (.bool c.may) ∧ Below W.heap.size W w' := by
  refine calls_ok (n := 80) Try.func68 rfl (by kernel_rfl) (by kernel_rfl) ?_
  refine ok_seq ?_
  refine ok_region ?_
  refine s_box (coV c) (by kernel_rfl) rfl (by kernel_rfl) (fun b1 => ?_)
  refine s_val (.bool false) (by kernel_rfl) (fun _ => by kernel_rfl) ?_
  refine s_nil ?_
  refine fin_seq ?_
  refine ok_seq ?_
  refine ok_seq ?_
  refine ok_region ?_
  refine s_val (.pointer (some ⟨b1, 0, none⟩)) (by kernel_rfl) (fun _ => by kernel_rfl) ?_
  refine s_load 0 ⟨b1, (coV c).cells, 91⟩ (off := 0) (.int .i64 c.op) (by kernel_rfl) rfl (by kernel_rfl) (by kernel_rfl) (by kernel_rfl) ?_
  by_cases h1 : (c.op : Int) < 1
  · skip
    refine s_dec (p := (c.op : Int) < 1) true (by kernel_rfl) (fun _ => by kernel_rfl) (decide_eq_true (h1)) ?_
    refine s_val (.bool true) (by kernel_rfl) (fun _ => by kernel_rfl) ?_
    refine s_skip (by kernel_rfl) ?_
    refine s_skip (by kernel_rfl) ?_
    refine s_skip (by kernel_rfl) ?_
    refine s_val (.bool true) (by kernel_rfl) (fun _ => by kernel_rfl) ?_
    refine s_val (.bool true) (by kernel_rfl) (fun _ => by kernel_rfl) ?_
    refine s_skip (by kernel_rfl) ?_
    refine s_skip (by kernel_rfl) ?_
    refine s_skip (by kernel_rfl) ?_
    refine s_skip (by kernel_rfl) ?_
    refine s_val (.bool true) (by kernel_rfl) (fun _ => by kernel_rfl) ?_
    refine s_val (.bool true) (by kernel_rfl) (fun _ => by kernel_rfl) ?_
    refine s_skip (by kernel_rfl) ?_
    refine s_skip (by kernel_rfl) ?_
    refine s_skip (by kernel_rfl) ?_
    refine s_skip (by kernel_rfl) ?_
    refine s_val (.bool true) (by kernel_rfl) (fun _ => by kernel_rfl) ?_
    refine s_nil ?_
    refine fin_seq ?_
    refine ok_true (by kernel_rfl) ?_
    refine ok_seq ?_
    refine ok_region ?_
    refine s_val (.bool false) (by kernel_rfl) (fun _ => by kernel_rfl) ?_
    refine s_nil ?_
    refine fin_seq ?_
    refine ok_ret ?_
    refine fin_seq_ret ?_
    refine fin_ret (.bool false) Try.results68 (by kernel_rfl) ?_
    exact fun w hO => ⟨by rw [show c.may = false from Bool.eq_false_iff.2 fun q0 => by have q1 := Co.may_iff.1 q0; grind], hO.below⟩
  · skip
    refine s_dec (p := (c.op : Int) < 1) false (by kernel_rfl) (fun _ => by kernel_rfl) (decide_eq_false (h1)) ?_
    refine s_val (.bool false) (by kernel_rfl) (fun _ => by kernel_rfl) ?_
    refine s_val (.pointer (some ⟨b1, 0, none⟩)) (by kernel_rfl) (fun _ => by kernel_rfl) ?_
    refine s_load 0 ⟨b1, (coV c).cells, 91⟩ (off := 0) (.int .i64 c.op) (by kernel_rfl) rfl (by kernel_rfl) (by kernel_rfl) (by kernel_rfl) ?_
    by_cases h2 : (9 : Int) < c.op
    · skip
      refine s_dec (p := (9 : Int) < c.op) true (by kernel_rfl) (fun _ => by kernel_rfl) (decide_eq_true (h2)) ?_
      refine s_val (.bool true) (by kernel_rfl) (fun _ => by kernel_rfl) ?_
      refine s_val (.bool true) (by kernel_rfl) (fun _ => by kernel_rfl) ?_
      refine s_skip (by kernel_rfl) ?_
      refine s_skip (by kernel_rfl) ?_
      refine s_skip (by kernel_rfl) ?_
      refine s_skip (by kernel_rfl) ?_
      refine s_val (.bool true) (by kernel_rfl) (fun _ => by kernel_rfl) ?_
      refine s_val (.bool true) (by kernel_rfl) (fun _ => by kernel_rfl) ?_
      refine s_skip (by kernel_rfl) ?_
      refine s_skip (by kernel_rfl) ?_
      refine s_skip (by kernel_rfl) ?_
      refine s_skip (by kernel_rfl) ?_
      refine s_val (.bool true) (by kernel_rfl) (fun _ => by kernel_rfl) ?_
      refine s_nil ?_
      refine fin_seq ?_
      refine ok_true (by kernel_rfl) ?_
      refine ok_seq ?_
      refine ok_region ?_
      refine s_val (.bool false) (by kernel_rfl) (fun _ => by kernel_rfl) ?_
      refine s_nil ?_
      refine fin_seq ?_
      refine ok_ret ?_
      refine fin_seq_ret ?_
      refine fin_ret (.bool false) Try.results68 (by kernel_rfl) ?_
      exact fun w hO => ⟨by rw [show c.may = false from Bool.eq_false_iff.2 fun q0 => by have q1 := Co.may_iff.1 q0; grind], hO.below⟩
    · skip
      refine s_dec (p := (9 : Int) < c.op) false (by kernel_rfl) (fun _ => by kernel_rfl) (decide_eq_false (h2)) ?_
      refine s_val (.bool false) (by kernel_rfl) (fun _ => by kernel_rfl) ?_
      refine s_val (.bool false) (by kernel_rfl) (fun _ => by kernel_rfl) ?_
      refine s_val (.pointer (some ⟨b1, 2, none⟩)) (by kernel_rfl) (fun _ => by kernel_rfl) ?_
      refine s_load 0 ⟨b1, (coV c).cells, 91⟩ (off := 2) (.agg #[.int .i64 c.v.maj, .int .i64 c.v.min, .int .i64 c.v.pat, .string (mkS c.v.pre), .string (mkS c.v.build)]) (by kernel_rfl) rfl (by kernel_rfl) (by kernel_rfl) (by kernel_rfl) ?_
      refine s_call (k := 87) (args := #[.agg #[.int .i64 c.v.maj, .int .i64 c.v.min, .int .i64 c.v.pat, .string (mkS c.v.pre), .string (mkS c.v.build)]]) (.bool c.v.may) (by kernel_rfl) (fun _ => by kernel_rfl) (fun w _ => rmay_any c.v w hc.1 hc.2) ?_
      cases h3 : c.v.may with
      | true =>
        refine s_val (.bool false) (by kernel_rfl) (fun _ => by kernel_rfl) ?_
        refine s_val (.bool false) (by kernel_rfl) (fun _ => by kernel_rfl) ?_
        refine s_val (.bool false) (by kernel_rfl) (fun _ => by kernel_rfl) ?_
        refine s_val (.pointer (some ⟨b1, 2, none⟩)) (by kernel_rfl) (fun _ => by kernel_rfl) ?_
        refine s_val (.pointer (some ⟨b1, 6, none⟩)) (by kernel_rfl) (fun _ => by kernel_rfl) ?_
        refine s_load 0 ⟨b1, (coV c).cells, 91⟩ (off := 6) (.string (mkS c.v.build)) (by kernel_rfl) rfl (by kernel_rfl) (by kernel_rfl) (by kernel_rfl) ?_
        by_cases h4 : (c.v.build : List UInt8) = []
        · skip
          refine s_val (.bool false) (by kernel_rfl) (run_strneq (a := c.v.build) (b := ([])) rfl (by kernel_rfl) (by kernel_rfl) (decide_eq_true (h4))) ?_
          refine s_val (.bool false) (by kernel_rfl) (fun _ => by kernel_rfl) ?_
          refine s_nil ?_
          refine fin_seq ?_
          refine ok_false (by kernel_rfl) ?_
          refine ok_skip ?_
          refine fin_seq ?_
          refine ok_seq ?_
          refine ok_region ?_
          refine s_val (.int .i64 1) (by kernel_rfl) (fun _ => by kernel_rfl) ?_
          refine s_val (.int .i64 3) (by kernel_rfl) (fun _ => by kernel_rfl) ?_
          refine s_nil ?_
          refine fin_seq ?_
          refine ok_seq ?_
          refine ok_seq ?_
          refine ok_region ?_
          refine s_val (.pointer (some ⟨b1, 0, none⟩)) (by kernel_rfl) (fun _ => by kernel_rfl) ?_
          refine s_load 0 ⟨b1, (coV c).cells, 91⟩ (off := 0) (.int .i64 c.op) (by kernel_rfl) rfl (by kernel_rfl) (by kernel_rfl) (by kernel_rfl) ?_
          by_cases h5 : (c.op : Int) = 9
          · skip
            refine s_dec (p := (c.op : Int) = 9) true (by kernel_rfl) (fun _ => by kernel_rfl) (decide_eq_true (h5)) ?_
            refine s_nil ?_
            refine fin_seq ?_
            refine ok_join (fun L f => ∃ (lo : Int) (hi : Int) (j : Nat → Value), ((c.op = 9 → lo = 0 ∧ hi = 2) ∧ (¬ c.op = 9 → lo = 1 ∧ hi = 3)) ∧ L = [⟨b1, (coV c).cells, 91⟩] ∧ f = upds j [(1, .pointer (some ⟨b1, 0, none⟩)), (3, .int .i64 lo), (4, .int .i64 hi)]) ?_ ?_
            · skip
              refine ok_true (by kernel_rfl) ?_
              refine ok_region ?_
              refine s_val (.int .i64 0) (by kernel_rfl) (fun _ => by kernel_rfl) ?_
              refine s_val (.int .i64 2) (by kernel_rfl) (fun _ => by kernel_rfl) ?_
              refine s_nil ?_
              exact fin_join ⟨0, 2, _, ⟨by omega, by omega⟩, rfl, upds_self _ ⟨by kernel_rfl, by kernel_rfl, by kernel_rfl, trivial⟩⟩
            · rintro L f ⟨lo, hi, j, hj3, rfl, rfl⟩
              refine fin_seq ?_
              refine ok_seq ?_
              refine ok_seq ?_
              refine ok_join (fun L f => ∃ (bad : Bool) (j : Nat → Value), ((bad = true → ¬ (lo ≤ c.parts ∧ c.parts ≤ hi ∧ (3 ≤ c.parts ∨ c.v.pre = []))) ∧ (bad = false → lo ≤ c.parts ∧ c.parts ≤ hi ∧ (3 ≤ c.parts ∨ c.v.pre = []))) ∧ L = [⟨b1, (coV c).cells, 91⟩] ∧ f = upds j [(1, .pointer (some ⟨b1, 0, none⟩)), (48, .bool bad)]) ?_ ?_
              · skip
                refine ok_region ?_
                refine s_val (.pointer (some ⟨b1, 1, none⟩)) (by kernel_rfl) (fun _ => by kernel_rfl) ?_
                refine s_load 0 ⟨b1, (coV c).cells, 91⟩ (off := 1) (.int .i64 c.parts) (by kernel_rfl) rfl (by kernel_rfl) (by kernel_rfl) (by kernel_rfl) ?_
                refine s_val (.int .i64 lo) (by kernel_rfl) (fun _ => by kernel_rfl) ?_
                by_cases h6 : (c.parts : Int) < lo
                · skip
                  refine s_dec (p := (c.parts : Int) < lo) true (by kernel_rfl) (fun _ => by kernel_rfl) (decide_eq_true (h6)) ?_
                  refine s_val (.bool true) (by kernel_rfl) (fun _ => by kernel_rfl) ?_
                  refine s_skip (by kernel_rfl) ?_
                  refine s_skip (by kernel_rfl) ?_
                  refine s_skip (by kernel_rfl) ?_
                  refine s_skip (by kernel_rfl) ?_
                  refine s_val (.bool true) (by kernel_rfl) (fun _ => by kernel_rfl) ?_
                  refine s_val (.bool true) (by kernel_rfl) (fun _ => by kernel_rfl) ?_
                  refine s_skip (by kernel_rfl) ?_
                  refine s_skip (by kernel_rfl) ?_
                  refine s_skip (by kernel_rfl) ?_
                  refine s_skip (by kernel_rfl) ?_
                  refine s_skip (by kernel_rfl) ?_
                  refine s_skip (by kernel_rfl) ?_
                  refine s_skip (by kernel_rfl) ?_
                  refine s_skip (by kernel_rfl) ?_
                  refine s_skip (by kernel_rfl) ?_
                  refine s_val (.bool true) (by kernel_rfl) (fun _ => by kernel_rfl) ?_
                  refine s_nil ?_
                  exact fin_join ⟨true, _, ⟨fun q0 => by grind, fun q0 => absurd q0 (by decide)⟩, rfl, upds_self _ ⟨by kernel_rfl, by kernel_rfl, trivial⟩⟩
                · skip
                  refine s_dec (p := (c.parts : Int) < lo) false (by kernel_rfl) (fun _ => by kernel_rfl) (decide_eq_false (h6)) ?_
                  refine s_val (.bool false) (by kernel_rfl) (fun _ => by kernel_rfl) ?_
                  refine s_val (.pointer (some ⟨b1, 1, none⟩)) (by kernel_rfl) (fun _ => by kernel_rfl) ?_
                  refine s_load 0 ⟨b1, (coV c).cells, 91⟩ (off := 1) (.int .i64 c.parts) (by kernel_rfl) rfl (by kernel_rfl) (by kernel_rfl) (by kernel_rfl) ?_
                  refine s_val (.int .i64 hi) (by kernel_rfl) (fun _ => by kernel_rfl) ?_
                  by_cases h7 : (hi : Int) < c.parts
                  · skip
                    refine s_dec (p := (hi : Int) < c.parts) true (by kernel_rfl) (fun _ => by kernel_rfl) (decide_eq_true (h7)) ?_
                    refine s_val (.bool true) (by kernel_rfl) (fun _ => by kernel_rfl) ?_
                    refine s_val (.bool true) (by kernel_rfl) (fun _ => by kernel_rfl) ?_
                    refine s_skip (by kernel_rfl) ?_
                    refine s_skip (by kernel_rfl) ?_
                    refine s_skip (by kernel_rfl) ?_
                    refine s_skip (by kernel_rfl) ?_
                    refine s_skip (by kernel_rfl) ?_
                    refine s_skip (by kernel_rfl) ?_
                    refine s_skip (by kernel_rfl) ?_
                    refine s_skip (by kernel_rfl) ?_
                    refine s_skip (by kernel_rfl) ?_
                    refine s_val (.bool true) (by kernel_rfl) (fun _ => by kernel_rfl) ?_
                    refine s_nil ?_
                    exact fin_join ⟨true, _, ⟨fun q0 => by grind, fun q0 => absurd q0 (by decide)⟩, rfl, upds_self _ ⟨by kernel_rfl, by kernel_rfl, trivial⟩⟩
                  · skip
                    refine s_dec (p := (hi : Int) < c.parts) false (by kernel_rfl) (fun _ => by kernel_rfl) (decide_eq_false (h7)) ?_
                    refine s_val (.bool false) (by kernel_rfl) (fun _ => by kernel_rfl) ?_
                    refine s_val (.bool false) (by kernel_rfl) (fun _ => by kernel_rfl) ?_
                    refine s_val (.pointer (some ⟨b1, 1, none⟩)) (by kernel_rfl) (fun _ => by kernel_rfl) ?_
                    refine s_load 0 ⟨b1, (coV c).cells, 91⟩ (off := 1) (.int .i64 c.parts) (by kernel_rfl) rfl (by kernel_rfl) (by kernel_rfl) (by kernel_rfl) ?_
                    by_cases h8 : (c.parts : Int) < 3
                    · skip
                      refine s_dec (p := (c.parts : Int) < 3) true (by kernel_rfl) (fun _ => by kernel_rfl) (decide_eq_true (h8)) ?_
                      refine s_val (.bool true) (by kernel_rfl) (fun _ => by kernel_rfl) ?_
                      refine s_val (.pointer (some ⟨b1, 2, none⟩)) (by kernel_rfl) (fun _ => by kernel_rfl) ?_
                      refine s_val (.pointer (some ⟨b1, 5, none⟩)) (by kernel_rfl) (fun _ => by kernel_rfl) ?_
                      refine s_load 0 ⟨b1, (coV c).cells, 91⟩ (off := 5) (.string (mkS c.v.pre)) (by kernel_rfl) rfl (by kernel_rfl) (by kernel_rfl) (by kernel_rfl) ?_
                      by_cases h9 : (c.v.pre : List UInt8) = []
                      · skip
                        refine s_val (.bool false) (by kernel_rfl) (run_strneq (a := c.v.pre) (b := ([])) rfl (by kernel_rfl) (by kernel_rfl) (decide_eq_true (h9))) ?_
                        refine s_val (.bool false) (by kernel_rfl) (fun _ => by kernel_rfl) ?_
                        refine s_val (.bool false) (by kernel_rfl) (fun _ => by kernel_rfl) ?_
                        refine s_nil ?_
                        exact fin_join ⟨false, _, ⟨fun q0 => absurd q0 (by decide), fun q0 => ⟨by omega, by omega, by first | exact .inr (by assumption) | exact .inl (by omega)⟩⟩, rfl, upds_self _ ⟨by kernel_rfl, by kernel_rfl, trivial⟩⟩
                      · skip
                        refine s_val (.bool true) (by kernel_rfl) (run_strneq (a := c.v.pre) (b := ([])) rfl (by kernel_rfl) (by kernel_rfl) (decide_eq_false (h9))) ?_
                        refine s_val (.bool true) (by kernel_rfl) (fun _ => by kernel_rfl) ?_
                        refine s_val (.bool true) (by kernel_rfl) (fun _ => by kernel_rfl) ?_
                        refine s_nil ?_
                        exact fin_join ⟨true, _, ⟨fun q0 => by grind, fun q0 => absurd q0 (by decide)⟩, rfl, upds_self _ ⟨by kernel_rfl, by kernel_rfl, trivial⟩⟩
                    · skip
                      refine s_dec (p := (c.parts : Int) < 3) false (by kernel_rfl) (fun _ => by kernel_rfl) (decide_eq_false (h8)) ?_
                      refine s_val (.bool false) (by kernel_rfl) (fun _ => by kernel_rfl) ?_
                      refine s_skip (by kernel_rfl) ?_
                      refine s_skip (by kernel_rfl) ?_
                      refine s_skip (by kernel_rfl) ?_
                      refine s_skip (by kernel_rfl) ?_
                      refine s_val (.bool false) (by kernel_rfl) (fun _ => by kernel_rfl) ?_
                      refine s_val (.bool false) (by kernel_rfl) (fun _ => by kernel_rfl) ?_
                      refine s_nil ?_
                      exact fin_join ⟨false, _, ⟨fun q0 => absurd q0 (by decide), fun q0 => ⟨by omega, by omega, by first | exact .inr (by assumption) | exact .inl (by omega)⟩⟩, rfl, upds_self _ ⟨by kernel_rfl, by kernel_rfl, trivial⟩⟩
              · rintro L f ⟨bad, j, hj2, rfl, rfl⟩
                refine fin_seq ?_
                cases h10 : bad with
                | true =>
                  refine ok_true (by kernel_rfl) ?_
                  refine ok_seq ?_
                  refine ok_region ?_
                  refine s_val (.bool false) (by kernel_rfl) (fun _ => by kernel_rfl) ?_
                  refine s_nil ?_
                  refine fin_seq ?_
                  refine ok_ret ?_
                  refine fin_seq_ret ?_
                  refine fin_ret (.bool false) Try.results68 (by kernel_rfl) ?_
                  exact fun w hO => ⟨by rw [show c.may = false from Bool.eq_false_iff.2 fun q0 => by have q1 := Co.may_iff.1 q0; grind], hO.below⟩
                | false =>
                  refine ok_false (by kernel_rfl) ?_
                  refine ok_skip ?_
                  refine fin_seq ?_
                  refine ok_seq ?_
                  refine ok_region ?_
                  refine s_val (.pointer (some ⟨b1, 1, none⟩)) (by kernel_rfl) (fun _ => by kernel_rfl) ?_
                  refine s_load 0 ⟨b1, (coV c).cells, 91⟩ (off := 1) (.int .i64 c.parts) (by kernel_rfl) rfl (by kernel_rfl) (by kernel_rfl) (by kernel_rfl) ?_
                  by_cases h11 : (0 : Int) < c.parts
                  · skip
                    refine s_dec (p := (0 : Int) < c.parts) true (by kernel_rfl) (fun _ => by kernel_rfl) (decide_eq_true (h11)) ?_
                    refine s_val (.bool true) (by kernel_rfl) (fun _ => by kernel_rfl) ?_
                    refine s_skip (by kernel_rfl) ?_
                    refine s_skip (by kernel_rfl) ?_
                    refine s_skip (by kernel_rfl) ?_
                    refine s_skip (by kernel_rfl) ?_
                    refine s_val (.bool true) (by kernel_rfl) (fun _ => by kernel_rfl) ?_
                    refine s_val (.bool true) (by kernel_rfl) (fun _ => by kernel_rfl) ?_
                    refine s_val (.pointer (some ⟨b1, 1, none⟩)) (by kernel_rfl) (fun _ => by kernel_rfl) ?_
                    refine s_load 0 ⟨b1, (coV c).cells, 91⟩ (off := 1) (.int .i64 c.parts) (by kernel_rfl) rfl (by kernel_rfl) (by kernel_rfl) (by kernel_rfl) ?_
                    by_cases h12 : (1 : Int) < c.parts
                    · skip
                      refine s_dec (p := (1 : Int) < c.parts) true (by kernel_rfl) (fun _ => by kernel_rfl) (decide_eq_true (h12)) ?_
                      refine s_val (.bool true) (by kernel_rfl) (fun _ => by kernel_rfl) ?_
                      refine s_skip (by kernel_rfl) ?_
                      refine s_skip (by kernel_rfl) ?_
                      refine s_skip (by kernel_rfl) ?_
                      refine s_skip (by kernel_rfl) ?_
                      refine s_val (.bool true) (by kernel_rfl) (fun _ => by kernel_rfl) ?_
                      refine s_val (.bool true) (by kernel_rfl) (fun _ => by kernel_rfl) ?_
                      refine s_val (.bool true) (by kernel_rfl) (fun _ => by kernel_rfl) ?_
                      refine s_val (.pointer (some ⟨b1, 1, none⟩)) (by kernel_rfl) (fun _ => by kernel_rfl) ?_
                      refine s_load 0 ⟨b1, (coV c).cells, 91⟩ (off := 1) (.int .i64 c.parts) (by kernel_rfl) rfl (by kernel_rfl) (by kernel_rfl) (by kernel_rfl) ?_
                      by_cases h13 : (2 : Int) < c.parts
                      · skip
                        refine s_dec (p := (2 : Int) < c.parts) true (by kernel_rfl) (fun _ => by kernel_rfl) (decide_eq_true (h13)) ?_
                        refine s_val (.bool true) (by kernel_rfl) (fun _ => by kernel_rfl) ?_
                        refine s_skip (by kernel_rfl) ?_
                        refine s_skip (by kernel_rfl) ?_
                        refine s_skip (by kernel_rfl) ?_
                        refine s_skip (by kernel_rfl) ?_
                        refine s_val (.bool true) (by kernel_rfl) (fun _ => by kernel_rfl) ?_
                        refine s_val (.bool true) (by kernel_rfl) (fun _ => by kernel_rfl) ?_
                        refine s_val (.bool true) (by kernel_rfl) (fun _ => by kernel_rfl) ?_
                        refine s_nil ?_
                        refine fin_seq ?_
                        refine ok_ret ?_
                        refine fin_ret (.bool true) Try.results68 (by kernel_rfl) ?_
                        exact fun w hO => ⟨by rw [Co.may_iff.2 ⟨by omega, by assumption, by assumption, by grind, by grind, by grind, by omega, by omega, by omega⟩], hO.below⟩
                      · skip
                        refine s_dec (p := (2 : Int) < c.parts) false (by kernel_rfl) (fun _ => by kernel_rfl) (decide_eq_false (h13)) ?_
                        refine s_val (.bool false) (by kernel_rfl) (fun _ => by kernel_rfl) ?_
                        refine s_val (.pointer (some ⟨b1, 2, none⟩)) (by kernel_rfl) (fun _ => by kernel_rfl) ?_
                        refine s_val (.pointer (some ⟨b1, 4, none⟩)) (by kernel_rfl) (fun _ => by kernel_rfl) ?_
                        refine s_load 0 ⟨b1, (coV c).cells, 91⟩ (off := 4) (.int .i64 c.v.pat) (by kernel_rfl) rfl (by kernel_rfl) (by kernel_rfl) (by kernel_rfl) ?_
                        by_cases h14 : (c.v.pat : Int) = 0
                        · skip
                          refine s_dec (p := (c.v.pat : Int) = 0) true (by kernel_rfl) (fun _ => by kernel_rfl) (decide_eq_true (h14)) ?_
                          refine s_val (.bool true) (by kernel_rfl) (fun _ => by kernel_rfl) ?_
                          refine s_val (.bool true) (by kernel_rfl) (fun _ => by kernel_rfl) ?_
                          refine s_val (.bool true) (by kernel_rfl) (fun _ => by kernel_rfl) ?_
                          refine s_nil ?_
                          refine fin_seq ?_
                          refine ok_ret ?_
                          refine fin_ret (.bool true) Try.results68 (by kernel_rfl) ?_
                          exact fun w hO => ⟨by rw [Co.may_iff.2 ⟨by omega, by assumption, by assumption, by grind, by grind, by grind, by omega, by omega, by omega⟩], hO.below⟩
                        · skip
                          refine s_dec (p := (c.v.pat : Int) = 0) false (by kernel_rfl) (fun _ => by kernel_rfl) (decide_eq_false (h14)) ?_
                          refine s_val (.bool false) (by kernel_rfl) (fun _ => by kernel_rfl) ?_
                          refine s_val (.bool false) (by kernel_rfl) (fun _ => by kernel_rfl) ?_
                          refine s_val (.bool false) (by kernel_rfl) (fun _ => by kernel_rfl) ?_
                          refine s_nil ?_
                          refine fin_seq ?_
                          refine ok_ret ?_
                          refine fin_ret (.bool false) Try.results68 (by kernel_rfl) ?_
                          exact fun w hO => ⟨by rw [show c.may = false from Bool.eq_false_iff.2 fun q0 => by have q1 := Co.may_iff.1 q0; grind], hO.below⟩
                    · skip
                      refine s_dec (p := (1 : Int) < c.parts) false (by kernel_rfl) (fun _ => by kernel_rfl) (decide_eq_false (h12)) ?_
                      refine s_val (.bool false) (by kernel_rfl) (fun _ => by kernel_rfl) ?_
                      refine s_val (.pointer (some ⟨b1, 2, none⟩)) (by kernel_rfl) (fun _ => by kernel_rfl) ?_
                      refine s_val (.pointer (some ⟨b1, 3, none⟩)) (by kernel_rfl) (fun _ => by kernel_rfl) ?_
                      refine s_load 0 ⟨b1, (coV c).cells, 91⟩ (off := 3) (.int .i64 c.v.min) (by kernel_rfl) rfl (by kernel_rfl) (by kernel_rfl) (by kernel_rfl) ?_
                      by_cases h15 : (c.v.min : Int) = 0
                      · skip
                        refine s_dec (p := (c.v.min : Int) = 0) true (by kernel_rfl) (fun _ => by kernel_rfl) (decide_eq_true (h15)) ?_
                        refine s_val (.bool true) (by kernel_rfl) (fun _ => by kernel_rfl) ?_
                        refine s_val (.bool true) (by kernel_rfl) (fun _ => by kernel_rfl) ?_
                        refine s_val (.bool true) (by kernel_rfl) (fun _ => by kernel_rfl) ?_
                        refine s_val (.pointer (some ⟨b1, 1, none⟩)) (by kernel_rfl) (fun _ => by kernel_rfl) ?_
                        refine s_load 0 ⟨b1, (coV c).cells, 91⟩ (off := 1) (.int .i64 c.parts) (by kernel_rfl) rfl (by kernel_rfl) (by kernel_rfl) (by kernel_rfl) ?_
                        by_cases h16 : (2 : Int) < c.parts
                        · skip
                          refine s_dec (p := (2 : Int) < c.parts) true (by kernel_rfl) (fun _ => by kernel_rfl) (decide_eq_true (h16)) ?_
                          refine s_val (.bool true) (by kernel_rfl) (fun _ => by kernel_rfl) ?_
                          refine s_skip (by kernel_rfl) ?_
                          refine s_skip (by kernel_rfl) ?_
                          refine s_skip (by kernel_rfl) ?_
                          refine s_skip (by kernel_rfl) ?_
                          refine s_val (.bool true) (by kernel_rfl) (fun _ => by kernel_rfl) ?_
                          refine s_val (.bool true) (by kernel_rfl) (fun _ => by kernel_rfl) ?_
                          refine s_val (.bool true) (by kernel_rfl) (fun _ => by kernel_rfl) ?_
                          refine s_nil ?_
                          refine fin_seq ?_
                          refine ok_ret ?_
                          refine fin_ret (.bool true) Try.results68 (by kernel_rfl) ?_
                          exact fun w hO => ⟨by rw [Co.may_iff.2 ⟨by omega, by assumption, by assumption, by grind, by grind, by grind, by omega, by omega, by omega⟩], hO.below⟩
                        · skip
                          refine s_dec (p := (2 : Int) < c.parts) false (by kernel_rfl) (fun _ => by kernel_rfl) (decide_eq_false (h16)) ?_
                          refine s_val (.bool false) (by kernel_rfl) (fun _ => by kernel_rfl) ?_
                          refine s_val (.pointer (some ⟨b1, 2, none⟩)) (by kernel_rfl) (fun _ => by kernel_rfl) ?_
                          refine s_val (.pointer (some ⟨b1, 4, none⟩)) (by kernel_rfl) (fun _ => by kernel_rfl) ?_
                          refine s_load 0 ⟨b1, (coV c).cells, 91⟩ (off := 4) (.int .i64 c.v.pat) (by kernel_rfl) rfl (by kernel_rfl) (by kernel_rfl) (by kernel_rfl) ?_
                          by_cases h17 : (c.v.pat : Int) = 0
                          · skip
                            refine s_dec (p := (c.v.pat : Int) = 0) true (by kernel_rfl) (fun _ => by kernel_rfl) (decide_eq_true (h17)) ?_
                            refine s_val (.bool true) (by kernel_rfl) (fun _ => by kernel_rfl) ?_
                            refine s_val (.bool true) (by kernel_rfl) (fun _ => by kernel_rfl) ?_
                            refine s_val (.bool true) (by kernel_rfl) (fun _ => by kernel_rfl) ?_
                            refine s_nil ?_
                            refine fin_seq ?_
                            refine ok_ret ?_
                            refine fin_ret (.bool true) Try.results68 (by kernel_rfl) ?_
                            exact fun w hO => ⟨by rw [Co.may_iff.2 ⟨by omega, by assumption, by assumption, by grind, by grind, by grind, by omega, by omega, by omega⟩], hO.below⟩
                          · skip
                            refine s_dec (p := (c.v.pat : Int) = 0) false (by kernel_rfl) (fun _ => by kernel_rfl) (decide_eq_false (h17)) ?_
                            refine s_val (.bool false) (by kernel_rfl) (fun _ => by kernel_rfl) ?_
                            refine s_val (.bool false) (by kernel_rfl) (fun _ => by kernel_rfl) ?_
                            refine s_val (.bool false) (by kernel_rfl) (fun _ => by kernel_rfl) ?_
                            refine s_nil ?_
                            refine fin_seq ?_
                            refine ok_ret ?_
                            refine fin_ret (.bool false) Try.results68 (by kernel_rfl) ?_
                            exact fun w hO => ⟨by rw [show c.may = false from Bool.eq_false_iff.2 fun q0 => by have q1 := Co.may_iff.1 q0; grind], hO.below⟩
                      · skip
                        refine s_dec (p := (c.v.min : Int) = 0) false (by kernel_rfl) (fun _ => by kernel_rfl) (decide_eq_false (h15)) ?_
                        refine s_val (.bool false) (by kernel_rfl) (fun _ => by kernel_rfl) ?_
                        refine s_val (.bool false) (by kernel_rfl) (fun _ => by kernel_rfl) ?_
                        refine s_val (.bool false) (by kernel_rfl) (fun _ => by kernel_rfl) ?_
                        refine s_skip (by kernel_rfl) ?_
                        refine s_skip (by kernel_rfl) ?_
                        refine s_skip (by kernel_rfl) ?_
                        refine s_skip (by kernel_rfl) ?_
                        refine s_skip (by kernel_rfl) ?_
                        refine s_skip (by kernel_rfl) ?_
                        refine s_skip (by kernel_rfl) ?_
                        refine s_skip (by kernel_rfl) ?_
                        refine s_skip (by kernel_rfl) ?_
                        refine s_val (.bool false) (by kernel_rfl) (fun _ => by kernel_rfl) ?_
                        refine s_val (.bool false) (by kernel_rfl) (fun _ => by kernel_rfl) ?_
                        refine s_nil ?_
                        refine fin_seq ?_
                        refine ok_ret ?_
                        refine fin_ret (.bool false) Try.results68 (by kernel_rfl) ?_
                        exact fun w hO => ⟨by rw [show c.may = false from Bool.eq_false_iff.2 fun q0 => by have q1 := Co.may_iff.1 q0; grind], hO.below⟩
                  · skip
                    refine s_dec (p := (0 : Int) < c.parts) false (by kernel_rfl) (fun _ => by kernel_rfl) (decide_eq_false (h11)) ?_
                    refine s_val (.bool false) (by kernel_rfl) (fun _ => by kernel_rfl) ?_
                    refine s_val (.pointer (some ⟨b1, 2, none⟩)) (by kernel_rfl) (fun _ => by kernel_rfl) ?_
                    refine s_val (.pointer (some ⟨b1, 2, none⟩)) (by kernel_rfl) (fun _ => by kernel_rfl) ?_
                    refine s_load 0 ⟨b1, (coV c).cells, 91⟩ (off := 2) (.int .i64 c.v.maj) (by kernel_rfl) rfl (by kernel_rfl) (by kernel_rfl) (by kernel_rfl) ?_
                    by_cases h18 : (c.v.maj : Int) = 0
                    · skip
                      refine s_dec (p := (c.v.maj : Int) = 0) true (by kernel_rfl) (fun _ => by kernel_rfl) (decide_eq_true (h18)) ?_
                      refine s_val (.bool true) (by kernel_rfl) (fun _ => by kernel_rfl) ?_
                      refine s_val (.bool true) (by kernel_rfl) (fun _ => by kernel_rfl) ?_
                      refine s_val (.pointer (some ⟨b1, 1, none⟩)) (by kernel_rfl) (fun _ => by kernel_rfl) ?_
                      refine s_load 0 ⟨b1, (coV c).cells, 91⟩ (off := 1) (.int .i64 c.parts) (by kernel_rfl) rfl (by kernel_rfl) (by kernel_rfl) (by kernel_rfl) ?_
                      by_cases h19 : (1 : Int) < c.parts
                      · skip
                        refine s_dec (p := (1 : Int) < c.parts) true (by kernel_rfl) (fun _ => by kernel_rfl) (decide_eq_true (h19)) ?_
                        refine s_val (.bool true) (by kernel_rfl) (fun _ => by kernel_rfl) ?_
                        refine s_skip (by kernel_rfl) ?_
                        refine s_skip (by kernel_rfl) ?_
                        refine s_skip (by kernel_rfl) ?_
                        refine s_skip (by kernel_rfl) ?_
                        refine s_val (.bool true) (by kernel_rfl) (fun _ => by kernel_rfl) ?_
                        refine s_val (.bool true) (by kernel_rfl) (fun _ => by kernel_rfl) ?_
                        refine s_val (.bool true) (by kernel_rfl) (fun _ => by kernel_rfl) ?_
                        refine s_val (.pointer (some ⟨b1, 1, none⟩)) (by kernel_rfl) (fun _ => by kernel_rfl) ?_
                        refine s_load 0 ⟨b1, (coV c).cells, 91⟩ (off := 1) (.int .i64 c.parts) (by kernel_rfl) rfl (by kernel_rfl) (by kernel_rfl) (by kernel_rfl) ?_
                        by_cases h20 : (2 : Int) < c.parts
                        · skip
                          refine s_dec (p := (2 : Int) < c.parts) true (by kernel_rfl) (fun _ => by kernel_rfl) (decide_eq_true (h20)) ?_
                          refine s_val (.bool true) (by kernel_rfl) (fun _ => by kernel_rfl) ?_
                          refine s_skip (by kernel_rfl) ?_
                          refine s_skip (by kernel_rfl) ?_
                          refine s_skip (by kernel_rfl) ?_
                          refine s_skip (by kernel_rfl) ?_
                          refine s_val (.bool true) (by kernel_rfl) (fun _ => by kernel_rfl) ?_
                          refine s_val (.bool true) (by kernel_rfl) (fun _ => by kernel_rfl) ?_
                          refine s_val (.bool true) (by kernel_rfl) (fun _ => by kernel_rfl) ?_
                          refine s_nil ?_
                          refine fin_seq ?_
                          refine ok_ret ?_
                          refine fin_ret (.bool true) Try.results68 (by kernel_rfl) ?_
                          exact fun w hO => ⟨by rw [Co.may_iff.2 ⟨by omega, by assumption, by assumption, by grind, by grind, by grind, by omega, by omega, by omega⟩], hO.below⟩
                        · skip
                          refine s_dec (p := (2 : Int) < c.parts) false (by kernel_rfl) (fun _ => by kernel_rfl) (decide_eq_false (h20)) ?_
                          refine s_val (.bool false) (by kernel_rfl) (fun _ => by kernel_rfl) ?_
                          refine s_val (.pointer (some ⟨b1, 2, none⟩)) (by kernel_rfl) (fun _ => by kernel_rfl) ?_
                          refine s_val (.pointer (some ⟨b1, 4, none⟩)) (by kernel_rfl) (fun _ => by kernel_rfl) ?_
                          refine s_load 0 ⟨b1, (coV c).cells, 91⟩ (off := 4) (.int .i64 c.v.pat) (by kernel_rfl) rfl (by kernel_rfl) (by kernel_rfl) (by kernel_rfl) ?_
                          by_cases h21 : (c.v.pat : Int) = 0
                          · skip
                            refine s_dec (p := (c.v.pat : Int) = 0) true (by kernel_rfl) (fun _ => by kernel_rfl) (decide_eq_true (h21)) ?_
                            refine s_val (.bool true) (by kernel_rfl) (fun _ => by kernel_rfl) ?_
                            refine s_val (.bool true) (by kernel_rfl) (fun _ => by kernel_rfl) ?_
                            refine s_val (.bool true) (by kernel_rfl) (fun _ => by kernel_rfl) ?_
                            refine s_nil ?_
                            refine fin_seq ?_
                            refine ok_ret ?_
                            refine fin_ret (.bool true) Try.results68 (by kernel_rfl) ?_
                            exact fun w hO => ⟨by rw [Co.may_iff.2 ⟨by omega, by assumption, by assumption, by grind, by grind, by grind, by omega, by omega, by omega⟩], hO.below⟩
                          · skip
                            refine s_dec (p := (c.v.pat : Int) = 0) false (by kernel_rfl) (fun _ => by kernel_rfl) (decide_eq_false (h21)) ?_
                            refine s_val (.bool false) (by kernel_rfl) (fun _ => by kernel_rfl) ?_
                            refine s_val (.bool false) (by kernel_rfl) (fun _ => by kernel_rfl) ?_
                            refine s_val (.bool false) (by kernel_rfl) (fun _ => by kernel_rfl) ?_
                            refine s_nil ?_
                            refine fin_seq ?_
                            refine ok_ret ?_
                            refine fin_ret (.bool false) Try.results68 (by kernel_rfl) ?_
                            exact fun w hO => ⟨by rw [show c.may = false from Bool.eq_false_iff.2 fun q0 => by have q1 := Co.may_iff.1 q0; grind], hO.below⟩
                      · skip
                        refine s_dec (p := (1 : Int) < c.parts) false (by kernel_rfl) (fun _ => by kernel_rfl) (decide_eq_false (h19)) ?_
                        refine s_val (.bool false) (by kernel_rfl) (fun _ => by kernel_rfl) ?_
                        refine s_val (.pointer (some ⟨b1, 2, none⟩)) (by kernel_rfl) (fun _ => by kernel_rfl) ?_
                        refine s_val (.pointer (some ⟨b1, 3, none⟩)) (by kernel_rfl) (fun _ => by kernel_rfl) ?_
                        refine s_load 0 ⟨b1, (coV c).cells, 91⟩ (off := 3) (.int .i64 c.v.min) (by kernel_rfl) rfl (by kernel_rfl) (by kernel_rfl) (by kernel_rfl) ?_
                        by_cases h22 : (c.v.min : Int) = 0
                        · skip
                          refine s_dec (p := (c.v.min : Int) = 0) true (by kernel_rfl) (fun _ => by kernel_rfl) (decide_eq_true (h22)) ?_
                          refine s_val (.bool true) (by kernel_rfl) (fun _ => by kernel_rfl) ?_
                          refine s_val (.bool true) (by kernel_rfl) (fun _ => by kernel_rfl) ?_
                          refine s_val (.bool true) (by kernel_rfl) (fun _ => by kernel_rfl) ?_
                          refine s_val (.pointer (some ⟨b1, 1, none⟩)) (by kernel_rfl) (fun _ => by kernel_rfl) ?_
                          refine s_load 0 ⟨b1, (coV c).cells, 91⟩ (off := 1) (.int .i64 c.parts) (by kernel_rfl) rfl (by kernel_rfl) (by kernel_rfl) (by kernel_rfl) ?_
                          by_cases h23 : (2 : Int) < c.parts
                          · skip
                            refine s_dec (p := (2 : Int) < c.parts) true (by kernel_rfl) (fun _ => by kernel_rfl) (decide_eq_true (h23)) ?_
                            refine s_val (.bool true) (by kernel_rfl) (fun _ => by kernel_rfl) ?_
                            refine s_skip (by kernel_rfl) ?_
                            refine s_skip (by kernel_rfl) ?_
                            refine s_skip (by kernel_rfl) ?_
                            refine s_skip (by kernel_rfl) ?_
                            refine s_val (.bool true) (by kernel_rfl) (fun _ => by kernel_rfl) ?_
                            refine s_val (.bool true) (by kernel_rfl) (fun _ => by kernel_rfl) ?_
                            refine s_val (.bool true) (by kernel_rfl) (fun _ => by kernel_rfl) ?_
                            refine s_nil ?_
                            refine fin_seq ?_
                            refine ok_ret ?_
                            refine fin_ret (.bool true) Try.results68 (by kernel_rfl) ?_
                            exact fun w hO => ⟨by rw [Co.may_iff.2 ⟨by omega, by assumption, by assumption, by grind, by grind, by grind, by omega, by omega, by omega⟩], hO.below⟩
                          · skip
                            refine s_dec (p := (2 : Int) < c.parts) false (by kernel_rfl) (fun _ => by kernel_rfl) (decide_eq_false (h23)) ?_
                            refine s_val (.bool false) (by kernel_rfl) (fun _ => by kernel_rfl) ?_
                            refine s_val (.pointer (some ⟨b1, 2, none⟩)) (by kernel_rfl) (fun _ => by kernel_rfl) ?_
                            refine s_val (.pointer (some ⟨b1, 4, none⟩)) (by kernel_rfl) (fun _ => by kernel_rfl) ?_
                            refine s_load 0 ⟨b1, (coV c).cells, 91⟩ (off := 4) (.int .i64 c.v.pat) (by kernel_rfl) rfl (by kernel_rfl) (by kernel_rfl) (by kernel_rfl) ?_
                            by_cases h24 : (c.v.pat : Int) = 0
                            · skip
                              refine s_dec (p := (c.v.pat : Int) = 0) true (by kernel_rfl) (fun _ => by kernel_rfl) (decide_eq_true (h24)) ?_
                              refine s_val (.bool true) (by kernel_rfl) (fun _ => by kernel_rfl) ?_
                              refine s_val (.bool true) (by kernel_rfl) (fun _ => by kernel_rfl) ?_
                              refine s_val (.bool true) (by kernel_rfl) (fun _ => by kernel_rfl) ?_
                              refine s_nil ?_
                              refine fin_seq ?_
                              refine ok_ret ?_
                              refine fin_ret (.bool true) Try.results68 (by kernel_rfl) ?_
                              exact fun w hO => ⟨by rw [Co.may_iff.2 ⟨by omega, by assumption, by assumption, by grind, by grind, by grind, by omega, by omega, by omega⟩], hO.below⟩
                            · skip
                              refine s_dec (p := (c.v.pat : Int) = 0) false (by kernel_rfl) (fun _ => by kernel_rfl) (decide_eq_false (h24)) ?_
                              refine s_val (.bool false) (by kernel_rfl) (fun _ => by kernel_rfl) ?_
                              refine s_val (.bool false) (by kernel_rfl) (fun _ => by kernel_rfl) ?_
                              refine s_val (.bool false) (by kernel_rfl) (fun _ => by kernel_rfl) ?_
                              refine s_nil ?_
                              refine fin_seq ?_
                              refine ok_ret ?_
                              refine fin_ret (.bool false) Try.results68 (by kernel_rfl) ?_
                              exact fun w hO => ⟨by rw [show c.may = false from Bool.eq_false_iff.2 fun q0 => by have q1 := Co.may_iff.1 q0; grind], hO.below⟩
                        · skip
                          refine s_dec (p := (c.v.min : Int) = 0) false (by kernel_rfl) (fun _ => by kernel_rfl) (decide_eq_false (h22)) ?_
                          refine s_val (.bool false) (by kernel_rfl) (fun _ => by kernel_rfl) ?_
                          refine s_val (.bool false) (by kernel_rfl) (fun _ => by kernel_rfl) ?_
                          refine s_val (.bool false) (by kernel_rfl) (fun _ => by kernel_rfl) ?_
                          refine s_skip (by kernel_rfl) ?_
                          refine s_skip (by kernel_rfl) ?_
                          refine s_skip (by kernel_rfl) ?_
                          refine s_skip (by kernel_rfl) ?_
                          refine s_skip (by kernel_rfl) ?_
                          refine s_skip (by kernel_rfl) ?_
                          refine s_skip (by kernel_rfl) ?_
                          refine s_skip (by kernel_rfl) ?_
                          refine s_skip (by kernel_rfl) ?_
                          refine s_val (.bool false) (by kernel_rfl) (fun _ => by kernel_rfl) ?_
                          refine s_val (.bool false) (by kernel_rfl) (fun _ => by kernel_rfl) ?_
                          refine s_nil ?_
                          refine fin_seq ?_
                          refine ok_ret ?_
                          refine fin_ret (.bool false) Try.results68 (by kernel_rfl) ?_
                          exact fun w hO => ⟨by rw [show c.may = false from Bool.eq_false_iff.2 fun q0 => by have q1 := Co.may_iff.1 q0; grind], hO.below⟩
                    · skip
                      refine s_dec (p := (c.v.maj : Int) = 0) false (by kernel_rfl) (fun _ => by kernel_rfl) (decide_eq_false (h18)) ?_
                      refine s_val (.bool false) (by kernel_rfl) (fun _ => by kernel_rfl) ?_
                      refine s_val (.bool false) (by kernel_rfl) (fun _ => by kernel_rfl) ?_
                      refine s_skip (by kernel_rfl) ?_
                      refine s_skip (by kernel_rfl) ?_
                      refine s_skip (by kernel_rfl) ?_
                      refine s_skip (by kernel_rfl) ?_
                      refine s_skip (by kernel_rfl) ?_
                      refine s_skip (by kernel_rfl) ?_
                      refine s_skip (by kernel_rfl) ?_
                      refine s_skip (by kernel_rfl) ?_
                      refine s_skip (by kernel_rfl) ?_
                      refine s_val (.bool false) (by kernel_rfl) (fun _ => by kernel_rfl) ?_
                      refine s_val (.bool false) (by kernel_rfl) (fun _ => by kernel_rfl) ?_
                      refine s_skip (by kernel_rfl) ?_
                      refine s_skip (by kernel_rfl) ?_
                      refine s_skip (by kernel_rfl) ?_
                      refine s_skip (by kernel_rfl) ?_
                      refine s_skip (by kernel_rfl) ?_
                      refine s_skip (by kernel_rfl) ?_
                      refine s_skip (by kernel_rfl) ?_
                      refine s_skip (by kernel_rfl) ?_
                      refine s_skip (by kernel_rfl) ?_
                      refine s_val (.bool false) (by kernel_rfl) (fun _ => by kernel_rfl) ?_
                      refine s_val (.bool false) (by kernel_rfl) (fun _ => by kernel_rfl) ?_
                      refine s_nil ?_
                      refine fin_seq ?_
                      refine ok_ret ?_
                      refine fin_ret (.bool false) Try.results68 (by kernel_rfl) ?_
                      exact fun w hO => ⟨by rw [show c.may = false from Bool.eq_false_iff.2 fun q0 => by have q1 := Co.may_iff.1 q0; grind], hO.below⟩
          · skip
            refine s_dec (p := (c.op : Int) = 9) false (by kernel_rfl) (fun _ => by kernel_rfl) (decide_eq_false (h5)) ?_
            refine s_nil ?_
            refine fin_seq ?_
            refine ok_join (fun L f => ∃ (lo : Int) (hi : Int) (j : Nat → Value), ((c.op = 9 → lo = 0 ∧ hi = 2) ∧ (¬ c.op = 9 → lo = 1 ∧ hi = 3)) ∧ L = [⟨b1, (coV c).cells, 91⟩] ∧ f = upds j [(1, .pointer (some ⟨b1, 0, none⟩)), (3, .int .i64 lo), (4, .int .i64 hi)]) ?_ ?_
            · skip
              refine ok_false (by kernel_rfl) ?_
              refine ok_skip ?_
              exact fin_join ⟨1, 3, _, ⟨by omega, by omega⟩, rfl, upds_self _ ⟨by kernel_rfl, by kernel_rfl, by kernel_rfl, trivial⟩⟩
            · rintro L f ⟨lo, hi, j, hj3, rfl, rfl⟩
              refine fin_seq ?_
              refine ok_seq ?_
              refine ok_seq ?_
              refine ok_join (fun L f => ∃ (bad : Bool) (j : Nat → Value), ((bad = true → ¬ (lo ≤ c.parts ∧ c.parts ≤ hi ∧ (3 ≤ c.parts ∨ c.v.pre = []))) ∧ (bad = false → lo ≤ c.parts ∧ c.parts ≤ hi ∧ (3 ≤ c.parts ∨ c.v.pre = []))) ∧ L = [⟨b1, (coV c).cells, 91⟩] ∧ f = upds j [(1, .pointer (some ⟨b1, 0, none⟩)), (48, .bool bad)]) ?_ ?_
              · skip
                refine ok_region ?_
                refine s_val (.pointer (some ⟨b1, 1, none⟩)) (by kernel_rfl) (fun _ => by kernel_rfl) ?_
                refine s_load 0 ⟨b1, (coV c).cells, 91⟩ (off := 1) (.int .i64 c.parts) (by kernel_rfl) rfl (by kernel_rfl) (by kernel_rfl) (by kernel_rfl) ?_
                refine s_val (.int .i64 lo) (by kernel_rfl) (fun _ => by kernel_rfl) ?_
                by_cases h25 : (c.parts : Int) < lo
                · skip
                  refine s_dec (p := (c.parts : Int) < lo) true (by kernel_rfl) (fun _ => by kernel_rfl) (decide_eq_true (h25)) ?_
                  refine s_val (.bool true) (by kernel_rfl) (fun _ => by kernel_rfl) ?_
                  refine s_skip (by kernel_rfl) ?_
                  refine s_skip (by kernel_rfl) ?_
                  refine s_skip (by kernel_rfl) ?_
                  refine s_skip (by kernel_rfl) ?_
                  refine s_val (.bool true) (by kernel_rfl) (fun _ => by kernel_rfl) ?_
                  refine s_val (.bool true) (by kernel_rfl) (fun _ => by kernel_rfl) ?_
                  refine s_skip (by kernel_rfl) ?_
                  refine s_skip (by kernel_rfl) ?_
                  refine s_skip (by kernel_rfl) ?_
                  refine s_skip (by kernel_rfl) ?_
                  refine s_skip (by kernel_rfl) ?_
                  refine s_skip (by kernel_rfl) ?_
                  refine s_skip (by kernel_rfl) ?_
                  refine s_skip (by kernel_rfl) ?_
                  refine s_skip (by kernel_rfl) ?_
                  refine s_val (.bool true) (by kernel_rfl) (fun _ => by kernel_rfl) ?_
                  refine s_nil ?_
                  exact fin_join ⟨true, _, ⟨fun q0 => by grind, fun q0 => absurd q0 (by decide)⟩, rfl, upds_self _ ⟨by kernel_rfl, by kernel_rfl, trivial⟩⟩
                · skip
                  refine s_dec (p := (c.parts : Int) < lo) false (by kernel_rfl) (fun _ => by kernel_rfl) (decide_eq_false (h25)) ?_
                  refine s_val (.bool false) (by kernel_rfl) (fun _ => by kernel_rfl) ?_
                  refine s_val (.pointer (some ⟨b1, 1, none⟩)) (by kernel_rfl) (fun _ => by kernel_rfl) ?_
                  refine s_load 0 ⟨b1, (coV c).cells, 91⟩ (off := 1) (.int .i64 c.parts) (by kernel_rfl) rfl (by kernel_rfl) (by kernel_rfl) (by kernel_rfl) ?_
                  refine s_val (.int .i64 hi) (by kernel_rfl) (fun _ => by kernel_rfl) ?_
                  by_cases h26 : (hi : Int) < c.parts
                  · skip
                    refine s_dec (p := (hi : Int) < c.parts) true (by kernel_rfl) (fun _ => by kernel_rfl) (decide_eq_true (h26)) ?_
                    refine s_val (.bool true) (by kernel_rfl) (fun _ => by kernel_rfl) ?_
                    refine s_val (.bool true) (by kernel_rfl) (fun _ => by kernel_rfl) ?_
                    refine s_skip (by kernel_rfl) ?_
                    refine s_skip (by kernel_rfl) ?_
                    refine s_skip (by kernel_rfl) ?_
                    refine s_skip (by kernel_rfl) ?_
                    refine s_skip (by kernel_rfl) ?_
                    refine s_skip (by kernel_rfl) ?_
                    refine s_skip (by kernel_rfl) ?_
                    refine s_skip (by kernel_rfl) ?_
                    refine s_skip (by kernel_rfl) ?_
                    refine s_val (.bool true) (by kernel_rfl) (fun _ => by kernel_rfl) ?_
                    refine s_nil ?_
                    exact fin_join ⟨true, _, ⟨fun q0 => by grind, fun q0 => absurd q0 (by decide)⟩, rfl, upds_self _ ⟨by kernel_rfl, by kernel_rfl, trivial⟩⟩
                  · skip
                    refine s_dec (p := (hi : Int) < c.parts) false (by kernel_rfl) (fun _ => by kernel_rfl) (decide_eq_false (h26)) ?_
                    refine s_val (.bool false) (by kernel_rfl) (fun _ => by kernel_rfl) ?_
                    refine s_val (.bool false) (by kernel_rfl) (fun _ => by kernel_rfl) ?_
                    refine s_val (.pointer (some ⟨b1, 1, none⟩)) (by kernel_rfl) (fun _ => by kernel_rfl) ?_
                    refine s_load 0 ⟨b1, (coV c).cells, 91⟩ (off := 1) (.int .i64 c.parts) (by kernel_rfl) rfl (by kernel_rfl) (by kernel_rfl) (by kernel_rfl) ?_
                    by_cases h27 : (c.parts : Int) < 3
                    · skip
                      refine s_dec (p := (c.parts : Int) < 3) true (by kernel_rfl) (fun _ => by kernel_rfl) (decide_eq_true (h27)) ?_
                      refine s_val (.bool true) (by kernel_rfl) (fun _ => by kernel_rfl) ?_
                      refine s_val (.pointer (some ⟨b1, 2, none⟩)) (by kernel_rfl) (fun _ => by kernel_rfl) ?_
                      refine s_val (.pointer (some ⟨b1, 5, none⟩)) (by kernel_rfl) (fun _ => by kernel_rfl) ?_
                      refine s_load 0 ⟨b1, (coV c).cells, 91⟩ (off := 5) (.string (mkS c.v.pre)) (by kernel_rfl) rfl (by kernel_rfl) (by kernel_rfl) (by kernel_rfl) ?_
                      by_cases h28 : (c.v.pre : List UInt8) = []
                      · skip
                        refine s_val (.bool false) (by kernel_rfl) (run_strneq (a := c.v.pre) (b := ([])) rfl (by kernel_rfl) (by kernel_rfl) (decide_eq_true (h28))) ?_
                        refine s_val (.bool false) (by kernel_rfl) (fun _ => by kernel_rfl) ?_
                        refine s_val (.bool false) (by kernel_rfl) (fun _ => by kernel_rfl) ?_
                        refine s_nil ?_
                        exact fin_join ⟨false, _, ⟨fun q0 => absurd q0 (by decide), fun q0 => ⟨by omega, by omega, by first | exact .inr (by assumption) | exact .inl (by omega)⟩⟩, rfl, upds_self _ ⟨by kernel_rfl, by kernel_rfl, trivial⟩⟩
                      · skip
                        refine s_val (.bool true) (by kernel_rfl) (run_strneq (a := c.v.pre) (b := ([])) rfl (by kernel_rfl) (by kernel_rfl) (decide_eq_false (h28))) ?_
                        refine s_val (.bool true) (by kernel_rfl) (fun _ => by kernel_rfl) ?_
                        refine s_val (.bool true) (by kernel_rfl) (fun _ => by kernel_rfl) ?_
                        refine s_nil ?_
                        exact fin_join ⟨true, _, ⟨fun q0 => by grind, fun q0 => absurd q0 (by decide)⟩, rfl, upds_self _ ⟨by kernel_rfl, by kernel_rfl, trivial⟩⟩
                    · skip
                      refine s_dec (p := (c.parts : Int) < 3) false (by kernel_rfl) (fun _ => by kernel_rfl) (decide_eq_false (h27)) ?_
                      refine s_val (.bool false) (by kernel_rfl) (fun _ => by kernel_rfl) ?_
                      refine s_skip (by kernel_rfl) ?_
                      refine s_skip (by kernel_rfl) ?_
                      refine s_skip (by kernel_rfl) ?_
                      refine s_skip (by kernel_rfl) ?_
                      refine s_val (.bool false) (by kernel_rfl) (fun _ => by kernel_rfl) ?_
                      refine s_val (.bool false) (by kernel_rfl) (fun _ => by kernel_rfl) ?_
                      refine s_nil ?_
                      exact fin_join ⟨false, _, ⟨fun q0 => absurd q0 (by decide), fun q0 => ⟨by omega, by omega, by first | exact .inr (by assumption) | exact .inl (by omega)⟩⟩, rfl, upds_self _ ⟨by kernel_rfl, by kernel_rfl, trivial⟩⟩
              · rintro L f ⟨bad, j, hj2, rfl, rfl⟩
                refine fin_seq ?_
                cases h29 : bad with
                | true =>
                  refine ok_true (by kernel_rfl) ?_
                  refine ok_seq ?_
                  refine ok_region ?_
                  refine s_val (.bool false) (by kernel_rfl) (fun _ => by kernel_rfl) ?_
                  refine s_nil ?_
                  refine fin_seq ?_
                  refine ok_ret ?_
                  refine fin_seq_ret ?_
                  refine fin_ret (.bool false) Try.results68 (by kernel_rfl) ?_
                  exact fun w hO => ⟨by rw [show c.may = false from Bool.eq_false_iff.2 fun q0 => by have q1 := Co.may_iff.1 q0; grind], hO.below⟩
                | false =>
                  refine ok_false (by kernel_rfl) ?_
                  refine ok_skip ?_
                  refine fin_seq ?_
                  refine ok_seq ?_
                  refine ok_region ?_
                  refine s_val (.pointer (some ⟨b1, 1, none⟩)) (by kernel_rfl) (fun _ => by kernel_rfl) ?_
                  refine s_load 0 ⟨b1, (coV c).cells, 91⟩ (off := 1) (.int .i64 c.parts) (by kernel_rfl) rfl (by kernel_rfl) (by kernel_rfl) (by kernel_rfl) ?_
                  by_cases h30 : (0 : Int) < c.parts
                  · skip
                    refine s_dec (p := (0 : Int) < c.parts) true (by kernel_rfl) (fun _ => by kernel_rfl) (decide_eq_true (h30)) ?_
                    refine s_val (.bool true) (by kernel_rfl) (fun _ => by kernel_rfl) ?_
                    refine s_skip (by kernel_rfl) ?_
                    refine s_skip (by kernel_rfl) ?_
                    refine s_skip (by kernel_rfl) ?_
                    refine s_skip (by kernel_rfl) ?_
                    refine s_val (.bool true) (by kernel_rfl) (fun _ => by kernel_rfl) ?_
                    refine s_val (.bool true) (by kernel_rfl) (fun _ => by kernel_rfl) ?_
                    refine s_val (.pointer (some ⟨b1, 1, none⟩)) (by kernel_rfl) (fun _ => by kernel_rfl) ?_
                    refine s_load 0 ⟨b1, (coV c).cells, 91⟩ (off := 1) (.int .i64 c.parts) (by kernel_rfl) rfl (by kernel_rfl) (by kernel_rfl) (by kernel_rfl) ?_
                    by_cases h31 : (1 : Int) < c.parts
                    · skip
                      refine s_dec (p := (1 : Int) < c.parts) true (by kernel_rfl) (fun _ => by kernel_rfl) (decide_eq_true (h31)) ?_
                      refine s_val (.bool true) (by kernel_rfl) (fun _ => by kernel_rfl) ?_
                      refine s_skip (by kernel_rfl) ?_
                      refine s_skip (by kernel_rfl) ?_
                      refine s_skip (by kernel_rfl) ?_
                      refine s_skip (by kernel_rfl) ?_
                      refine s_val (.bool true) (by kernel_rfl) (fun _ => by kernel_rfl) ?_
                      refine s_val (.bool true) (by kernel_rfl) (fun _ => by kernel_rfl) ?_
                      refine s_val (.bool true) (by kernel_rfl) (fun _ => by kernel_rfl) ?_
                      refine s_val (.pointer (some ⟨b1, 1, none⟩)) (by kernel_rfl) (fun _ => by kernel_rfl) ?_
                      refine s_load 0 ⟨b1, (coV c).cells, 91⟩ (off := 1) (.int .i64 c.parts) (by kernel_rfl) rfl (by kernel_rfl) (by kernel_rfl) (by kernel_rfl) ?_
                      by_cases h32 : (2 : Int) < c.parts
                      · skip
                        refine s_dec (p := (2 : Int) < c.parts) true (by kernel_rfl) (fun _ => by kernel_rfl) (decide_eq_true (h32)) ?_
                        refine s_val (.bool true) (by kernel_rfl) (fun _ => by kernel_rfl) ?_
                        refine s_skip (by kernel_rfl) ?_
                        refine s_skip (by kernel_rfl) ?_
                        refine s_skip (by kernel_rfl) ?_
                        refine s_skip (by kernel_rfl) ?_
                        refine s_val (.bool true) (by kernel_rfl) (fun _ => by kernel_rfl) ?_
                        refine s_val (.bool true) (by kernel_rfl) (fun _ => by kernel_rfl) ?_
                        refine s_val (.bool true) (by kernel_rfl) (fun _ => by kernel_rfl) ?_
                        refine s_nil ?_
                        refine fin_seq ?_
                        refine ok_ret ?_
                        refine fin_ret (.bool true) Try.results68 (by kernel_rfl) ?_
                        exact fun w hO => ⟨by rw [Co.may_iff.2 ⟨by omega, by assumption, by assumption, by grind, by grind, by grind, by omega, by omega, by omega⟩], hO.below⟩
                      · skip
                        refine s_dec (p := (2 : Int) < c.parts) false (by kernel_rfl) (fun _ => by kernel_rfl) (decide_eq_false (h32)) ?_
                        refine s_val (.bool false) (by kernel_rfl) (fun _ => by kernel_rfl) ?_
                        refine s_val (.pointer (some ⟨b1, 2, none⟩)) (by kernel_rfl) (fun _ => by kernel_rfl) ?_
                        refine s_val (.pointer (some ⟨b1, 4, none⟩)) (by kernel_rfl) (fun _ => by kernel_rfl) ?_
                        refine s_load 0 ⟨b1, (coV c).cells, 91⟩ (off := 4) (.int .i64 c.v.pat) (by kernel_rfl) rfl (by kernel_rfl) (by kernel_rfl) (by kernel_rfl) ?_
                        by_cases h33 : (c.v.pat : Int) = 0
                        · skip
                          refine s_dec (p := (c.v.pat : Int) = 0) true (by kernel_rfl) (fun _ => by kernel_rfl) (decide_eq_true (h33)) ?_
                          refine s_val (.bool true) (by kernel_rfl) (fun _ => by kernel_rfl) ?_
                          refine s_val (.bool true) (by kernel_rfl) (fun _ => by kernel_rfl) ?_
                          refine s_val (.bool true) (by kernel_rfl) (fun _ => by kernel_rfl) ?_
                          refine s_nil ?_
                          refine fin_seq ?_
                          refine ok_ret ?_
                          refine fin_ret (.bool true) Try.results68 (by kernel_rfl) ?_
                          exact fun w hO => ⟨by rw [Co.may_iff.2 ⟨by omega, by assumption, by assumption, by grind, by grind, by grind, by omega, by omega, by omega⟩], hO.below⟩
                        · skip
                          refine s_dec (p := (c.v.pat : Int) = 0) false (by kernel_rfl) (fun _ => by kernel_rfl) (decide_eq_false (h33)) ?_
                          refine s_val (.bool false) (by kernel_rfl) (fun _ => by kernel_rfl) ?_
                          refine s_val (.bool false) (by kernel_rfl) (fun _ => by kernel_rfl) ?_
                          refine s_val (.bool false) (by kernel_rfl) (fun _ => by kernel_rfl) ?_
                          refine s_nil ?_
                          refine fin_seq ?_
                          refine ok_ret ?_
                          refine fin_ret (.bool false) Try.results68 (by kernel_rfl) ?_
                          exact fun w hO => ⟨by rw [show c.may = false from Bool.eq_false_iff.2 fun q0 => by have q1 := Co.may_iff.1 q0; grind], hO.below⟩
                    · skip
                      refine s_dec (p := (1 : Int) < c.parts) false (by kernel_rfl) (fun _ => by kernel_rfl) (decide_eq_false (h31)) ?_
                      refine s_val (.bool false) (by kernel_rfl) (fun _ => by kernel_rfl) ?_
                      refine s_val (.pointer (some ⟨b1, 2, none⟩)) (by kernel_rfl) (fun _ => by kernel_rfl) ?_
                      refine s_val (.pointer (some ⟨b1, 3, none⟩)) (by kernel_rfl) (fun _ => by kernel_rfl) ?_
                      refine s_load 0 ⟨b1, (coV c).cells, 91⟩ (off := 3) (.int .i64 c.v.min) (by kernel_rfl) rfl (by kernel_rfl) (by kernel_rfl) (by kernel_rfl) ?_
                      by_cases h34 : (c.v.min : Int) = 0
                      · skip
                        refine s_dec (p := (c.v.min : Int) = 0) true (by kernel_rfl) (fun _ => by kernel_rfl) (decide_eq_true (h34)) ?_
                        refine s_val (.bool true) (by kernel_rfl) (fun _ => by kernel_rfl) ?_
                        refine s_val (.bool true) (by kernel_rfl) (fun _ => by kernel_rfl) ?_
                        refine s_val (.bool true) (by kernel_rfl) (fun _ => by kernel_rfl) ?_
                        refine s_val (.pointer (some ⟨b1, 1, none⟩)) (by kernel_rfl) (fun _ => by kernel_rfl) ?_
                        refine s_load 0 ⟨b1, (coV c).cells, 91⟩ (off := 1) (.int .i64 c.parts) (by kernel_rfl) rfl (by kernel_rfl) (by kernel_rfl) (by kernel_rfl) ?_
                        by_cases h35 : (2 : Int) < c.parts
                        · skip
                          refine s_dec (p := (2 : Int) < c.parts) true (by kernel_rfl) (fun _ => by kernel_rfl) (decide_eq_true (h35)) ?_
                          refine s_val (.bool true) (by kernel_rfl) (fun _ => by kernel_rfl) ?_
                          refine s_skip (by kernel_rfl) ?_
                          refine s_skip (by kernel_rfl) ?_
                          refine s_skip (by kernel_rfl) ?_
                          refine s_skip (by kernel_rfl) ?_
                          refine s_val (.bool true) (by kernel_rfl) (fun _ => by kernel_rfl) ?_
                          refine s_val (.bool true) (by kernel_rfl) (fun _ => by kernel_rfl) ?_
                          refine s_val (.bool true) (by kernel_rfl) (fun _ => by kernel_rfl) ?_
                          refine s_nil ?_
                          refine fin_seq ?_
                          refine ok_ret ?_
                          refine fin_ret (.bool true) Try.results68 (by kernel_rfl) ?_
                          exact fun w hO => ⟨by rw [Co.may_iff.2 ⟨by omega, by assumption, by assumption, by grind, by grind, by grind, by omega, by omega, by omega⟩], hO.below⟩
                        · skip
                          refine s_dec (p := (2 : Int) < c.parts) false (by kernel_rfl) (fun _ => by kernel_rfl) (decide_eq_false (h35)) ?_
                          refine s_val (.bool false) (by kernel_rfl) (fun _ => by kernel_rfl) ?_
                          refine s_val (.pointer (some ⟨b1, 2, none⟩)) (by kernel_rfl) (fun _ => by kernel_rfl) ?_
                          refine s_val (.pointer (some ⟨b1, 4, none⟩)) (by kernel_rfl) (fun _ => by kernel_rfl) ?_
                          refine s_load 0 ⟨b1, (coV c).cells, 91⟩ (off := 4) (.int .i64 c.v.pat) (by kernel_rfl) rfl (by kernel_rfl) (by kernel_rfl) (by kernel_rfl) ?_
                          by_cases h36 : (c.v.pat : Int) = 0
                          · skip
                            refine s_dec (p := (c.v.pat : Int) = 0) true (by kernel_rfl) (fun _ => by kernel_rfl) (decide_eq_true (h36)) ?_
                            refine s_val (.bool true) (by kernel_rfl) (fun _ => by kernel_rfl) ?_
                            refine s_val (.bool true) (by kernel_rfl) (fun _ => by kernel_rfl) ?_
                            refine s_val (.bool true) (by kernel_rfl) (fun _ => by kernel_rfl) ?_
                            refine s_nil ?_
                            refine fin_seq ?_
                            refine ok_ret ?_
                            refine fin_ret (.bool true) Try.results68 (by kernel_rfl) ?_
                            exact fun w hO => ⟨by rw [Co.may_iff.2 ⟨by omega, by assumption, by assumption, by grind, by grind, by grind, by omega, by omega, by omega⟩], hO.below⟩
                          · skip
                            refine s_dec (p := (c.v.pat : Int) = 0) false (by kernel_rfl) (fun _ => by kernel_rfl) (decide_eq_false (h36)) ?_
                            refine s_val (.bool false) (by kernel_rfl) (fun _ => by kernel_rfl) ?_
                            refine s_val (.bool false) (by kernel_rfl) (fun _ => by kernel_rfl) ?_
                            refine s_val (.bool false) (by kernel_rfl) (fun _ => by kernel_rfl) ?_
                            refine s_nil ?_
                            refine fin_seq ?_
                            refine ok_ret ?_
                            refine fin_ret (.bool false) Try.results68 (by kernel_rfl) ?_
                            exact fun w hO => ⟨by rw [show c.may = false from Bool.eq_false_iff.2 fun q0 => by have q1 := Co.may_iff.1 q0; grind], hO.below⟩
                      · skip
                        refine s_dec (p := (c.v.min : Int) = 0) false (by kernel_rfl) (fun _ => by kernel_rfl) (decide_eq_false (h34)) ?_
                        refine s_val (.bool false) (by kernel_rfl) (fun _ => by kernel_rfl) ?_
                        refine s_val (.bool false) (by kernel_rfl) (fun _ => by kernel_rfl) ?_
                        refine s_val (.bool false) (by kernel_rfl) (fun _ => by kernel_rfl) ?_
                        refine s_skip (by kernel_rfl) ?_
                        refine s_skip (by kernel_rfl) ?_
                        refine s_skip (by kernel_rfl) ?_
                        refine s_skip (by kernel_rfl) ?_
                        refine s_skip (by kernel_rfl) ?_
                        refine s_skip (by kernel_rfl) ?_
                        refine s_skip (by kernel_rfl) ?_
                        refine s_skip (by kernel_rfl) ?_
                        refine s_skip (by kernel_rfl) ?_
                        refine s_val (.bool false) (by kernel_rfl) (fun _ => by kernel_rfl) ?_
                        refine s_val (.bool false) (by kernel_rfl) (fun _ => by kernel_rfl) ?_
                        refine s_nil ?_
                        refine fin_seq ?_
                        refine ok_ret ?_
                        refine fin_ret (.bool false) Try.results68 (by kernel_rfl) ?_
                        exact fun w hO => ⟨by rw [show c.may = false from Bool.eq_false_iff.2 fun q0 => by have q1 := Co.may_iff.1 q0; grind], hO.below⟩
                  · skip
                    refine s_dec (p := (0 : Int) < c.parts) false (by kernel_rfl) (fun _ => by kernel_rfl) (decide_eq_false (h30)) ?_
                    refine s_val (.bool false) (by kernel_rfl) (fun _ => by kernel_rfl) ?_
                    refine s_val (.pointer (some ⟨b1, 2, none⟩)) (by kernel_rfl) (fun _ => by kernel_rfl) ?_
                    refine s_val (.pointer (some ⟨b1, 2, none⟩)) (by kernel_rfl) (fun _ => by kernel_rfl) ?_
                    refine s_load 0 ⟨b1, (coV c).cells, 91⟩ (off := 2) (.int .i64 c.v.maj) (by kernel_rfl) rfl (by kernel_rfl) (by kernel_rfl) (by kernel_rfl) ?_
                    by_cases h37 : (c.v.maj : Int) = 0
                    · skip
                      refine s_dec (p := (c.v.maj : Int) = 0) true (by kernel_rfl) (fun _ => by kernel_rfl) (decide_eq_true (h37)) ?_
                      refine s_val (.bool true) (by kernel_rfl) (fun _ => by kernel_rfl) ?_
                      refine s_val (.bool true) (by kernel_rfl) (fun _ => by kernel_rfl) ?_
                      refine s_val (.pointer (some ⟨b1, 1, none⟩)) (by kernel_rfl) (fun _ => by kernel_rfl) ?_
                      refine s_load 0 ⟨b1, (coV c).cells, 91⟩ (off := 1) (.int .i64 c.parts) (by kernel_rfl) rfl (by kernel_rfl) (by kernel_rfl) (by kernel_rfl) ?_
                      by_cases h38 : (1 : Int) < c.parts
                      · skip
                        refine s_dec (p := (1 : Int) < c.parts) true (by kernel_rfl) (fun _ => by kernel_rfl) (decide_eq_true (h38)) ?_
                        refine s_val (.bool true) (by kernel_rfl) (fun _ => by kernel_rfl) ?_
                        refine s_skip (by kernel_rfl) ?_
                        refine s_skip (by kernel_rfl) ?_
                        refine s_skip (by kernel_rfl) ?_
                        refine s_skip (by kernel_rfl) ?_
                        refine s_val (.bool true) (by kernel_rfl) (fun _ => by kernel_rfl) ?_
                        refine s_val (.bool true) (by kernel_rfl) (fun _ => by kernel_rfl) ?_
                        refine s_val (.bool true) (by kernel_rfl) (fun _ => by kernel_rfl) ?_
                        refine s_val (.pointer (some ⟨b1, 1, none⟩)) (by kernel_rfl) (fun _ => by kernel_rfl) ?_
                        refine s_load 0 ⟨b1, (coV c).cells, 91⟩ (off := 1) (.int .i64 c.parts) (by kernel_rfl) rfl (by kernel_rfl) (by kernel_rfl) (by kernel_rfl) ?_
                        by_cases h39 : (2 : Int) < c.parts
                        · skip
                          refine s_dec (p := (2 : Int) < c.parts) true (by kernel_rfl) (fun _ => by kernel_rfl) (decide_eq_true (h39)) ?_
                          refine s_val (.bool true) (by kernel_rfl) (fun _ => by kernel_rfl) ?_
                          refine s_skip (by kernel_rfl) ?_
                          refine s_skip (by kernel_rfl) ?_
                          refine s_skip (by kernel_rfl) ?_
                          refine s_skip (by kernel_rfl) ?_
                          refine s_val (.bool true) (by kernel_rfl) (fun _ => by kernel_rfl) ?_
                          refine s_val (.bool true) (by kernel_rfl) (fun _ => by kernel_rfl) ?_
                          refine s_val (.bool true) (by kernel_rfl) (fun _ => by kernel_rfl) ?_
                          refine s_nil ?_
                          refine fin_seq ?_
                          refine ok_ret ?_
                          refine fin_ret (.bool true) Try.results68 (by kernel_rfl) ?_
                          exact fun w hO => ⟨by rw [Co.may_iff.2 ⟨by omega, by assumption, by assumption, by grind, by grind, by grind, by omega, by omega, by omega⟩], hO.below⟩
                        · skip
                          refine s_dec (p := (2 : Int) < c.parts) false (by kernel_rfl) (fun _ => by kernel_rfl) (decide_eq_false (h39)) ?_
                          refine s_val (.bool false) (by kernel_rfl) (fun _ => by kernel_rfl) ?_
                          refine s_val (.pointer (some ⟨b1, 2, none⟩)) (by kernel_rfl) (fun _ => by kernel_rfl) ?_
                          refine s_val (.pointer (some ⟨b1, 4, none⟩)) (by kernel_rfl) (fun _ => by kernel_rfl) ?_
                          refine s_load 0 ⟨b1, (coV c).cells, 91⟩ (off := 4) (.int .i64 c.v.pat) (by kernel_rfl) rfl (by kernel_rfl) (by kernel_rfl) (by kernel_rfl) ?_
                          by_cases h40 : (c.v.pat : Int) = 0
                          · skip
                            refine s_dec (p := (c.v.pat : Int) = 0) true (by kernel_rfl) (fun _ => by kernel_rfl) (decide_eq_true (h40)) ?_
                            refine s_val (.bool true) (by kernel_rfl) (fun _ => by kernel_rfl) ?_
                            refine s_val (.bool true) (by kernel_rfl) (fun _ => by kernel_rfl) ?_
                            refine s_val (.bool true) (by kernel_rfl) (fun _ => by kernel_rfl) ?_
                            refine s_nil ?_
                            refine fin_seq ?_
                            refine ok_ret ?_
                            refine fin_ret (.bool true) Try.results68 (by kernel_rfl) ?_
                            exact fun w hO => ⟨by rw [Co.may_iff.2 ⟨by omega, by assumption, by assumption, by grind, by grind, by grind, by omega, by omega, by omega⟩], hO.below⟩
                          · skip
                            refine s_dec (p := (c.v.pat : Int) = 0) false (by kernel_rfl) (fun _ => by kernel_rfl) (decide_eq_false (h40)) ?_
                            refine s_val (.bool false) (by kernel_rfl) (fun _ => by kernel_rfl) ?_
                            refine s_val (.bool false) (by kernel_rfl) (fun _ => by kernel_rfl) ?_
                            refine s_val (.bool false) (by kernel_rfl) (fun _ => by kernel_rfl) ?_
                            refine s_nil ?_
                            refine fin_seq ?_
                            refine ok_ret ?_
                            refine fin_ret (.bool false) Try.results68 (by kernel_rfl) ?_
                            exact fun w hO => ⟨by rw [show c.may = false from Bool.eq_false_iff.2 fun q0 => by have q1 := Co.may_iff.1 q0; grind], hO.below⟩
                      · skip
                        refine s_dec (p := (1 : Int) < c.parts) false (by kernel_rfl) (fun _ => by kernel_rfl) (decide_eq_false (h38)) ?_
                        refine s_val (.bool false) (by kernel_rfl) (fun _ => by kernel_rfl) ?_
                        refine s_val (.pointer (some ⟨b1, 2, none⟩)) (by kernel_rfl) (fun _ => by kernel_rfl) ?_
                        refine s_val (.pointer (some ⟨b1, 3, none⟩)) (by kernel_rfl) (fun _ => by kernel_rfl) ?_
                        refine s_load 0 ⟨b1, (coV c).cells, 91⟩ (off := 3) (.int .i64 c.v.min) (by kernel_rfl) rfl (by kernel_rfl) (by kernel_rfl) (by kernel_rfl) ?_
                        by_cases h41 : (c.v.min : Int) = 0
                        · skip
                          refine s_dec (p := (c.v.min : Int) = 0) true (by kernel_rfl) (fun _ => by kernel_rfl) (decide_eq_true (h41)) ?_
                          refine s_val (.bool true) (by kernel_rfl) (fun _ => by kernel_rfl) ?_
                          refine s_val (.bool true) (by kernel_rfl) (fun _ => by kernel_rfl) ?_
                          refine s_val (.bool true) (by kernel_rfl) (fun _ => by kernel_rfl) ?_
                          refine s_val (.pointer (some ⟨b1, 1, none⟩)) (by kernel_rfl) (fun _ => by kernel_rfl) ?_
                          refine s_load 0 ⟨b1, (coV c).cells, 91⟩ (off := 1) (.int .i64 c.parts) (by kernel_rfl) rfl (by kernel_rfl) (by kernel_rfl) (by kernel_rfl) ?_
                          by_cases h42 : (2 : Int) < c.parts
                          · skip
                            refine s_dec (p := (2 : Int) < c.parts) true (by kernel_rfl) (fun _ => by kernel_rfl) (decide_eq_true (h42)) ?_
                            refine s_val (.bool true) (by kernel_rfl) (fun _ => by kernel_rfl) ?_
                            refine s_skip (by kernel_rfl) ?_
                            refine s_skip (by kernel_rfl) ?_
                            refine s_skip (by kernel_rfl) ?_
                            refine s_skip (by kernel_rfl) ?_
                            refine s_val (.bool true) (by kernel_rfl) (fun _ => by kernel_rfl) ?_
                            refine s_val (.bool true) (by kernel_rfl) (fun _ => by kernel_rfl) ?_
                            refine s_val (.bool true) (by kernel_rfl) (fun _ => by kernel_rfl) ?_
                            refine s_nil ?_
                            refine fin_seq ?_
                            refine ok_ret ?_
                            refine fin_ret (.bool true) Try.results68 (by kernel_rfl) ?_
                            exact fun w hO => ⟨by rw [Co.may_iff.2 ⟨by omega, by assumption, by assumption, by grind, by grind, by grind, by omega, by omega, by omega⟩], hO.below⟩
                          · skip
                            refine s_dec (p := (2 : Int) < c.parts) false (by kernel_rfl) (fun _ => by kernel_rfl) (decide_eq_false (h42)) ?_
                            refine s_val (.bool false) (by kernel_rfl) (fun _ => by kernel_rfl) ?_
                            refine s_val (.pointer (some ⟨b1, 2, none⟩)) (by kernel_rfl) (fun _ => by kernel_rfl) ?_
                            refine s_val (.pointer (some ⟨b1, 4, none⟩)) (by kernel_rfl) (fun _ => by kernel_rfl) ?_
                            refine s_load 0 ⟨b1, (coV c).cells, 91⟩ (off := 4) (.int .i64 c.v.pat) (by kernel_rfl) rfl (by kernel_rfl) (by kernel_rfl) (by kernel_rfl) ?_
                            by_cases h43 : (c.v.pat : Int) = 0
                            · skip
                              refine s_dec (p := (c.v.pat : Int) = 0) true (by kernel_rfl) (fun _ => by kernel_rfl) (decide_eq_true (h43)) ?_
                              refine s_val (.bool true) (by kernel_rfl) (fun _ => by kernel_rfl) ?_
                              refine s_val (.bool true) (by kernel_rfl) (fun _ => by kernel_rfl) ?_
                              refine s_val (.bool true) (by kernel_rfl) (fun _ => by kernel_rfl) ?_
                              refine s_nil ?_
                              refine fin_seq ?_
                              refine ok_ret ?_
                              refine fin_ret (.bool true) Try.results68 (by kernel_rfl) ?_
                              exact fun w hO => ⟨by rw [Co.may_iff.2 ⟨by omega, by assumption, by assumption, by grind, by grind, by grind, by omega, by omega, by omega⟩], hO.below⟩
                            · skip
                              refine s_dec (p := (c.v.pat : Int) = 0) false (by kernel_rfl) (fun _ => by kernel_rfl) (decide_eq_false (h43)) ?_
                              refine s_val (.bool false) (by kernel_rfl) (fun _ => by kernel_rfl) ?_
                              refine s_val (.bool false) (by kernel_rfl) (fun _ => by kernel_rfl) ?_
                              refine s_val (.bool false) (by kernel_rfl) (fun _ => by kernel_rfl) ?_
                              refine s_nil ?_
                              refine fin_seq ?_
                              refine ok_ret ?_
                              refine fin_ret (.bool false) Try.results68 (by kernel_rfl) ?_
                              exact fun w hO => ⟨by rw [show c.may = false from Bool.eq_false_iff.2 fun q0 => by have q1 := Co.may_iff.1 q0; grind], hO.below⟩
                        · skip
                          refine s_dec (p := (c.v.min : Int) = 0) false (by kernel_rfl) (fun _ => by kernel_rfl) (decide_eq_false (h41)) ?_
                          refine s_val (.bool false) (by kernel_rfl) (fun _ => by kernel_rfl) ?_
                          refine s_val (.bool false) (by kernel_rfl) (fun _ => by kernel_rfl) ?_
                          refine s_val (.bool false) (by kernel_rfl) (fun _ => by kernel_rfl) ?_
                          refine s_skip (by kernel_rfl) ?_
                          refine s_skip (by kernel_rfl) ?_
                          refine s_skip (by kernel_rfl) ?_
                          refine s_skip (by kernel_rfl) ?_
                          refine s_skip (by kernel_rfl) ?_
                          refine s_skip (by kernel_rfl) ?_
                          refine s_skip (by kernel_rfl) ?_
                          refine s_skip (by kernel_rfl) ?_
                          refine s_skip (by kernel_rfl) ?_
                          refine s_val (.bool false) (by kernel_rfl) (fun _ => by kernel_rfl) ?_
                          refine s_val (.bool false) (by kernel_rfl) (fun _ => by kernel_rfl) ?_
                          refine s_nil ?_
                          refine fin_seq ?_
                          refine ok_ret ?_
                          refine fin_ret (.bool false) Try.results68 (by kernel_rfl) ?_
                          exact fun w hO => ⟨by rw [show c.may = false from Bool.eq_false_iff.2 fun q0 => by have q1 := Co.may_iff.1 q0; grind], hO.below⟩
                    · skip
                      refine s_dec (p := (c.v.maj : Int) = 0) false (by kernel_rfl) (fun _ => by kernel_rfl) (decide_eq_false (h37)) ?_
                      refine s_val (.bool false) (by kernel_rfl) (fun _ => by kernel_rfl) ?_
                      refine s_val (.bool false) (by kernel_rfl) (fun _ => by kernel_rfl) ?_
                      refine s_skip (by kernel_rfl) ?_
                      refine s_skip (by kernel_rfl) ?_
                      refine s_skip (by kernel_rfl) ?_
                      refine s_skip (by kernel_rfl) ?_
                      refine s_skip (by kernel_rfl) ?_
                      refine s_skip (by kernel_rfl) ?_
                      refine s_skip (by kernel_rfl) ?_
                      refine s_skip (by kernel_rfl) ?_
                      refine s_skip (by kernel_rfl) ?_
                      refine s_val (.bool false) (by kernel_rfl) (fun _ => by kernel_rfl) ?_
                      refine s_val (.bool false) (by kernel_rfl) (fun _ => by kernel_rfl) ?_
                      refine s_skip (by kernel_rfl) ?_
                      refine s_skip (by kernel_rfl) ?_
                      refine s_skip (by kernel_rfl) ?_
                      refine s_skip (by kernel_rfl) ?_
                      refine s_skip (by kernel_rfl) ?_
                      refine s_skip (by kernel_rfl) ?_
                      refine s_skip (by kernel_rfl) ?_
                      refine s_skip (by kernel_rfl) ?_
                      refine s_skip (by kernel_rfl) ?_
                      refine s_val (.bool false) (by kernel_rfl) (fun _ => by kernel_rfl) ?_
                      refine s_val (.bool false) (by kernel_rfl) (fun _ => by kernel_rfl) ?_
                      refine s_nil ?_
                      refine fin_seq ?_
                      refine ok_ret ?_
                      refine fin_ret (.bool false) Try.results68 (by kernel_rfl) ?_
                      exact fun w hO => ⟨by rw [show c.may = false from Bool.eq_false_iff.2 fun q0 => by have q1 := Co.may_iff.1 q0; grind], hO.below⟩
        · skip
          refine s_val (.bool true) (by kernel_rfl) (run_strneq (a := c.v.build) (b := ([])) rfl (by kernel_rfl) (by kernel_rfl) (decide_eq_false (h4))) ?_
          refine s_val (.bool true) (by kernel_rfl) (fun _ => by kernel_rfl) ?_
          refine s_nil ?_
          refine fin_seq ?_
          refine ok_true (by kernel_rfl) ?_
          refine ok_seq ?_
          refine ok_region ?_
          refine s_val (.bool false) (by kernel_rfl) (fun _ => by kernel_rfl) ?_
          refine s_nil ?_
          refine fin_seq ?_
          refine ok_ret ?_
          refine fin_seq_ret ?_
          refine fin_ret (.bool false) Try.results68 (by kernel_rfl) ?_
          exact fun w hO => ⟨by rw [show c.may = false from Bool.eq_false_iff.2 fun q0 => by have q1 := Co.may_iff.1 q0; grind], hO.below⟩
      | false =>
        refine s_val (.bool true) (by kernel_rfl) (fun _ => by kernel_rfl) ?_
        refine s_val (.bool true) (by kernel_rfl) (fun _ => by kernel_rfl) ?_
        refine s_val (.bool true) (by kernel_rfl) (fun _ => by kernel_rfl) ?_
        refine s_skip (by kernel_rfl) ?_
        refine s_skip (by kernel_rfl) ?_
        refine s_skip (by kernel_rfl) ?_
        refine s_skip (by kernel_rfl) ?_
        refine s_val (.bool true) (by kernel_rfl) (fun _ => by kernel_rfl) ?_
        refine s_nil ?_
        refine fin_seq ?_
        refine ok_true (by kernel_rfl) ?_
        refine ok_seq ?_
        refine ok_region ?_
        refine s_val (.bool false) (by kernel_rfl) (fun _ => by kernel_rfl) ?_
        refine s_nil ?_
        refine fin_seq ?_
        refine ok_ret ?_
        refine fin_seq_ret ?_
        refine fin_ret (.bool false) Try.results68 (by kernel_rfl) ?_
        exact fun w hO => ⟨by rw [show c.may = false from Bool.eq_false_iff.2 fun q0 => by have q1 := Co.may_iff.1 q0; grind], hO.below⟩
theorem rcsign_any (op : Int) (W : World) : Calls Try.prog 71 #[.int .i64 op] W fun e w' => e = .returned (.string (mkS (signL op))) ∧ Below W.heap.size W w' := by
  refine calls_ok (n := 20) Try.func71 rfl (by kernel_rfl) (by kernel_rfl) ?_
  refine ok_seq ?_
  refine ok_region ?_
  refine s_val (.string ⟨#[]⟩) (by kernel_rfl) (fun _ => by kernel_rfl) ?_
  refine s_nil ?_
  refine fin_seq ?_
  refine ok_seq ?_
  refine ok_seq ?_
  refine ok_region ?_
  refine s_val (.int .i64 op) (by kernel_rfl) (fun _ => by kernel_rfl) ?_
  refine s_nil ?_
  refine fin_seq ?_
  refine ok_block ?_
  refine ok_seq ?_
  refine ok_region ?_
  by_cases h1 : (op : Int) = 1
  · skip
    refine s_dec (p := (op : Int) = 1) true (by kernel_rfl) (fun _ => by kernel_rfl) (decide_eq_true (h1)) ?_
    refine s_val (.bool true) (by kernel_rfl) (fun _ => by kernel_rfl) ?_
    refine s_nil ?_
    refine fin_seq ?_
    refine ok_true (by kernel_rfl) ?_
    refine ok_seq ?_
    refine ok_region ?_
    refine s_val (.string ⟨#[61]⟩) (by kernel_rfl) (fun _ => by kernel_rfl) ?_
    refine s_nil ?_
    refine fin_seq ?_
    refine ok_ret ?_
    refine fin_block_ret ?_
    refine fin_seq_ret ?_
    refine fin_ret (.string ⟨#[61]⟩) Try.results71 (by kernel_rfl) ?_
    exact fun w hO => ⟨by unfold signL; simp [h1]; rfl, hO.below⟩
  · skip
    refine s_dec (p := (op : Int) = 1) false (by kernel_rfl) (fun _ => by kernel_rfl) (decide_eq_false (h1)) ?_
    refine s_val (.bool false) (by kernel_rfl) (fun _ => by kernel_rfl) ?_
    refine s_nil ?_
    refine fin_seq ?_
    refine ok_false (by kernel_rfl) ?_
    refine ok_seq ?_
    refine ok_region ?_
    by_cases h2 : (op : Int) = 2
    · skip
      refine s_dec (p := (op : Int) = 2) true (by kernel_rfl) (fun _ => by kernel_rfl) (decide_eq_true (h2)) ?_
      refine s_val (.bool true) (by kernel_rfl) (fun _ => by kernel_rfl) ?_
      refine s_nil ?_
      refine fin_seq ?_
      refine ok_true (by kernel_rfl) ?_
      refine ok_seq ?_
      refine ok_region ?_
      refine s_val (.string ⟨#[33, 61]⟩) (by kernel_rfl) (fun _ => by kernel_rfl) ?_
      refine s_nil ?_
      refine fin_seq ?_
      refine ok_ret ?_
      refine fin_block_ret ?_
      refine fin_seq_ret ?_
      refine fin_ret (.string ⟨#[33, 61]⟩) Try.results71 (by kernel_rfl) ?_
      exact fun w hO => ⟨by unfold signL; simp [h1, h2]; rfl, hO.below⟩
    · skip
      refine s_dec (p := (op : Int) = 2) false (by kernel_rfl) (fun _ => by kernel_rfl) (decide_eq_false (h2)) ?_
      refine s_val (.bool false) (by kernel_rfl) (fun _ => by kernel_rfl) ?_
      refine s_nil ?_
      refine fin_seq ?_
      refine ok_false (by kernel_rfl) ?_
      refine ok_seq ?_
      refine ok_region ?_
      by_cases h3 : (op : Int) = 3
      · skip
        refine s_dec (p := (op : Int) = 3) true (by kernel_rfl) (fun _ => by kernel_rfl) (decide_eq_true (h3)) ?_
        refine s_val (.bool true) (by kernel_rfl) (fun _ => by kernel_rfl) ?_
        refine s_nil ?_
        refine fin_seq ?_
        refine ok_true (by kernel_rfl) ?_
        refine ok_seq ?_
        refine ok_region ?_
        refine s_val (.string ⟨#[60]⟩) (by kernel_rfl) (fun _ => by kernel_rfl) ?_
        refine s_nil ?_
        refine fin_seq ?_
        refine ok_ret ?_
        refine fin_block_ret ?_
        refine fin_seq_ret ?_
        refine fin_ret (.string ⟨#[60]⟩) Try.results71 (by kernel_rfl) ?_
        exact fun w hO => ⟨by unfold signL; simp [h1, h2, h3]; rfl, hO.below⟩
      · skip
        refine s_dec (p := (op : Int) = 3) false (by kernel_rfl) (fun _ => by kernel_rfl) (decide_eq_false (h3)) ?_
        refine s_val (.bool false) (by kernel_rfl) (fun _ => by kernel_rfl) ?_
        refine s_nil ?_
        refine fin_seq ?_
        refine ok_false (by kernel_rfl) ?_
        refine ok_seq ?_
        refine ok_region ?_
        by_cases h4 : (op : Int) = 4
        · skip
          refine s_dec (p := (op : Int) = 4) true (by kernel_rfl) (fun _ => by kernel_rfl) (decide_eq_true (h4)) ?_
          refine s_val (.bool true) (by kernel_rfl) (fun _ => by kernel_rfl) ?_
          refine s_nil ?_
          refine fin_seq ?_
          refine ok_true (by kernel_rfl) ?_
          refine ok_seq ?_
          refine ok_region ?_
          refine s_val (.string ⟨#[60, 61]⟩) (by kernel_rfl) (fun _ => by kernel_rfl) ?_
          refine s_nil ?_
          refine fin_seq ?_
          refine ok_ret ?_
          refine fin_block_ret ?_
          refine fin_seq_ret ?_
          refine fin_ret (.string ⟨#[60, 61]⟩) Try.results71 (by kernel_rfl) ?_
          exact fun w hO => ⟨by unfold signL; simp [h1, h2, h3, h4]; rfl, hO.below⟩
        · skip
          refine s_dec (p := (op : Int) = 4) false (by kernel_rfl) (fun _ => by kernel_rfl) (decide_eq_false (h4)) ?_
          refine s_val (.bool false) (by kernel_rfl) (fun _ => by kernel_rfl) ?_
          refine s_nil ?_
          refine fin_seq ?_
          refine ok_false (by kernel_rfl) ?_
          refine ok_seq ?_
          refine ok_region ?_
          by_cases h5 : (op : Int) = 5
          · skip
            refine s_dec (p := (op : Int) = 5) true (by kernel_rfl) (fun _ => by kernel_rfl) (decide_eq_true (h5)) ?_
            refine s_val (.bool true) (by kernel_rfl) (fun _ => by kernel_rfl) ?_
            refine s_nil ?_
            refine fin_seq ?_
            refine ok_true (by kernel_rfl) ?_
            refine ok_seq ?_
            refine ok_region ?_
            refine s_val (.string ⟨#[62]⟩) (by kernel_rfl) (fun _ => by kernel_rfl) ?_
            refine s_nil ?_
            refine fin_seq ?_
            refine ok_ret ?_
            refine fin_block_ret ?_
            refine fin_seq_ret ?_
            refine fin_ret (.string ⟨#[62]⟩) Try.results71 (by kernel_rfl) ?_
            exact fun w hO => ⟨by unfold signL; simp [h1, h2, h3, h4, h5]; rfl, hO.below⟩
          · skip
            refine s_dec (p := (op : Int) = 5) false (by kernel_rfl) (fun _ => by kernel_rfl) (decide_eq_false (h5)) ?_
            refine s_val (.bool false) (by kernel_rfl) (fun _ => by kernel_rfl) ?_
            refine s_nil ?_
            refine fin_seq ?_
            refine ok_false (by kernel_rfl) ?_
            refine ok_seq ?_
            refine ok_region ?_
            by_cases h6 : (op : Int) = 6
            · skip
              refine s_dec (p := (op : Int) = 6) true (by kernel_rfl) (fun _ => by kernel_rfl) (decide_eq_true (h6)) ?_
              refine s_val (.bool true) (by kernel_rfl) (fun _ => by kernel_rfl) ?_
              refine s_nil ?_
              refine fin_seq ?_
              refine ok_true (by kernel_rfl) ?_
              refine ok_seq ?_
              refine ok_region ?_
              refine s_val (.string ⟨#[62, 61]⟩) (by kernel_rfl) (fun _ => by kernel_rfl) ?_
              refine s_nil ?_
              refine fin_seq ?_
              refine ok_ret ?_
              refine fin_block_ret ?_
              refine fin_seq_ret ?_
              refine fin_ret (.string ⟨#[62, 61]⟩) Try.results71 (by kernel_rfl) ?_
              exact fun w hO => ⟨by unfold signL; simp [h1, h2, h3, h4, h5, h6]; rfl, hO.below⟩
            · skip
              refine s_dec (p := (op : Int) = 6) false (by kernel_rfl) (fun _ => by kernel_rfl) (decide_eq_false (h6)) ?_
              refine s_val (.bool false) (by kernel_rfl) (fun _ => by kernel_rfl) ?_
              refine s_nil ?_
              refine fin_seq ?_
              refine ok_false (by kernel_rfl) ?_
              refine ok_seq ?_
              refine ok_region ?_
              by_cases h7 : (op : Int) = 7
              · skip
                refine s_dec (p := (op : Int) = 7) true (by kernel_rfl) (fun _ => by kernel_rfl) (decide_eq_true (h7)) ?_
                refine s_val (.bool true) (by kernel_rfl) (fun _ => by kernel_rfl) ?_
                refine s_nil ?_
                refine fin_seq ?_
                refine ok_true (by kernel_rfl) ?_
                refine ok_seq ?_
                refine ok_region ?_
                refine s_val (.string ⟨#[94]⟩) (by kernel_rfl) (fun _ => by kernel_rfl) ?_
                refine s_nil ?_
                refine fin_seq ?_
                refine ok_ret ?_
                refine fin_block_ret ?_
                refine fin_seq_ret ?_
                refine fin_ret (.string ⟨#[94]⟩) Try.results71 (by kernel_rfl) ?_
                exact fun w hO => ⟨by unfold signL; simp [h1, h2, h3, h4, h5, h6, h7]; rfl, hO.below⟩
              · skip
                refine s_dec (p := (op : Int) = 7) false (by kernel_rfl) (fun _ => by kernel_rfl) (decide_eq_false (h7)) ?_
                refine s_val (.bool false) (by kernel_rfl) (fun _ => by kernel_rfl) ?_
                refine s_nil ?_
                refine fin_seq ?_
                refine ok_false (by kernel_rfl) ?_
                refine ok_seq ?_
                refine ok_region ?_
                by_cases h8 : (op : Int) = 8
                · skip
                  refine s_dec (p := (op : Int) = 8) true (by kernel_rfl) (fun _ => by kernel_rfl) (decide_eq_true (h8)) ?_
                  refine s_val (.bool true) (by kernel_rfl) (fun _ => by kernel_rfl) ?_
                  refine s_nil ?_
                  refine fin_seq ?_
                  refine ok_true (by kernel_rfl) ?_
                  refine ok_seq ?_
                  refine ok_region ?_
                  refine s_val (.string ⟨#[126]⟩) (by kernel_rfl) (fun _ => by kernel_rfl) ?_
                  refine s_nil ?_
                  refine fin_seq ?_
                  refine ok_ret ?_
                  refine fin_block_ret ?_
                  refine fin_seq_ret ?_
                  refine fin_ret (.string ⟨#[126]⟩) Try.results71 (by kernel_rfl) ?_
                  exact fun w hO => ⟨by unfold signL; simp [h1, h2, h3, h4, h5, h6, h7, h8]; rfl, hO.below⟩
                · skip
                  refine s_dec (p := (op : Int) = 8) false (by kernel_rfl) (fun _ => by kernel_rfl) (decide_eq_false (h8)) ?_
                  refine s_val (.bool false) (by kernel_rfl) (fun _ => by kernel_rfl) ?_
                  refine s_nil ?_
                  refine fin_seq ?_
                  refine ok_false (by kernel_rfl) ?_
                  refine ok_skip ?_
                  refine fin_block ?_
                  refine fin_seq ?_
                  refine ok_seq ?_
                  refine ok_region ?_
                  refine s_val (.string ⟨#[]⟩) (by kernel_rfl) (fun _ => by kernel_rfl) ?_
                  refine s_nil ?_
                  refine fin_seq ?_
                  refine ok_ret ?_
                  refine fin_ret (.string ⟨#[]⟩) Try.results71 (by kernel_rfl) ?_
                  exact fun w hO => ⟨by unfold signL; simp [h1, h2, h3, h4, h5, h6, h7, h8]; rfl, hO.below⟩
end Go.Proofs.Ytglbfknmeojfkaa
end

section
/-
  linchpinref6: Zone, Region: what they return for comparators whose strings have at most a million bytes; nothing that was there is changed.
-/
namespace Go.Proofs.Ytglbfknmeojfkaa
open Go.RowKit
set_option maxRecDepth 100000
set_option linter.unusedVariables false
set_option linter.unusedSimpArgs false
set_option maxHeartbeats 2000000

end Go.Proofs.Ytglbfknmeojfkaa
end

section
/-
  The document's own answer for chapter 2 (linchpinref2): place, three, Numbers and Print. Conditions: strings of at most a million bytes.
-/
namespace Go.Proofs.Ytglbfknmeojfkaa
open Go.RowKit

def triV (l : List (List UInt8)) : Ver := if l.length = 3 then ⟨numD (tg l 0), numD (tg l 1), numD (tg l 2), [], []⟩ else Ver.zero
def triB (l : List (List UInt8)) : Bool := decide (l.length = 3) && (numI (tg l 0) && numI (tg l 1) && numI (tg l 2))
theorem rdigits_mk (n : Int) (h : numOkI n = true) (w : World) :
    Calls Try.prog 88 #[.int .i64 n] w fun e w' => e = .returned (.string (mkS (Lib.itoa n))) ∧ Below w.heap.size w w' := by
  unfold numOkI at h; simp at h
  exact rdigits_any n (by omega) (by omega) w
end Go.Proofs.Ytglbfknmeojfkaa
end

section
/-
  linchpinref6: told, Print, split, numbers, pre, Parse: what they return for strings of at most a million bytes; nothing that was there is changed.
-/
namespace Go.Proofs.Ytglbfknmeojfkaa
open Go.RowKit
set_option maxRecDepth 100000
set_option linter.unusedVariables false
set_option linter.unusedSimpArgs false
set_option maxHeartbeats 2000000

theorem signL_len (op : Int) : (signL op).length ≤ 2 := by
  unfold signL
  repeat' split
  all_goals decide
theorem join_len (b : UInt8) (m : Nat) : ∀ (l : List (List UInt8)), (∀ x ∈ l, x.length ≤ m) → (joinL b l).length ≤ l.length * (m + 1)
  | [], _ => by simp [joinL]
  | [x], h => by
    have := h x (List.mem_singleton.2 rfl)
    simp [joinL]; omega
  | x :: y :: r, h => by
    have h1 := h x (List.mem_cons_self ..)
    have h2 := join_len b m (y :: r) fun z hz => h z (List.mem_cons_of_mem _ hz)
    rw [joinL, List.length_append, List.length_cons]
    simp only [List.length_cons, Nat.add_mul] at h2 ⊢
    omega
theorem nums_len9 {v : Ver} (hv : v.may = true) {n : Nat} : ∀ x ∈ numsN v n, x.length ≤ 21 := fun x hx => by
  obtain ⟨k, hk, rfl⟩ := nums_mem hv hx
  have := itoa_len hk
  omega
theorem numsN_le (v : Ver) (n : Nat) : (numsN v n).length ≤ 3 := by unfold numsN; rw [List.length_take]; simp; omega
theorem njoin_len {v : Ver} (hv : v.may = true) (n : Nat) : (joinL 46 (numsN v n)).length ≤ 100 := by
  have h := join_len 46 21 (numsN v n) (nums_len9 hv)
  have := numsN_le v n
  omega
theorem sjoin_len {v : Ver} (hv : v.may = true) (n : Nat) : (joinL 46 (numsN v n ++ [[42]])).length ≤ 200 := by
  have h := join_len 46 21 (numsN v n ++ [[42]]) (fun x hx => by
    rcases List.mem_append.1 hx with hx | hx
    · exact nums_len9 hv x hx
    · rw [List.mem_singleton.1 hx]; decide)
  have := numsN_le v n
  rw [List.length_append] at h
  simp at h; omega
def toldC (v : Ver) : Array Value := #[.string (mkS (Lib.itoa v.maj)), .string (mkS (Lib.itoa v.min)), .string (mkS (Lib.itoa v.pat))]
theorem told_take (v : Ver) {n : Nat} (h : n ≤ 3) : (toldC v).toList.take (n * 1) = strV (numsN v n) := by
  rw [Nat.mul_one]
  unfold strV numsN
  rw [List.map_take]; rfl
theorem told_slt (v : Ver) {n : Nat} (h : n ≤ 3) (g : Nat) : SlT (.slice (some ⟨g, 0, none⟩) n 3) (numsN v n) [⟨g, toldC v, 9⟩] := by
  have e := numsN_len v h
  refine ⟨by rw [strV_length, e]; omega, .inr ⟨g, 3, toldC v, by rw [e], rfl, by rw [e]; exact h, by decide, rfl, ?_⟩⟩
  rw [e]; exact told_take v h
theorem parts_nat {c : Co} (h : c.may = true) : ((c.parts.toNat : Nat) : Int) = c.parts ∧ c.parts.toNat ≤ 3 := by
  obtain ⟨_, _, _, h9, hn, _⟩ := Co.facts h
  by_cases e : c.op = 9
  · have := h9 e; omega
  · have := hn e; omega
theorem star_text {c : Co} (h9 : c.op = 9) : joinL 46 (numsN c.v c.parts.toNat ++ [[42]]) = c.text := by
  unfold Co.text Co.rest
  rw [h9, if_pos rfl]; rfl
theorem text_pre {c : Co} (h9 : ¬ c.op = 9) (hp : ¬ c.v.pre = []) : signL c.op ++ joinL 46 (numsN c.v c.parts.toNat) ++ [45] ++ c.v.pre = c.text := by
  unfold Co.text Co.rest tailS
  rw [if_neg h9]
  cases hq : c.v.pre with
  | nil => exact absurd hq hp
  | cons a r => simp
theorem text_bare {c : Co} (h9 : ¬ c.op = 9) (hp : c.v.pre = []) : signL c.op ++ joinL 46 (numsN c.v c.parts.toNat) = c.text := by
  unfold Co.text Co.rest tailS
  rw [if_neg h9, hp]; simp
theorem rctold_any (c : Co) (W : World) (hc : c.short) (hm : c.may = true) : Calls Try.prog 69 #[coV c] W fun e w' => ∃ v' ob', e = .returned v' ∧ (∃ g, v' = .slice (some ⟨g, 0, none⟩) c.parts.toNat 3 ∧ ob' = [⟨g, toldC c.v, 9⟩]) ∧ Own [] W w' ob' := by
  obtain ⟨m1, m2, m3⟩ := may_nums (Co.facts hm).2.1
  have hpn := parts_nat hm
  refine calls_ok (n := 21) Try.func69 rfl (by kernel_rfl) (by kernel_rfl) ?_
  refine ok_seq ?_
  refine ok_region ?_
  refine s_box (coV c) (by kernel_rfl) rfl (by kernel_rfl) (fun b1 => ?_)
  refine s_val (.slice none 0 0) (by kernel_rfl) (fun _ => by kernel_rfl) ?_
  refine s_nil ?_
  refine fin_seq ?_
  refine ok_seq ?_
  refine ok_anyh (by kernel_rfl) ?_
  refine h_take 0 [] _ (.pointer (some ⟨b1, 2, none⟩)) rfl (by kernel_rfl) (by kernel_rfl) (by kernel_rfl) (pq_seq pq_body) (by kernel_rfl) (fun _ _ => by kernel_rfl) ?_
  refine h_take 1 [] _ (.pointer (some ⟨b1, 2, none⟩)) rfl (by kernel_rfl) (by kernel_rfl) (by kernel_rfl) (pq_seq pq_body) (by kernel_rfl) (fun _ _ => by kernel_rfl) ?_
  refine h_load 2 [] _ 0 ⟨b1, (coV c).cells, 91⟩ (off := 2) (.int .i64 c.v.maj) rfl (by kernel_rfl) (by kernel_rfl) (by kernel_rfl) (pq_seq pq_body) (by kernel_rfl) rfl (by kernel_rfl) (by kernel_rfl) (by kernel_rfl) ?_
  refine h_take 4 [] _ (.pointer (some ⟨b1, 2, none⟩)) rfl (by kernel_rfl) (by kernel_rfl) (by kernel_rfl) (pq_seq pq_body) (by kernel_rfl) (fun _ _ => by kernel_rfl) ?_
  refine h_take 5 [] _ (.pointer (some ⟨b1, 3, none⟩)) rfl (by kernel_rfl) (by kernel_rfl) (by kernel_rfl) (pq_seq pq_body) (by kernel_rfl) (fun _ _ => by kernel_rfl) ?_
  refine h_load 6 [] _ 0 ⟨b1, (coV c).cells, 91⟩ (off := 3) (.int .i64 c.v.min) rfl (by kernel_rfl) (by kernel_rfl) (by kernel_rfl) (pq_seq pq_body) (by kernel_rfl) rfl (by kernel_rfl) (by kernel_rfl) (by kernel_rfl) ?_
  refine h_take 8 [] _ (.pointer (some ⟨b1, 2, none⟩)) rfl (by kernel_rfl) (by kernel_rfl) (by kernel_rfl) (pq_seq pq_body) (by kernel_rfl) (fun _ _ => by kernel_rfl) ?_
  refine h_take 9 [] _ (.pointer (some ⟨b1, 4, none⟩)) rfl (by kernel_rfl) (by kernel_rfl) (by kernel_rfl) (pq_seq pq_body) (by kernel_rfl) (fun _ _ => by kernel_rfl) ?_
  refine h_load 10 [] _ 0 ⟨b1, (coV c).cells, 91⟩ (off := 4) (.int .i64 c.v.pat) rfl (by kernel_rfl) (by kernel_rfl) (by kernel_rfl) (pq_seq pq_body) (by kernel_rfl) rfl (by kernel_rfl) (by kernel_rfl) (by kernel_rfl) ?_
  refine h_one 3 (by kernel_rfl) ?_
  refine hs_call [] _ (k := 88) (args := #[.int .i64 c.v.maj]) (.string (mkS (Lib.itoa c.v.maj))) rfl (by kernel_rfl) (fun _ => by kernel_rfl) (fun w _ => rdigits_mk c.v.maj m1 w) ?_
  refine h_one 7 (by kernel_rfl) ?_
  refine hs_call [] _ (k := 88) (args := #[.int .i64 c.v.min]) (.string (mkS (Lib.itoa c.v.min))) rfl (by kernel_rfl) (fun _ => by kernel_rfl) (fun w _ => rdigits_mk c.v.min m2 w) ?_
  refine h_one 11 (by kernel_rfl) ?_
  refine hs_call [] _ (k := 88) (args := #[.int .i64 c.v.pat]) (.string (mkS (Lib.itoa c.v.pat))) rfl (by kernel_rfl) (fun _ => by kernel_rfl) (fun w _ => rdigits_mk c.v.pat m3 w) ?_
  refine h_one 12 (by kernel_rfl) ?_
  refine hl_lit _ 9 #[.string (mkS (Lib.itoa c.v.maj)), .string (mkS (Lib.itoa c.v.min)), .string (mkS (Lib.itoa c.v.pat))] rfl (by kernel_rfl) rfl (fun w hO => Own.sub [] hO) (fun _ => by kernel_rfl) (fun b2 => ?_)
  refine h_take 13 [⟨b2, #[.string (mkS (Lib.itoa c.v.maj)), .string (mkS (Lib.itoa c.v.min)), .string (mkS (Lib.itoa c.v.pat))], 9⟩] _ (.slice (some ⟨b2, 0, none⟩) 3 3) rfl (by kernel_rfl) (by kernel_rfl) (by kernel_rfl) (pq_seq pq_body) (by kernel_rfl) (fun _ _ => by kernel_rfl) ?_
  refine h_done (by kernel_rfl) ?_
  refine fin_seq ?_
  refine ok_seq ?_
  refine ok_region ?_
  refine s_val (.slice (some ⟨b2, 0, none⟩) 3 3) (by kernel_rfl) (fun _ => by kernel_rfl) ?_
  refine s_val (.pointer (some ⟨b1, 1, none⟩)) (by kernel_rfl) (fun _ => by kernel_rfl) ?_
  refine s_load 1 ⟨b1, (coV c).cells, 91⟩ (off := 1) (.int .i64 c.parts) (by kernel_rfl) rfl (by kernel_rfl) (by kernel_rfl) (by kernel_rfl) ?_
  refine s_val (.slice (some ⟨b2, 0, none⟩) c.parts.toNat 3) (by kernel_rfl) (run_slhi (b := b2) (off := 0) (n := 3) (c := 3) (k := .i64) (j := c.parts) (e := 9) (sz := 1) rfl (by kernel_rfl) (by kernel_rfl) (by kernel_rfl) (by kernel_rfl) (by omega) (by omega)) ?_
  refine s_val (.slice (some ⟨b2, 0, none⟩) c.parts.toNat 3) (by kernel_rfl) (fun _ => by kernel_rfl) ?_
  refine s_nil ?_
  refine fin_seq ?_
  refine ok_ret ?_
  refine fin_ret (.slice (some ⟨b2, 0, none⟩) c.parts.toNat 3) Try.results69 (by kernel_rfl) ?_
  exact fun w hO => ⟨_, _, rfl, ⟨_, rfl, rfl⟩, hO.sublist (List.cons_sublist_cons.2 (List.nil_sublist _))⟩
theorem rcPrint_any (c : Co) (W : World) (hc : c.short) : Calls Try.prog 62 #[coV c] W fun e w' => e = .returned (.string (mkS c.print)) ∧ Below W.heap.size W w' := by
  refine calls_ok (n := 39) Try.func62 rfl (by kernel_rfl) (by kernel_rfl) ?_
  refine ok_seq ?_
  refine ok_region ?_
  refine s_box (coV c) (by kernel_rfl) rfl (by kernel_rfl) (fun b1 => ?_)
  refine s_val (.string ⟨#[]⟩) (by kernel_rfl) (fun _ => by kernel_rfl) ?_
  refine s_nil ?_
  refine fin_seq ?_
  refine ok_seq ?_
  refine ok_seq ?_
  refine ok_region ?_
  refine s_load 0 ⟨b1, (coV c).cells, 91⟩ (off := 0) (coV c) (by kernel_rfl) rfl (by kernel_rfl) (by kernel_rfl) (by kernel_rfl) ?_
  refine s_call (k := 68) (args := #[coV c]) (.bool c.may) (by kernel_rfl) (fun _ => by kernel_rfl) (fun w _ => rcMay_any c w hc) ?_
  cases h1 : c.may with
  | true =>
    refine s_val (.bool false) (by kernel_rfl) (fun _ => by kernel_rfl) ?_
    refine s_nil ?_
    refine fin_seq ?_
    refine ok_false (by kernel_rfl) ?_
    refine ok_skip ?_
    refine fin_seq ?_
    refine ok_seq ?_
    refine ok_region ?_
    refine s_load 0 ⟨b1, (coV c).cells, 91⟩ (off := 0) (coV c) (by kernel_rfl) rfl (by kernel_rfl) (by kernel_rfl) (by kernel_rfl) ?_
    have hcm := h1
    have hcv := (Co.facts hcm).2.1
    have hpn := parts_nat hcm
    refine s_callo (k := 69) (args := #[coV c]) (fun v' L' => ∃ g, v' = .slice (some ⟨g, 0, none⟩) c.parts.toNat 3 ∧ L' = ⟨g, toldC c.v, 9⟩ :: [⟨b1, (coV c).cells, 91⟩]) (by kernel_rfl) (fun _ => by kernel_rfl) (fun w hO => (rctold_any c w hc hcm).mono fun e w' ⟨v', ob', k1, ⟨g, k2, k4⟩, k3⟩ => ⟨v', _, k1, ⟨g, k2, rfl⟩, by subst k4; exact Own.joinN hO k3⟩) (fun v1 L1 hv1 => ?_)
    obtain ⟨g1, rfl, rfl⟩ := hv1
    refine s_val (.slice (some ⟨g1, 0, none⟩) c.parts.toNat 3) (by kernel_rfl) (fun _ => by kernel_rfl) ?_
    refine s_nil ?_
    refine fin_seq ?_
    refine ok_seq ?_
    refine ok_seq ?_
    refine ok_region ?_
    refine s_val (.pointer (some ⟨b1, 0, none⟩)) (by kernel_rfl) (fun _ => by kernel_rfl) ?_
    refine s_load 1 ⟨b1, (coV c).cells, 91⟩ (off := 0) (.int .i64 c.op) (by kernel_rfl) rfl (by kernel_rfl) (by kernel_rfl) (by kernel_rfl) ?_
    by_cases h2 : (c.op : Int) = 9
    · skip
      refine s_dec (p := (c.op : Int) = 9) true (by kernel_rfl) (fun _ => by kernel_rfl) (decide_eq_true (h2)) ?_
      refine s_nil ?_
      refine fin_seq ?_
      refine ok_true (by kernel_rfl) ?_
      refine ok_seq ?_
      refine ok_region ?_
      refine s_val (.slice (some ⟨g1, 0, none⟩) c.parts.toNat 3) (by kernel_rfl) (fun _ => by kernel_rfl) ?_
      refine s_val (.pointer (some ⟨b1, 1, none⟩)) (by kernel_rfl) (fun _ => by kernel_rfl) ?_
      refine s_load 1 ⟨b1, (coV c).cells, 91⟩ (off := 1) (.int .i64 c.parts) (by kernel_rfl) rfl (by kernel_rfl) (by kernel_rfl) (by kernel_rfl) ?_
      refine s_val (.pointer (some ⟨b1, 1, none⟩)) (by kernel_rfl) (fun _ => by kernel_rfl) ?_
      refine s_load 1 ⟨b1, (coV c).cells, 91⟩ (off := 1) (.int .i64 c.parts) (by kernel_rfl) rfl (by kernel_rfl) (by kernel_rfl) (by kernel_rfl) ?_
      refine s_val (.slice (some ⟨g1, 0, none⟩) c.parts.toNat c.parts.toNat) (by kernel_rfl) (run_slhm (b := g1) (n := c.parts.toNat) (c := 3) (k := .i64) (q := .i64) (j := c.parts) (m := c.parts) (e := 9) (sz := 1) rfl (by kernel_rfl) (by kernel_rfl) (by kernel_rfl) (by kernel_rfl) (by kernel_rfl) (by omega) (by omega) (by omega)) ?_
      refine s_lit 9 #[.string ⟨#[42]⟩] (by kernel_rfl) rfl (fun _ => by kernel_rfl) (fun b2 => ?_)
      obtain ⟨i0, z0, e1, e2, e3, e4, e5⟩ := str_info
      refine s_appendF (sz := 1) (by kernel_rfl) rfl Try.underlying30 e1 e2 e3 e4 (b := ⟨g1, 0, none⟩) (n := c.parts.toNat) (cap := c.parts.toNat) (xs := strV (numsN c.v c.parts.toNat)) (by kernel_rfl) (by rw [strV_length, numsN_len c.v hpn.2, Nat.mul_one]) (fun w hO j u hj => ?_) (a := ⟨b2, 0, none⟩) (m := 1) (c := 1) (news := strV [[42]]) (by kernel_rfl) (by kernel_rfl) (fun w hO j u hj => ?_) (by omega) (by unfold maxLen; omega) (by rw [e5]; omega) (fun va oa hva0 => ?_)
      · rw [← told_take c.v hpn.2, Nat.mul_one, List.getElem?_take] at hj
        split at hj
        · rw [add_off, cell_of_row w g1 (0 + j) (toldC c.v) 9 _ (hO.held ⟨g1, toldC c.v, 9⟩ (by simp))]; simpa using hj
        · cases hj
      · rw [add_off, cell_of_row w b2 (0 + j) (strV [[42]]).toArray 9 _ (hO.held ⟨b2, (strV [[42]]).toArray, 9⟩ List.mem_cons_self)]; simpa using hj
      have hva : SlT va (numsN c.v c.parts.toNat ++ [[42]]) oa := hva0.to (by rw [List.length_append, numsN_len c.v hpn.2]; rfl) (by unfold strV; rw [List.map_append])
      refine s_call (k := 70) (args := #[va, .int .u8 46]) (.string (mkS (joinL 46 (numsN c.v c.parts.toNat ++ [[42]])))) (by kernel_rfl) (fun _ => by kernel_rfl) (fun w hO => rjoin_any va _ 46 w (SlT.readsT hva hO (fun x hx => by simp [hx])) (Nat.le_trans (sjoin_len hcv _) (by decide)) (by rw [List.length_append]; have := numsN_le c.v c.parts.toNat; simp; omega)) ?_
      refine s_val (.string (mkS (joinL 46 (numsN c.v c.parts.toNat ++ [[42]])))) (by kernel_rfl) (fun _ => by kernel_rfl) ?_
      refine s_nil ?_
      refine fin_seq ?_
      refine ok_ret ?_
      refine fin_seq_ret ?_
      refine fin_ret (.string (mkS (joinL 46 (numsN c.v c.parts.toNat ++ [[42]])))) Try.results62 (by kernel_rfl) ?_
      exact fun w hO => ⟨by rw [co_print hcm, ← star_text h2], hO.below⟩
    · skip
      refine s_dec (p := (c.op : Int) = 9) false (by kernel_rfl) (fun _ => by kernel_rfl) (decide_eq_false (h2)) ?_
      refine s_nil ?_
      refine fin_seq ?_
      refine ok_false (by kernel_rfl) ?_
      refine ok_skip ?_
      refine fin_seq ?_
      refine ok_seq ?_
      refine ok_region ?_
      refine s_val (.pointer (some ⟨b1, 0, none⟩)) (by kernel_rfl) (fun _ => by kernel_rfl) ?_
      refine s_load 1 ⟨b1, (coV c).cells, 91⟩ (off := 0) (.int .i64 c.op) (by kernel_rfl) rfl (by kernel_rfl) (by kernel_rfl) (by kernel_rfl) ?_
      refine s_call (k := 71) (args := #[.int .i64 c.op]) (.string (mkS (signL c.op))) (by kernel_rfl) (fun _ => by kernel_rfl) (fun w _ => rcsign_any c.op w) ?_
      refine s_val (.slice (some ⟨g1, 0, none⟩) c.parts.toNat 3) (by kernel_rfl) (fun _ => by kernel_rfl) ?_
      refine s_call (k := 70) (args := #[.slice (some ⟨g1, 0, none⟩) c.parts.toNat 3, .int .u8 46]) (.string (mkS (joinL 46 (numsN c.v c.parts.toNat)))) (by kernel_rfl) (fun _ => by kernel_rfl) (fun w hO => rjoin_any _ _ 46 w (SlT.readsT (told_slt c.v hpn.2 g1) hO (fun x hx => by rw [List.mem_singleton.1 hx]; exact List.mem_cons_self)) (Nat.le_trans (njoin_len hcv _) (by decide)) (Nat.le_trans (numsN_le _ _) (by decide))) ?_
      refine s_val (.string (mkS ((signL c.op) ++ (joinL 46 (numsN c.v c.parts.toNat))))) (by kernel_rfl) (run_stradd (a := (signL c.op)) (b := (joinL 46 (numsN c.v c.parts.toNat))) rfl (by kernel_rfl) (by kernel_rfl) (by have q1 := signL_len c.op; have q2 := njoin_len hcv c.parts.toNat; have q3 := hc.1; first | omega | (simp only [List.length_append, List.length_cons, List.length_nil]; omega))) ?_
      refine s_val (.string (mkS ((signL c.op) ++ (joinL 46 (numsN c.v c.parts.toNat))))) (by kernel_rfl) (fun _ => by kernel_rfl) ?_
      refine s_nil ?_
      refine fin_seq ?_
      refine ok_seq ?_
      refine ok_seq ?_
      refine ok_region ?_
      refine s_val (.pointer (some ⟨b1, 2, none⟩)) (by kernel_rfl) (fun _ => by kernel_rfl) ?_
      refine s_val (.pointer (some ⟨b1, 5, none⟩)) (by kernel_rfl) (fun _ => by kernel_rfl) ?_
      refine s_load 1 ⟨b1, (coV c).cells, 91⟩ (off := 5) (.string (mkS c.v.pre)) (by kernel_rfl) rfl (by kernel_rfl) (by kernel_rfl) (by kernel_rfl) ?_
      by_cases h3 : (c.v.pre : List UInt8) = []
      · skip
        refine s_val (.bool false) (by kernel_rfl) (run_strneq (a := c.v.pre) (b := ([])) rfl (by kernel_rfl) (by kernel_rfl) (decide_eq_true (h3))) ?_
        refine s_nil ?_
        refine fin_seq ?_
        refine ok_false (by kernel_rfl) ?_
        refine ok_skip ?_
        refine fin_seq ?_
        refine ok_seq ?_
        refine ok_region ?_
        refine s_val (.string (mkS ((signL c.op) ++ (joinL 46 (numsN c.v c.parts.toNat))))) (by kernel_rfl) (fun _ => by kernel_rfl) ?_
        refine s_val (.string (mkS ((signL c.op) ++ (joinL 46 (numsN c.v c.parts.toNat))))) (by kernel_rfl) (fun _ => by kernel_rfl) ?_
        refine s_nil ?_
        refine fin_seq ?_
        refine ok_ret ?_
        refine fin_ret (.string (mkS ((signL c.op) ++ (joinL 46 (numsN c.v c.parts.toNat))))) Try.results62 (by kernel_rfl) ?_
        exact fun w hO => ⟨by rw [co_print hcm, ← text_bare h2 h3], hO.below⟩
      · skip
        refine s_val (.bool true) (by kernel_rfl) (run_strneq (a := c.v.pre) (b := ([])) rfl (by kernel_rfl) (by kernel_rfl) (decide_eq_false (h3))) ?_
        refine s_nil ?_
        refine fin_seq ?_
        refine ok_true (by kernel_rfl) ?_
        refine ok_region ?_
        refine s_val (.string (mkS ((signL c.op) ++ (joinL 46 (numsN c.v c.parts.toNat))))) (by kernel_rfl) (fun _ => by kernel_rfl) ?_
        refine s_val (.string (mkS (((signL c.op) ++ (joinL 46 (numsN c.v c.parts.toNat))) ++ [45]))) (by kernel_rfl) (run_stradd (a := ((signL c.op) ++ (joinL 46 (numsN c.v c.parts.toNat)))) (b := [45]) rfl (by kernel_rfl) (by kernel_rfl) (by have q1 := signL_len c.op; have q2 := njoin_len hcv c.parts.toNat; have q3 := hc.1; first | omega | (simp only [List.length_append, List.length_cons, List.length_nil]; omega))) ?_
        refine s_val (.pointer (some ⟨b1, 2, none⟩)) (by kernel_rfl) (fun _ => by kernel_rfl) ?_
        refine s_val (.pointer (some ⟨b1, 5, none⟩)) (by kernel_rfl) (fun _ => by kernel_rfl) ?_
        refine s_load 1 ⟨b1, (coV c).cells, 91⟩ (off := 5) (.string (mkS c.v.pre)) (by kernel_rfl) rfl (by kernel_rfl) (by kernel_rfl) (by kernel_rfl) ?_
        refine s_val (.string (mkS ((((signL c.op) ++ (joinL 46 (numsN c.v c.parts.toNat))) ++ [45]) ++ c.v.pre))) (by kernel_rfl) (run_stradd (a := (((signL c.op) ++ (joinL 46 (numsN c.v c.parts.toNat))) ++ [45])) (b := c.v.pre) rfl (by kernel_rfl) (by kernel_rfl) (by have q1 := signL_len c.op; have q2 := njoin_len hcv c.parts.toNat; have q3 := hc.1; first | omega | (simp only [List.length_append, List.length_cons, List.length_nil]; omega))) ?_
        refine s_val (.string (mkS ((((signL c.op) ++ (joinL 46 (numsN c.v c.parts.toNat))) ++ [45]) ++ c.v.pre))) (by kernel_rfl) (fun _ => by kernel_rfl) ?_
        refine s_nil ?_
        refine fin_seq ?_
        refine ok_seq ?_
        refine ok_region ?_
        refine s_val (.string (mkS ((((signL c.op) ++ (joinL 46 (numsN c.v c.parts.toNat))) ++ [45]) ++ c.v.pre))) (by kernel_rfl) (fun _ => by kernel_rfl) ?_
        refine s_val (.string (mkS ((((signL c.op) ++ (joinL 46 (numsN c.v c.parts.toNat))) ++ [45]) ++ c.v.pre))) (by kernel_rfl) (fun _ => by kernel_rfl) ?_
        refine s_nil ?_
        refine fin_seq ?_
        refine ok_ret ?_
        refine fin_ret (.string (mkS ((((signL c.op) ++ (joinL 46 (numsN c.v c.parts.toNat))) ++ [45]) ++ c.v.pre))) Try.results62 (by kernel_rfl) ?_
        exact fun w hO => ⟨by rw [co_print hcm, ← text_pre h2 h3], hO.below⟩
  | false =>
    refine s_val (.bool true) (by kernel_rfl) (fun _ => by kernel_rfl) ?_
    refine s_nil ?_
    refine fin_seq ?_
    refine ok_true (by kernel_rfl) ?_
    refine ok_seq ?_
    refine ok_region ?_
    refine s_val (.string ⟨#[]⟩) (by kernel_rfl) (fun _ => by kernel_rfl) ?_
    refine s_nil ?_
    refine fin_seq ?_
    refine ok_ret ?_
    refine fin_seq_ret ?_
    refine fin_ret (.string ⟨#[]⟩) Try.results62 (by kernel_rfl) ?_
    exact fun w hO => ⟨by unfold Co.print; simp [h1]; rfl, hO.below⟩
end Go.Proofs.Ytglbfknmeojfkaa
end

section
/-
  linchpinlaw0.Few: the text of a comparator, or a star; nothing that was there is changed. Condition: a place of at most a hundred thousand.
-/
namespace Go.Proofs.Ytglbfknmeojfkaa
open Go.RowKit
set_option maxRecDepth 100000
set_option linter.unusedVariables false
set_option linter.unusedSimpArgs false

def opF (k : Nat) : Int := if k = 0 then 9 else if k = 1 then 7 else if k = 2 then 6 else if k = 3 then 3 else if k = 4 then 1 else 2
/-- What Few makes. -/
structure FewC (c : Co) : Prop where
  op : c.op = 7 ∨ c.op = 6 ∨ c.op = 3 ∨ c.op = 1 ∨ c.op = 2
  parts : c.parts = 3
  v : ∃ a b : Nat, a < 3 ∧ b < 2 ∧ c.v = ⟨a, b, 0, [], []⟩
def FewT (t : List UInt8) : Prop := t = [42] ∨ ∃ c, FewC c ∧ t = c.print
theorem opF_few {k : Nat} (h : k < 6) (h9 : ¬ opF k = 9) : opF k = 7 ∨ opF k = 6 ∨ opF k = 3 ∨ opF k = 1 ∨ opF k = 2 := by
  unfold opF at *
  repeat (first | split at * | omega)
theorem few_rd : ∀ k : Nat, k < 6 → readAt Try.prog 3 #[.int .i64 9, .int .i64 7, .int .i64 6, .int .i64 3, .int .i64 1, .int .i64 2] (0 + (k : Int).toNat * 1) = some (.int .i64 (opF k))
  | 0, _ => by kernel_rfl
  | 1, _ => by kernel_rfl
  | 2, _ => by kernel_rfl
  | 3, _ => by kernel_rfl
  | 4, _ => by kernel_rfl
  | 5, _ => by kernel_rfl
theorem few_gen (v : Value) (l : List Int) (i : Nat) (W : World) (hv : ReadsI W W.heap.size v l) (hl : l.length ≤ 9223372036854775807) (hi : i ≤ 100000) : Calls Try.prog 47 #[v, .int .i64 (i : Int)] W fun e w' => ∃ t, FewT t ∧ e = .returned (.string (mkS t)) ∧ Below W.heap.size W w' := by
  obtain ⟨k, hk, hk6⟩ := plc_nat' (atL l i) 6 (by decide)
  obtain ⟨a, ha, ha3⟩ := plc_nat' (atL l (i + 1)) 3 (by decide)
  obtain ⟨b, hb, hb2⟩ := plc_nat' (atL l (i + 2)) 2 (by decide)
  have f1 := from_in hv hl i 6 (by omega) (by decide) (by decide) hk
  have f2 := from_in hv hl (i + 1) 3 (by omega) (by decide) (by decide) ha
  have f3 := from_in hv hl (i + 2) 2 (by omega) (by decide) (by decide) hb
  have hrd := few_rd k hk6
  refine x_enter Try.func47 (x_alloc [] fun b1 => x_join (α := Nat) (fun b2 => [(6, .pointer (some ⟨b2, 0, none⟩))])
    (fun b2 => [⟨b2, (coV ⟨opF k, 3, ⟨a, b, 0, [], []⟩⟩).cells, 91⟩, ⟨b1, #[.int .i64 9, .int .i64 7, .int .i64 6, .int .i64 3, .int .i64 1, .int .i64 2], 89⟩]) (fun _ => True) [0]
    (fun nj => x_draw 16 [] (x_i 15 [] ((i + 1 : Nat) : Int) (x_i 19 [] ((i + 2 : Nat) : Int) (x_h2 [] 2 15
        (x_call [] (fun w hO => f1 w hO.below) (xh_ixa 50011 [] 3 6 k 1 hk6 (xh_ldk 50012 [] 4 0 _ _ 3 _ hrd (x_h2 [] 8 15
        (x_call [] (fun w hO => f2 w hO.below) (x_h2 [] 12 15
        (x_call [] (fun w hO => f3 w hO.below) (x_h1 [] 15 (xh_alloc fun b2 => (nj b2 [0] trivial (by kernel_rfl)))))
        (xh_alloc fun b2 => (x_h1 [] 12 (x_call [] (fun w hO => f3 w hO.below) (nj b2 [0] trivial (by kernel_rfl)))))))
        (xh_alloc fun b2 => (x_h1 [] 8 (x_call [] (fun w hO => f2 w hO.below) (x_h1 [] 12 (x_call [] (fun w hO => f3 w hO.below) (nj b2 [0] trivial (by kernel_rfl)))))))))))
        (xh_alloc fun b2 => (x_h1 [] 2 (x_call [] (fun w hO => f1 w hO.below) (xh_ixa 50011 [] 3 6 k 1 hk6 (xh_ldk 50012 [] 4 0 _ _ 3 _ hrd (x_h1 [] 8 (x_call [] (fun w hO => f2 w hO.below) (x_h1 [] 12 (x_call [] (fun w hO => f3 w hO.below) (nj b2 [0] trivial (by kernel_rfl)))))))))))))))
    (fun b2 g _ => x_br 25 [0] (opF k = 9) (fun h => x_ret [] (.string ⟨#[42]⟩) fun w hO => ⟨[42], .inl rfl, rfl, hO.below⟩) (fun h => ?_)))
  exact x_call [0] (fun w hO => rcPrint_any ⟨opF k, 3, ⟨a, b, 0, [], []⟩⟩ w (by constructor <;> simp)) (x_ret [] _ fun w hO => ⟨_, .inr ⟨⟨opF k, 3, ⟨a, b, 0, [], []⟩⟩, ⟨opF_few hk6 h, rfl, a, b, ha3, hb2, rfl⟩, rfl⟩, rfl, hO.below⟩)
end Go.Proofs.Ytglbfknmeojfkaa
end

section
/-
  linchpinlaw0.Name of a number from 0 on; linchpinlaw0.Wish: a wish, its features in new memory. Conditions: as the theorems name.
-/
namespace Go.Proofs.Ytglbfknmeojfkaa
open Go.RowKit
set_option maxRecDepth 100000
set_option linter.unusedVariables false
set_option linter.unusedSimpArgs false

theorem plc_mod (z n : Nat) (h : 0 < n) : plc (z : Int) (n : Int) = ((z % n : Nat) : Int) := by
  have e : (z : Int).tmod n = ((z % n : Nat) : Int) := rfl
  unfold plc
  rw [e, if_neg (by omega)]
theorem name_at (z : Nat) (W : World) : Calls Try.prog 44 #[.int .i64 (z : Int)] W fun e w' => e = .returned (.string (mkS (nameT (z % 5)))) ∧ Below W.heap.size W w' := by
  have hp := plc_mod z 5 (by decide)
  refine x_enter Try.func44 (x_call [] (fun w _ => (place_any z 5 w (by decide) (by decide)).mono fun _ _ ⟨e1, e2⟩ => ⟨by rw [e1, show plc (z : Int) 5 = ((z % 5 : Nat) : Int) from hp], e2 ▸ Below.refl _ _⟩) ?_)
  exact x_idx 6 [] nameT (z % 5) 5 (by omega) (x_ret [] _ fun w hO => ⟨rfl, hO.below⟩)
/-- A wish as it lies. -/
structure Wv where
  name : List UInt8
  rng : List UInt8
  A : Option Addr
  cap : Nat
  fs : List (List UInt8)
  bare : Bool
def wvC (x : Wv) : List Value := [.string (mkS x.name), .string (mkS x.rng), .slice x.A x.fs.length x.cap, .bool x.bare]
def wvV (x : Wv) : Value := .agg #[.string (mkS x.name), .string (mkS x.rng), .slice x.A x.fs.length x.cap, .bool x.bare]
/-- What Wish makes of a record that bears name number own. -/
structure WishG (own : Nat) (alone : Bool) (x : Wv) : Prop where
  name : ∃ k, k < 4 ∧ x.name = nameT ((own + 1 + k) % 5)
  rng : FewT x.rng
  fs : x.fs = [] ∨ alone = true ∧ (x.fs = [[120]] ∨ x.fs = [[120], [121]])
theorem wish_gen (v : Value) (l : List Int) (i own : Nat) (alone : Bool) (W : World) (hv : ReadsI W W.heap.size v l) (hl : l.length ≤ 9223372036854775807) (hi : i ≤ 50000) (ho : own ≤ 50000) : Calls Try.prog 60 #[v, .int .i64 (i : Int), .int .i64 (own : Int), .bool alone] W fun e w' => ∃ x ob, e = .returned (wvV x) ∧ (WishG own alone x ∧ SlT (.slice x.A x.fs.length x.cap) x.fs ob) ∧ Own [] W w' ob := by
  obtain ⟨k, hk, hk4⟩ := plc_nat' (atL l i) 4 (by decide)
  obtain ⟨b, hb, _⟩ := plc_nat' (atL l (i + 4)) 3 (by decide)
  obtain ⟨m, hm, hm5⟩ := plc_nat' (atL l (i + 5)) 5 (by decide)
  have f1 := from_in hv hl i 4 (by omega) (by decide) (by decide) hk
  have f2 := from_in hv hl (i + 4) 3 (by omega) (by decide) (by decide) hb
  have f3 := from_in hv hl (i + 5) 5 (by omega) (by decide) (by decide) hm
  refine x_enter Try.func60 (x_alloc [] fun b1 => x_i 12 [] ((own + 1 : Nat) : Int) (x_call [] (fun w hO => f1 w hO.below) (x_i 16 [] ((own + 1 + k : Nat) : Int) (x_call [] (fun w hO => name_at (own + 1 + k) w) (x_i 20 [] ((i + 1 : Nat) : Int) (x_callE (R := fun v => ∃ t, FewT t ∧ v = .string (mkS t)) [] (fun w hO => (few_gen v l (i + 1) w ((hv.below hO.below).more hO.size) hl (by omega)).mono fun e w' ⟨t, h1, h2, h3⟩ => ⟨_, h2, ⟨t, h1, rfl⟩, h3⟩) ?_))))))
  rintro _ ⟨t, ht, rfl⟩
  refine x_i 24 [] ((i + 4 : Nat) : Int) (x_call [] (fun w hO => f2 w hO.below) ?_)
  refine x_set 26 [] (.bool (decide ((b : Int) = 0))) (by kernel_rfl) (x_alloc [] fun b2 => x_i 30 [0] ((i + 5 : Nat) : Int) (x_call [] (fun w hO => f3 w hO.below) ?_))
  have fin : ∀ (fs : List (List UInt8)) (A : Option Addr) (cap : Nat), (fs = [] ∨ alone = true ∧ (fs = [[120]] ∨ fs = [[120], [121]])) → WishG own alone ⟨nameT ((own + 1 + k) % 5), t, A, cap, fs, decide ((b : Int) = 0)⟩ := fun fs A cap h => ⟨⟨k, hk4, rfl⟩, ht, h⟩
  refine x_bb 33 [] alone (fun h => x_br 35 [] ((2 : Int) < m) (fun h2 => ?_) (fun h2 => ?_)) (fun h => ?_)
  · have hm2 : m = 3 ∨ m = 4 := by omega
    rcases hm2 with rfl | rfl
    · exact x_lit [] 2 9 #[.string (mkS [120]), .string (mkS [121])] (fun b3 => x_retc [1, 1, 2] 2 (wvV ⟨nameT ((own + 1 + k) % 5), t, some ⟨b3, 0, none⟩, 2, [[120]], decide ((b : Int) = 0)⟩) fun w hO => ⟨_, _, rfl, ⟨fin _ _ _ (.inr ⟨h, .inl rfl⟩), ⟨rfl, .inr ⟨b3, 2, #[.string (mkS [120]), .string (mkS [121])], rfl, rfl, by simp, by decide, rfl, rfl⟩⟩⟩, hO.nth 0 _⟩)
    · exact x_lit [] 2 9 #[.string (mkS [120]), .string (mkS [121])] (fun b3 => x_retc [1, 1, 2] 2 (wvV ⟨nameT ((own + 1 + k) % 5), t, some ⟨b3, 0, none⟩, 2, [[120], [121]], decide ((b : Int) = 0)⟩) fun w hO => ⟨_, _, rfl, ⟨fin _ _ _ (.inr ⟨h, .inr rfl⟩), ⟨rfl, .inr ⟨b3, 2, #[.string (mkS [120]), .string (mkS [121])], rfl, rfl, by simp, by decide, rfl, rfl⟩⟩⟩, hO.nth 0 _⟩)
  · exact x_retc [0, 1] 1 (wvV ⟨nameT ((own + 1 + k) % 5), t, none, 0, [], decide ((b : Int) = 0)⟩) fun w hO => ⟨_, [], rfl, ⟨fin _ _ _ (.inl rfl), Sl.nil _ _⟩, hO.no⟩
  · exact x_retc [0, 1] 1 (wvV ⟨nameT ((own + 1 + k) % 5), t, none, 0, [], decide ((b : Int) = 0)⟩) fun w hO => ⟨_, [], rfl, ⟨fin _ _ _ (.inl rfl), Sl.nil _ _⟩, hO.no⟩
end Go.Proofs.Ytglbfknmeojfkaa
end

section
/-
  linchpinlaw0.When: a marker's text, or none; nothing that was there is changed. Condition: a place of at most ten thousand.
-/
namespace Go.Proofs.Ytglbfknmeojfkaa
open Go.RowKit
set_option maxRecDepth 100000
set_option linter.unusedVariables false
set_option linter.unusedSimpArgs false
set_option linter.unnecessarySimpa false
set_option maxHeartbeats 2000000

def sepT (c : Nat) : List UInt8 := if c = 0 then [32, 61, 32] else [32, 33, 61, 32]
theorem keyL_part : ∀ (i : Nat), i < 3 → ∀ w, (part 9 #[.string ⟨#[111, 115]⟩, .string ⟨#[97, 114, 99, 104]⟩, .string ⟨#[97, 98, 105]⟩] i).run Try.prog w = .ok (.string (mkS (keyL i))) w
  | 0, _, w => by kernel_rfl
  | 1, _, w => by kernel_rfl
  | 2, _, w => by kernel_rfl
theorem sepT_part : ∀ (i : Nat), i < 2 → ∀ w, (part 9 #[.string ⟨#[32, 61, 32]⟩, .string ⟨#[32, 33, 61, 32]⟩] i).run Try.prog w = .ok (.string (mkS (sepT i))) w
  | 0, _, w => by kernel_rfl
  | 1, _, w => by kernel_rfl
theorem keyL_four (k : Nat) : (keyL k).length ≤ 4 := by unfold keyL; split <;> (try split) <;> simp
theorem sepT_four (k : Nat) : (sepT k).length ≤ 4 := by unfold sepT; split <;> simp
theorem wordT_four (k : Nat) : (wordT k).length ≤ 4 := by unfold wordT; split <;> (try split) <;> (try split) <;> simp
/-- What When makes. -/
def WhenT (t : List UInt8) : Prop := t = [] ∨ ∃ k c j, k < 3 ∧ t = keyL k ++ sepT c ++ wordT j
theorem when_gen (v : Value) (l : List Int) (i : Nat) (W : World) (hv : ReadsI W W.heap.size v l) (hl : l.length ≤ 9223372036854775807) (hi : i ≤ 10000) : Calls Try.prog 48 #[v, .int .i64 (i : Int)] W fun e w' => ∃ t, WhenT t ∧ e = .returned (.string (mkS t)) ∧ Below W.heap.size W w' := by
  obtain ⟨k, hk, hk6⟩ := plc_nat' (atL l i) 6 (by decide)
  obtain ⟨c, hc, hc2⟩ := plc_nat' (atL l (i + 1)) 2 (by decide)
  obtain ⟨b, hb, hb3⟩ := plc_nat' (atL l (i + 1)) 3 (by decide)
  obtain ⟨j, hj4, hj⟩ := wordT_any ((1 : Int) + (b : Int))
  have hf6 := from_in hv hl i 6 (by omega) (by decide) (by decide) hk
  have hf2 := from_in hv hl (i + 1) 2 (by omega) (by decide) (by decide) hc
  have hf3 := from_in hv hl (i + 1) 3 (by omega) (by decide) (by decide) hb
  refine calls_ok (n := 28) Try.func48 rfl (by kernel_rfl) (by kernel_rfl) ?_
  refine ok_seq ?_
  refine ok_region ?_
  refine s_val (.string ⟨#[]⟩) (by kernel_rfl) (fun _ => by kernel_rfl) ?_
  refine s_nil ?_
  refine fin_seq ?_
  refine ok_seq ?_
  refine ok_region ?_
  refine s_val (v) (by kernel_rfl) (fun _ => by kernel_rfl) ?_
  refine s_val (.int .i64 (i : Int)) (by kernel_rfl) (fun _ => by kernel_rfl) ?_
  refine s_call (k := 45) (args := #[v, .int .i64 (i : Int), .int .i64 6]) (.int .i64 (k : Int)) (by kernel_rfl) (fun _ => by kernel_rfl) (fun w hO => hf6 w hO.below) ?_
  refine s_val (.int .i64 (k : Int)) (by kernel_rfl) (fun _ => by kernel_rfl) ?_
  refine s_nil ?_
  refine fin_seq ?_
  refine ok_seq ?_
  refine ok_seq ?_
  refine ok_region ?_
  refine s_val (.int .i64 (k : Int)) (by kernel_rfl) (fun _ => by kernel_rfl) ?_
  by_cases h1 : (2 : Int) < (k : Int)
  · skip
    refine s_dec (p := (2 : Int) < (k : Int)) true (by kernel_rfl) (fun _ => by kernel_rfl) (decide_eq_true (h1)) ?_
    refine s_nil ?_
    refine fin_seq ?_
    refine ok_true (by kernel_rfl) ?_
    refine ok_seq ?_
    refine ok_region ?_
    refine s_val (.string ⟨#[]⟩) (by kernel_rfl) (fun _ => by kernel_rfl) ?_
    refine s_nil ?_
    refine fin_seq ?_
    refine ok_ret ?_
    refine fin_seq_ret ?_
    refine fin_ret (.string ⟨#[]⟩) Try.results48 (by kernel_rfl) ?_
    exact fun w hO => ⟨[], .inl rfl, rfl, hO.below⟩
  · skip
    have hk3 : k < 3 := by omega
    have q1 := keyL_four k; have q2 := sepT_four c; have q3 := wordT_four j
    refine s_dec (p := (2 : Int) < (k : Int)) false (by kernel_rfl) (fun _ => by kernel_rfl) (decide_eq_false (h1)) ?_
    refine s_nil ?_
    refine fin_seq ?_
    refine ok_false (by kernel_rfl) ?_
    refine ok_skip ?_
    refine fin_seq ?_
    refine ok_seq ?_
    refine ok_draw (by kernel_rfl) (by kernel_rfl) ?_
    refine q_val (.agg #[.string ⟨#[111, 115]⟩, .string ⟨#[97, 114, 99, 104]⟩, .string ⟨#[97, 98, 105]⟩]) (by kernel_rfl) (fun _ => by kernel_rfl) ?_
    refine q_val (.int .i64 (k : Int)) (by kernel_rfl) (fun _ => by kernel_rfl) ?_
    refine q_val (.string (mkS (keyL k))) (by kernel_rfl) (run_idxg keyL hk3 rfl (by kernel_rfl) (by kernel_rfl) Try.underlying93 (fun i hi w => keyL_part i hi w) (by kernel_rfl)) ?_
    refine q_val (.agg #[.string ⟨#[32, 61, 32]⟩, .string ⟨#[32, 33, 61, 32]⟩]) (by kernel_rfl) (fun _ => by kernel_rfl) ?_
    refine q_val (v) (by kernel_rfl) (fun _ => by kernel_rfl) ?_
    refine q_val (.int .i64 (i : Int)) (by kernel_rfl) (fun _ => by kernel_rfl) ?_
    refine q_sum (k := .i64) (((i + 1 : Nat) : Int)) (by kernel_rfl) (fun _ => by kernel_rfl) (IntWalk.i64_in _ (by omega)) ?_
    refine q_call (k := 45) (args := #[v, .int .i64 ((i + 1 : Nat) : Int), .int .i64 2]) (.int .i64 (c : Int)) (by kernel_rfl) (fun _ => by kernel_rfl) (fun w hO => hf2 w hO.below) ?_
    refine q_val (.string (mkS (sepT c))) (by kernel_rfl) (run_idxg sepT hc2 rfl (by kernel_rfl) (by kernel_rfl) Try.underlying94 (fun i hi w => sepT_part i hi w) (by kernel_rfl)) ?_
    refine q_val (.string (mkS ((keyL k) ++ (sepT c)))) (by kernel_rfl) (run_stradd (a := (keyL k)) (b := (sepT c)) rfl (by kernel_rfl) (by kernel_rfl) (by first | omega | (simp only [List.length_append, List.length_cons, List.length_nil]; omega))) ?_
    refine q_val (v) (by kernel_rfl) (fun _ => by kernel_rfl) ?_
    refine q_val (.int .i64 (i : Int)) (by kernel_rfl) (fun _ => by kernel_rfl) ?_
    refine q_sum (k := .i64) (((i + 1 : Nat) : Int)) (by kernel_rfl) (fun _ => by kernel_rfl) (IntWalk.i64_in _ (by omega)) ?_
    refine q_call (k := 45) (args := #[v, .int .i64 ((i + 1 : Nat) : Int), .int .i64 3]) (.int .i64 (b : Int)) (by kernel_rfl) (fun _ => by kernel_rfl) (fun w hO => hf3 w hO.below) ?_
    refine q_sum (k := .i64) ((1 : Int) + (b : Int)) (by kernel_rfl) (fun _ => by kernel_rfl) (IntWalk.i64_in _ (by omega)) ?_
    refine q_call (k := 61) (args := #[.int .i64 ((1 : Int) + (b : Int))]) (.string (mkS (wordT j))) (by kernel_rfl) (fun _ => by kernel_rfl) (fun w hO => hj w) ?_
    refine q_val (.string (mkS (((keyL k) ++ (sepT c)) ++ (wordT j)))) (by kernel_rfl) (run_stradd (a := ((keyL k) ++ (sepT c))) (b := (wordT j)) rfl (by kernel_rfl) (by kernel_rfl) (by first | omega | (simp only [List.length_append, List.length_cons, List.length_nil]; omega))) ?_
    refine q_val (.string (mkS (((keyL k) ++ (sepT c)) ++ (wordT j)))) (by kernel_rfl) (fun _ => by kernel_rfl) ?_
    refine q_nil ?_
    refine fin_seq ?_
    refine ok_ret ?_
    refine fin_ret (.string (mkS (((keyL k) ++ (sepT c)) ++ (wordT j)))) Try.results48 (by kernel_rfl) ?_
    exact fun w hO => ⟨_, .inr ⟨k, c, j, hk3, rfl⟩, rfl, hO.below⟩
end Go.Proofs.Ytglbfknmeojfkaa
end

section
/-
  linchpinlaw0.Need: a need, its wishes in new memory. Conditions: as the theorem names.
-/
namespace Go.Proofs.Ytglbfknmeojfkaa
open Go.RowKit
set_option maxRecDepth 100000
set_option linter.unusedVariables false
set_option linter.unusedSimpArgs false

/-- A need as it lies. -/
structure Nv where
  A : Option Addr
  cap : Nat
  any : List Wv
  wh : List UInt8
  opt : List UInt8
def nvC (x : Nv) : List Value := [.slice x.A x.any.length x.cap, .string (mkS x.wh), .string (mkS x.opt)]
def nvV (x : Nv) : Value := .agg #[.slice x.A x.any.length x.cap, .string (mkS x.wh), .string (mkS x.opt)]
/-- Wishes in one's own memory. -/
structure WsO (A : Option Addr) (cap : Nat) (xs : List Wv) (ob : List Blk) : Prop where
  ex : ∃ o1 o2, ob = o1 ++ o2 ∧ Sl 87 4 (.slice A xs.length cap) xs.length (xs.flatMap wvC) o1 ∧ ∀ x ∈ xs, ∃ o, SlT (.slice x.A x.fs.length x.cap) x.fs o ∧ ∀ b ∈ o, b ∈ o2
/-- What Need makes of a record that bears name number own. -/
structure NeedG (own : Nat) (x : Nv) : Prop where
  any : (∃ w, x.any = [w] ∧ WishG own true w) ∨ ∃ w u, x.any = [w, u] ∧ WishG own false w ∧ WishG own false u
  wh : WhenT x.wh
  opt : x.opt = [] ∨ ∃ j, j < 4 ∧ x.opt = wordT j
def WishR (own : Nat) (alone : Bool) (v : Value) (ob : List Blk) : Prop := ∃ x, v = wvV x ∧ WishG own alone x ∧ SlT (.slice x.A x.fs.length x.cap) x.fs ob
theorem wish_R {v : Value} {l : List Int} {i own : Nat} {alone : Bool} {W w : World} (hb : Below W.heap.size W w) (hv : ReadsI W W.heap.size v l) (hl : l.length ≤ 9223372036854775807) (hi : i ≤ 50000) (ho : own ≤ 50000) : Calls Try.prog 60 #[v, .int .i64 (i : Int), .int .i64 (own : Int), .bool alone] w fun e w' => ∃ v ob, e = .returned v ∧ WishR own alone v ob ∧ Own [] w w' ob :=
  (wish_gen v l i own alone w ((hv.below hb).more hb.size) hl hi ho).mono fun e w' ⟨x, ob, h1, h2, h3⟩ => ⟨_, ob, h1, ⟨x, rfl, h2⟩, h3⟩
theorem need_gen (v : Value) (l : List Int) (i own : Nat) (W : World) (hv : ReadsI W W.heap.size v l) (hl : l.length ≤ 9223372036854775807) (hi : i ≤ 5000) (ho : own ≤ 5000) : Calls Try.prog 46 #[v, .int .i64 (i : Int), .int .i64 (own : Int)] W fun e w' => ∃ x ob, e = .returned (nvV x) ∧ (NeedG own x ∧ WsO x.A x.cap x.any ob) ∧ Own [] W w' ob := by
  obtain ⟨m, hm, hm5⟩ := plc_nat' (atL l i) 5 (by decide)
  obtain ⟨q, hq, hq4⟩ := plc_nat' (atL l (i + 16)) 4 (by decide)
  obtain ⟨j, hj4, hj⟩ := wordT_any (atL l (i + 17))
  have f1 := from_in hv hl i 5 (by omega) (by decide) (by decide) hm
  have f2 := from_in hv hl (i + 16) 4 (by omega) (by decide) (by decide) hq
  have fa : ∀ w, Below W.heap.size W w → Calls Try.prog 59 #[v, .int .i64 ((i + 17 : Nat) : Int)] w fun e w' => e = .returned (.int .i64 (atL l (i + 17))) ∧ Below w.heap.size w w' := fun w hb => (at_any v l (i + 17) w ((hv.below hb).more hb.size) hl (by omega)).mono fun _ _ ⟨e1, e2⟩ => ⟨e1, e2 ▸ Below.refl _ _⟩
  have ho' : own ≤ 50000 := by omega
  refine x_enter Try.func46 (x_alloc [] fun b1 => x_alloc [] fun b2 => x_call [] (fun w hO => f1 w hO.below) (x_br 13 [] ((m : Int) = 1) (fun h1 => ?_) (fun h1 => ?_)))
  · refine x_rounds 2 [] (x_drawL 14 [] [⟨b2, #[.slice none 0 0, .string ⟨#[]⟩, .string ⟨#[]⟩], 72⟩] (fun w hO => hO.nth 0 _) (x_i 23 [0] ((i + 1 : Nat) : Int) (x_i 26 [] ((i + 1 : Nat) : Int) (x_h1 [] 11 (xh_callM (R := WishR own false) (fun w hO => wish_R (i := i + 1) hO.below hv hl (by omega) ho') ?_)))))
    rintro _ ob ⟨x, rfl, hx, hxs⟩
    refine x_h1 [] 12 (xh_lit 1 87 (wvV x).cells fun b3 => x_h1 [] 13 (xh_app [⟨b3, (wvV x).cells, 87⟩, ⟨b2, #[.slice none 0 0, .string ⟨#[]⟩, .string ⟨#[]⟩], 72⟩, ⟨b1, #[.slice none 0 0, .string ⟨#[]⟩, .string ⟨#[]⟩], 72⟩] [] (ob) 0 ([⟨b3, (wvV x).cells, 87⟩, ⟨b2, #[.slice none 0 0, .string ⟨#[]⟩, .string ⟨#[]⟩], 72⟩, ⟨b1, #[.slice none 0 0, .string ⟨#[]⟩, .string ⟨#[]⟩], 72⟩] ++ ob) [⟨b2, #[.slice none 0 0, .string ⟨#[]⟩, .string ⟨#[]⟩], 72⟩] (fun w hO => by simpa using hO) (fun o w hO => hO.nth 1 _) (Sl.nil 87 4) (m := 1) (cp := 1) (by omega) fun v' o' h => ?_))
    obtain ⟨A', c', rfl⟩ := Sl.form h
    refine (x_drawL 14 [1] [⟨b2, #[.slice A' 1 c', .string ⟨#[]⟩, .string ⟨#[]⟩], 72⟩] (fun w hO => hO.nth 1 _) (x_i 23 [0] ((i + 1 : Nat) : Int) (x_i 26 [] ((i + 7 : Nat) : Int) (x_h1 [] 11 (xh_callM (R := WishR own false) (fun w hO => wish_R (i := i + 7) hO.below hv hl (by omega) ho') ?_)))))
    rintro _ ob2 ⟨y, rfl, hy, hys⟩
    refine x_h1 [] 12 (xh_lit 1 87 (wvV y).cells fun b4 => x_h1 [] 13 (xh_app [⟨b4, (wvV y).cells, 87⟩, ⟨b3, (wvV x).cells, 87⟩, ⟨b2, #[.slice A' 1 c', .string ⟨#[]⟩, .string ⟨#[]⟩], 72⟩, ⟨b1, #[.slice none 0 0, .string ⟨#[]⟩, .string ⟨#[]⟩], 72⟩] o' (ob ++ ob2) 0 (⟨b4, (wvV y).cells, 87⟩ :: (([⟨b3, (wvV x).cells, 87⟩, ⟨b2, #[.slice A' 1 c', .string ⟨#[]⟩, .string ⟨#[]⟩], 72⟩, ⟨b1, #[.slice none 0 0, .string ⟨#[]⟩, .string ⟨#[]⟩], 72⟩] ++ o' ++ ob) ++ ob2)) [⟨b2, #[.slice A' 1 c', .string ⟨#[]⟩, .string ⟨#[]⟩], 72⟩] (fun w hO => by simpa [List.append_assoc] using hO) (fun o w hO => hO.nth 2 _) h (m := 1) (cp := 1) (by omega) fun v2 o2 h' => ?_))
    obtain ⟨A2, c2, rfl⟩ := Sl.form h'
    refine x_i 36 [2] ((i + 14 : Nat) : Int) (x_callE (R := fun v => ∃ t, WhenT t ∧ v = .string (mkS t)) [] (fun w hO => (when_gen v l (i + 14) w ((hv.below hO.below).more hO.size) hl (by omega)).mono fun e w' ⟨t, h1, h2, h3⟩ => ⟨_, h2, ⟨t, h1, rfl⟩, h3⟩) ?_)
    rintro _ ⟨t, ht, rfl⟩
    refine x_i 41 [2] ((i + 16 : Nat) : Int) (x_call [] (fun w hO => f2 w hO.below) (x_br 43 [] ((q : Int) = 1) (fun h2 => ?_) (fun h2 => ?_)))
    · exact x_i 46 [] ((i + 17 : Nat) : Int) (x_call [] (fun w hO => fa w hO.below) (x_call [] (fun w hO => hj w) (x_retc [2, 2, 3] 3 (nvV ⟨A2, c2, [x, y], t, wordT j⟩) fun w hO => ⟨_, _, rfl, ⟨⟨.inr ⟨x, y, rfl, hx, hy⟩, ht, .inr ⟨j, hj4, rfl⟩⟩, ⟨o2, ob ++ ob2, rfl, h', fun z hz => by
        rcases List.mem_cons.1 hz with rfl | hz
        · exact ⟨ob, hxs, fun b hb => List.mem_append_left _ hb⟩
        · rw [List.mem_singleton.1 hz]; exact ⟨ob2, hys, fun b hb => List.mem_append_right _ hb⟩⟩⟩, hO.past 4 _⟩)))
    · exact x_retc [2, 3] 3 (nvV ⟨A2, c2, [x, y], t, []⟩) fun w hO => ⟨_, _, rfl, ⟨⟨.inr ⟨x, y, rfl, hx, hy⟩, ht, .inl rfl⟩, ⟨o2, ob ++ ob2, rfl, h', fun z hz => by
        rcases List.mem_cons.1 hz with rfl | hz
        · exact ⟨ob, hxs, fun b hb => List.mem_append_left _ hb⟩
        · rw [List.mem_singleton.1 hz]; exact ⟨ob2, hys, fun b hb => List.mem_append_right _ hb⟩⟩⟩, hO.past 4 _⟩
  · refine x_rounds 1 [] (x_drawL 14 [] [⟨b2, #[.slice none 0 0, .string ⟨#[]⟩, .string ⟨#[]⟩], 72⟩] (fun w hO => hO.nth 0 _) (x_i 23 [0] ((i + 1 : Nat) : Int) (x_i 26 [] ((i + 1 : Nat) : Int) (x_h1 [] 11 (xh_callM (R := WishR own true) (fun w hO => wish_R (i := i + 1) hO.below hv hl (by omega) ho') ?_)))))
    rintro _ ob ⟨x, rfl, hx, hxs⟩
    refine x_h1 [] 12 (xh_lit 1 87 (wvV x).cells fun b3 => x_h1 [] 13 (xh_app [⟨b3, (wvV x).cells, 87⟩, ⟨b2, #[.slice none 0 0, .string ⟨#[]⟩, .string ⟨#[]⟩], 72⟩, ⟨b1, #[.slice none 0 0, .string ⟨#[]⟩, .string ⟨#[]⟩], 72⟩] [] (ob) 0 ([⟨b3, (wvV x).cells, 87⟩, ⟨b2, #[.slice none 0 0, .string ⟨#[]⟩, .string ⟨#[]⟩], 72⟩, ⟨b1, #[.slice none 0 0, .string ⟨#[]⟩, .string ⟨#[]⟩], 72⟩] ++ ob) [⟨b2, #[.slice none 0 0, .string ⟨#[]⟩, .string ⟨#[]⟩], 72⟩] (fun w hO => by simpa using hO) (fun o w hO => hO.nth 1 _) (Sl.nil 87 4) (m := 1) (cp := 1) (by omega) fun v' o' h => ?_))
    obtain ⟨A', c', rfl⟩ := Sl.form h
    refine x_i 36 [1] ((i + 14 : Nat) : Int) (x_callE (R := fun v => ∃ t, WhenT t ∧ v = .string (mkS t)) [] (fun w hO => (when_gen v l (i + 14) w ((hv.below hO.below).more hO.size) hl (by omega)).mono fun e w' ⟨t, h1, h2, h3⟩ => ⟨_, h2, ⟨t, h1, rfl⟩, h3⟩) ?_)
    rintro _ ⟨t, ht, rfl⟩
    refine x_i 41 [1] ((i + 16 : Nat) : Int) (x_call [] (fun w hO => f2 w hO.below) (x_br 43 [] ((q : Int) = 1) (fun h2 => ?_) (fun h2 => ?_)))
    · exact x_i 46 [] ((i + 17 : Nat) : Int) (x_call [] (fun w hO => fa w hO.below) (x_call [] (fun w hO => hj w) (x_retc [1, 1, 2] 2 (nvV ⟨A', c', [x], t, wordT j⟩) fun w hO => ⟨_, _, rfl, ⟨⟨.inl ⟨x, rfl, hx⟩, ht, .inr ⟨j, hj4, rfl⟩⟩, ⟨o', ob, rfl, h, fun y hy => ⟨ob, by rw [List.mem_singleton.1 hy]; exact hxs, fun b hb => hb⟩⟩⟩, hO.past 3 _⟩)))
    · exact x_retc [1, 2] 2 (nvV ⟨A', c', [x], t, []⟩) fun w hO => ⟨_, _, rfl, ⟨⟨.inl ⟨x, rfl, hx⟩, ht, .inl rfl⟩, ⟨o', ob, rfl, h, fun y hy => ⟨ob, by rw [List.mem_singleton.1 hy]; exact hxs, fun b hb => hb⟩⟩⟩, hO.past 3 _⟩
end Go.Proofs.Ytglbfknmeojfkaa
end

section
/-
  linchpinlaw0.put: what it returns reads as the rising list with the text put in; nothing that was there is changed. Conditions: as the theorem names.
-/
namespace Go.Proofs.Ytglbfknmeojfkaa
open Go.RowKit
set_option maxRecDepth 100000
set_option linter.unusedVariables false
set_option linter.unusedSimpArgs false
set_option linter.unnecessarySimpa false
set_option maxHeartbeats 2000000

/-- What put hands back: what it was given, or new memory. -/
def PutR (v : Value) (l : List (List UInt8)) (s : List UInt8) (v' : Value) (ob : List Blk) : Prop := (v' = v ∧ putT l s = l ∧ ob = []) ∨ SlT v' (putT l s) ob
theorem g11put_cons (A : Option Addr) (cap bp off : Nat) (l : List (List UInt8)) (s : List UInt8) (W : World) (hA : A = some ⟨bp, off, none⟩) (hl0 : l ≠ []) (hcap : l.length ≤ cap) (hv : Reads strC W W.heap.size A l) (hn : l.length ≤ 1000000) : Calls Try.prog 63 #[.slice A l.length cap, .string (mkS s)] W fun e w' => ∃ v' ob, e = .returned v' ∧ PutR (.slice A l.length cap) l s v' ob ∧ Own [] W w' ob := by
  refine calls_ok (n := 44) Try.func63 rfl (by kernel_rfl) (by kernel_rfl) ?_
  refine ok_seq ?_
  refine ok_region ?_
  refine s_val (.slice none 0 0) (by kernel_rfl) (fun _ => by kernel_rfl) ?_
  refine s_nil ?_
  refine fin_seq ?_
  refine ok_seq ?_
  refine ok_region ?_
  refine s_val (.int .i64 0) (by kernel_rfl) (fun _ => by kernel_rfl) ?_
  refine s_nil ?_
  refine fin_seq ?_
  refine ok_seq ?_
  refine ok_block ?_
  refine ok_loop (fun L f m => ∃ (k : Nat) (j : Nat → Value), (k ≤ l.length ∧ ∀ x ∈ l.take k, Op.bytesLess x s = true) ∧ L = [] ∧ f = upds j [(0, .slice A l.length cap), (1, .string (mkS s)), (5, .int .i64 (k : Int))] ∧ m = l.length - k) (l.length - 0) ⟨0, _, ⟨Nat.zero_le _, fun x hx => by simp at hx⟩, rfl, upds_self _ ⟨by kernel_rfl, by kernel_rfl, by kernel_rfl, trivial⟩, rfl⟩ ?_
  rintro L f m ⟨k, j, hrel, rfl, rfl, rfl⟩
  have hk6 := hrel.1
  refine ok_seq ?_
  refine ok_seq ?_
  refine ok_region ?_
  refine s_val (.int .i64 (k : Int)) (by kernel_rfl) (fun _ => by kernel_rfl) ?_
  refine s_val (.slice A l.length cap) (by kernel_rfl) (fun _ => by kernel_rfl) ?_
  refine s_val (.int .i64 (l.length : Int)) (by kernel_rfl) (fun _ => by kernel_rfl) ?_
  by_cases h1 : (k : Int) < (l.length : Int)
  · skip
    have hkl : k < l.length := by omega
    obtain ⟨x, hx⟩ : ∃ x, l[k] = x := ⟨_, rfl⟩
    refine s_dec (p := (k : Int) < (l.length : Int)) true (by kernel_rfl) (fun _ => by kernel_rfl) (decide_eq_true (h1)) ?_
    refine s_val (.bool true) (by kernel_rfl) (fun _ => by kernel_rfl) ?_
    refine s_val (.slice A l.length cap) (by kernel_rfl) (fun _ => by kernel_rfl) ?_
    refine s_val (.int .i64 (k : Int)) (by kernel_rfl) (fun _ => by kernel_rfl) ?_
    refine s_val (.pointer (some ⟨bp, off + k * 1, none⟩)) (by kernel_rfl) (run_ixA (b := bp) (off := off) (c := cap) (n := l.length) (k := .i64) (j := (k : Int)) (e := 9) (sz := 1) rfl (by kernel_rfl) hA (by kernel_rfl) (by kernel_rfl) (by kernel_rfl) (by omega) (by omega) (by omega)) ?_
    refine s_old (.string (mkS x)) (a := ⟨bp, off + k * 1, none⟩) (by kernel_rfl) rfl (by kernel_rfl) (fun w hO => Reads.load strC_len (hv.on hO.below hO.size) hA k 0 hkl (by omega) _ (by rw [hx]; kernel_rfl)) ?_
    refine s_val (.string (mkS s)) (by kernel_rfl) (fun _ => by kernel_rfl) ?_
    cases h2 : Op.bytesLess x s with
    | true =>
      refine s_val (.bool true) (by kernel_rfl) (run_strlss (a := x) (b := s) rfl (by kernel_rfl) (by kernel_rfl) h2) ?_
      refine s_val (.bool true) (by kernel_rfl) (fun _ => by kernel_rfl) ?_
      refine s_nil ?_
      refine fin_seq ?_
      refine ok_true (by kernel_rfl) ?_
      refine ok_skip ?_
      refine fin_seq ?_
      refine ok_block ?_
      refine ok_region ?_
      refine s_val (.int .i64 (k : Int)) (by kernel_rfl) (fun _ => by kernel_rfl) ?_
      refine s_sum (k := .i64) (((k + 1 : Nat) : Int)) (by kernel_rfl) (fun _ => by kernel_rfl) (IntWalk.i64_in _ (by omega)) ?_
      refine s_val (.int .i64 ((k + 1 : Nat) : Int)) (by kernel_rfl) (fun _ => by kernel_rfl) ?_
      refine s_nil ?_
      refine fin_block ?_
      exact fin_round (m' := l.length - (k + 1)) (by omega) ⟨k + 1, _, ⟨by omega, mem_step hkl hrel.2 (by rw [hx]; exact h2)⟩, rfl, upds_self _ ⟨by kernel_rfl, by kernel_rfl, by kernel_rfl, trivial⟩, rfl⟩
    | false =>
      refine s_val (.bool false) (by kernel_rfl) (run_strlss (a := x) (b := s) rfl (by kernel_rfl) (by kernel_rfl) h2) ?_
      refine s_val (.bool false) (by kernel_rfl) (fun _ => by kernel_rfl) ?_
      refine s_nil ?_
      refine fin_seq ?_
      refine ok_false (by kernel_rfl) ?_
      refine ok_exit ?_
      refine fin_seq_exit ?_
      refine fin_round_exit ?_
      refine fin_block_exit ?_
      refine fin_seq ?_
      refine ok_seq ?_
      refine ok_seq ?_
      refine ok_region ?_
      refine s_val (.int .i64 (k : Int)) (by kernel_rfl) (fun _ => by kernel_rfl) ?_
      refine s_val (.slice A l.length cap) (by kernel_rfl) (fun _ => by kernel_rfl) ?_
      refine s_val (.int .i64 (l.length : Int)) (by kernel_rfl) (fun _ => by kernel_rfl) ?_
      refine s_dec (p := (k : Int) < (l.length : Int)) true (by kernel_rfl) (fun _ => by kernel_rfl) (decide_eq_true (h1)) ?_
      refine s_val (.bool true) (by kernel_rfl) (fun _ => by kernel_rfl) ?_
      refine s_val (.slice A l.length cap) (by kernel_rfl) (fun _ => by kernel_rfl) ?_
      refine s_val (.int .i64 (k : Int)) (by kernel_rfl) (fun _ => by kernel_rfl) ?_
      refine s_val (.pointer (some ⟨bp, off + k * 1, none⟩)) (by kernel_rfl) (run_ixA (b := bp) (off := off) (c := cap) (n := l.length) (k := .i64) (j := (k : Int)) (e := 9) (sz := 1) rfl (by kernel_rfl) hA (by kernel_rfl) (by kernel_rfl) (by kernel_rfl) (by omega) (by omega) (by omega)) ?_
      refine s_old (.string (mkS x)) (a := ⟨bp, off + k * 1, none⟩) (by kernel_rfl) rfl (by kernel_rfl) (fun w hO => Reads.load strC_len (hv.on hO.below hO.size) hA k 0 hkl (by omega) _ (by rw [hx]; kernel_rfl)) ?_
      refine s_val (.string (mkS s)) (by kernel_rfl) (fun _ => by kernel_rfl) ?_
      by_cases h3 : (x : List UInt8) = s
      · skip
        refine s_val (.bool true) (by kernel_rfl) (run_streql (a := x) (b := s) rfl (by kernel_rfl) (by kernel_rfl) (decide_eq_true (h3))) ?_
        refine s_val (.bool true) (by kernel_rfl) (fun _ => by kernel_rfl) ?_
        refine s_nil ?_
        refine fin_seq ?_
        refine ok_true (by kernel_rfl) ?_
        refine ok_seq ?_
        refine ok_region ?_
        refine s_val (.slice A l.length cap) (by kernel_rfl) (fun _ => by kernel_rfl) ?_
        refine s_val (.slice A l.length cap) (by kernel_rfl) (fun _ => by kernel_rfl) ?_
        refine s_nil ?_
        refine fin_seq ?_
        refine ok_ret ?_
        refine fin_seq_ret ?_
        refine fin_ret (.slice A l.length cap) Try.results63 (by kernel_rfl) ?_
        exact fun w hO => ⟨_, [], rfl, .inl ⟨rfl, put_old hkl hrel.2 (by rw [hx]; exact h2) (by rw [hx]; exact h3), rfl⟩, hO.sublist (by simp)⟩
      · skip
        refine s_val (.bool false) (by kernel_rfl) (run_streql (a := x) (b := s) rfl (by kernel_rfl) (by kernel_rfl) (decide_eq_false (h3))) ?_
        refine s_val (.bool false) (by kernel_rfl) (fun _ => by kernel_rfl) ?_
        refine s_nil ?_
        refine fin_seq ?_
        refine ok_false (by kernel_rfl) ?_
        refine ok_skip ?_
        refine fin_seq ?_
        refine ok_seq ?_
        refine ok_anyh (by kernel_rfl) ?_
        refine h_take 0 [] _ (.slice A l.length cap) rfl (by kernel_rfl) (by kernel_rfl) (by kernel_rfl) (pq_seq pq_body) (by kernel_rfl) (fun _ _ => by kernel_rfl) ?_
        refine h_take 1 [] _ (.int .i64 (k : Int)) rfl (by kernel_rfl) (by kernel_rfl) (by kernel_rfl) (pq_seq pq_body) (by kernel_rfl) (fun _ _ => by kernel_rfl) ?_
        refine h_take 2 [] _ (.slice (some ⟨bp, off, none⟩) k cap) rfl (by kernel_rfl) (by kernel_rfl) (by kernel_rfl) (pq_seq pq_body) (by kernel_rfl) (fun w _ => run_slhi (b := bp) (off := off) (n := l.length) (c := cap) (k := .i64) (j := (k : Int)) (sz := 1) rfl (by rw [← hA]; kernel_rfl) (by kernel_rfl) Try.underlying30 (by kernel_rfl) (by omega) (by omega) w) ?_
        refine h_take 4 [] _ (.string (mkS s)) rfl (by kernel_rfl) (by kernel_rfl) (by kernel_rfl) (pq_seq pq_body) (by kernel_rfl) (fun _ _ => by kernel_rfl) ?_
        refine h_take 7 [] _ (.slice A l.length cap) rfl (by kernel_rfl) (by kernel_rfl) (by kernel_rfl) (pq_seq pq_body) (by kernel_rfl) (fun _ _ => by kernel_rfl) ?_
        refine h_take 8 [] _ (.int .i64 (k : Int)) rfl (by kernel_rfl) (by kernel_rfl) (by kernel_rfl) (pq_seq pq_body) (by kernel_rfl) (fun _ _ => by kernel_rfl) ?_
        refine h_take 9 [] _ (.slice (some ⟨bp, off + (if cap = k then 0 else k * 1), none⟩) (l.length - k) (cap - k)) rfl (by kernel_rfl) (by kernel_rfl) (by kernel_rfl) (pq_seq pq_body) (by kernel_rfl) (fun w _ => run_sllo (b := bp) (off := off) (n := l.length) (c := cap) (k := .i64) (j := (k : Int)) (sz := 1) rfl (by rw [← hA]; kernel_rfl) (by kernel_rfl) Try.underlying30 (by kernel_rfl) (by omega) (by omega) w) ?_
        refine h_two 3 5 (by kernel_rfl) ?_ ?_
        · skip
          obtain ⟨i1, z1, ea1, eb1, ec1, ed1, ee1⟩ := str_info9
          refine hs_cast (L' := ([] : List Blk) ++ ([] : List Blk) ++ ([] : List Blk)) (by simp) ?_
          refine hl_append (E := ([] : List Blk)) (ob := ([] : List Blk)) (R := ([] : List Blk)) (sz := 1) _ rfl (by kernel_rfl) rfl Try.underlying30 ea1 eb1 ec1 ed1 (by kernel_rfl) (Sl.nil 9 1) (a := ⟨bp, off, none⟩) (m := k) (c := cap) (news := (strV (l.take k))) (by kernel_rfl) (by rw [strV_length, List.length_take]; omega) (fun w hO j u hj => ?_) (strV_cells _) (by unfold maxLen; first | omega | (simp only [List.length_append, List.length_take, List.length_drop, List.length_cons, List.length_nil]; omega)) (by rw [ee1]; first | omega | (simp only [List.length_append, List.length_take, List.length_drop, List.length_cons, List.length_nil]; omega)) (fun ob' w h => Own.sub (([] : List Blk) ++ ob' ++ ([] : List Blk)) (by simpa using h)) (fun va1 o1 hva1 => ?_)
          · exact cells_take (hv.on hO.below hO.size) hA hl0 k j u hj
          have hs1 : SlT va1 (l.take k) o1 := Sl.to hva1 (by first | (simp [List.length_take, List.length_drop]; done) | (simp [List.length_take, List.length_drop]; omega)) (by simp [strV])
          obtain ⟨V1, c1, rfl⟩ := hs1.form
          refine h_cast (L' := (o1 ++ ([] : List Blk)) ++ ([])) (by simp) ?_
          refine h_one 5 (by kernel_rfl) ?_
          refine hl_lit _ 9 #[.string (mkS s)] rfl (by kernel_rfl) rfl (fun w hO => Own.sub (o1 ++ ([] : List Blk)) hO) (fun _ => by kernel_rfl) (fun b1 => ?_)
          refine h_one 6 (by kernel_rfl) ?_
          obtain ⟨i2, z2, ea2, eb2, ec2, ed2, ee2⟩ := str_info9
          refine hs_cast (L' := (⟨b1, #[.string (mkS s)], 9⟩ :: ([] : List Blk)) ++ o1 ++ ([] : List Blk)) (by simp) ?_
          refine hl_append (E := (⟨b1, #[.string (mkS s)], 9⟩ :: ([] : List Blk))) (ob := o1) (R := ([] : List Blk)) (sz := 1) _ rfl (by kernel_rfl) rfl Try.underlying30 ea2 eb2 ec2 ed2 (by kernel_rfl) hs1 (a := ⟨b1, 0, none⟩) (m := 1) (c := 1) (news := [.string (mkS s)]) (by kernel_rfl) (by kernel_rfl) (fun w hO j u hj => ?_) (strV_one s) (by unfold maxLen; first | omega | (simp only [List.length_append, List.length_take, List.length_drop, List.length_cons, List.length_nil]; omega)) (by rw [ee2]; first | omega | (simp only [List.length_append, List.length_take, List.length_drop, List.length_cons, List.length_nil]; omega)) (fun ob' w h => Own.sub ((⟨b1, #[.string (mkS s)], 9⟩ :: ([] : List Blk)) ++ ob' ++ ([] : List Blk)) (by simpa using h)) (fun va2 o2 hva2 => ?_)
          · rw [add_off, cell_of_row w b1 (0 + j) #[.string (mkS s)] 9 _ (hO.held ⟨b1, #[.string (mkS s)], 9⟩ (by simp))]; simpa using hj
          have hs2 : SlT va2 ((l.take k) ++ [s]) o2 := Sl.to hva2 (by first | (simp [List.length_take, List.length_drop]; done) | (simp [List.length_take, List.length_drop]; omega)) (by simp [strV])
          obtain ⟨V2, c2, rfl⟩ := hs2.form
          refine h_cast (L' := (⟨b1, #[.string (mkS s)], 9⟩ :: (o2 ++ ([] : List Blk))) ++ ([])) (by simp) ?_
          refine h_one 10 (by kernel_rfl) ?_
          obtain ⟨i3, z3, ea3, eb3, ec3, ed3, ee3⟩ := str_info9
          refine hs_cast (L' := (⟨b1, #[.string (mkS s)], 9⟩ :: ([] : List Blk)) ++ o2 ++ ([] : List Blk)) (by simp) ?_
          refine hl_append (E := (⟨b1, #[.string (mkS s)], 9⟩ :: ([] : List Blk))) (ob := o2) (R := ([] : List Blk)) (sz := 1) _ rfl (by kernel_rfl) rfl Try.underlying30 ea3 eb3 ec3 ed3 (by kernel_rfl) hs2 (a := ⟨bp, off + (if cap = k then 0 else k * 1), none⟩) (m := (l.length - k)) (c := (cap - k)) (news := (strV (l.drop k))) (by kernel_rfl) (by rw [strV_length, List.length_drop]; omega) (fun w hO j u hj => ?_) (strV_cells _) (by unfold maxLen; first | omega | (simp only [List.length_append, List.length_take, List.length_drop, List.length_cons, List.length_nil]; omega)) (by rw [ee3]; first | omega | (simp only [List.length_append, List.length_take, List.length_drop, List.length_cons, List.length_nil]; omega)) (fun ob' w h => Own.sub ((⟨b1, #[.string (mkS s)], 9⟩ :: ([] : List Blk)) ++ ob' ++ ([] : List Blk)) (by simpa using h)) (fun va3 o3 hva3 => ?_)
          · exact cells_drop (hv.on hO.below hO.size) hA hl0 hcap k j u hj
          have hs3 : SlT va3 (((l.take k) ++ [s]) ++ l.drop k) o3 := Sl.to hva3 (by first | (simp [List.length_take, List.length_drop]; done) | (simp [List.length_take, List.length_drop]; omega)) (by simp [strV])
          obtain ⟨V3, c3, rfl⟩ := hs3.form
          refine h_cast (L' := (⟨b1, #[.string (mkS s)], 9⟩ :: (o3 ++ ([] : List Blk))) ++ ([])) (by simp) ?_
          refine h_take 11 (⟨b1, #[.string (mkS s)], 9⟩ :: (o3 ++ ([] : List Blk))) _ (.slice V3 ((((l.take k) ++ [s]) ++ l.drop k).length) c3) rfl (by kernel_rfl) (by kernel_rfl) (by kernel_rfl) (pq_seq pq_body) (by kernel_rfl) (fun _ _ => by kernel_rfl) ?_
          refine h_done (by kernel_rfl) ?_
          refine fin_seq ?_
          refine ok_ret ?_
          refine fin_ret (.slice V3 ((((l.take k) ++ [s]) ++ l.drop k).length) c3) Try.results63 (by kernel_rfl) ?_
          exact fun w hO => ⟨_, _, rfl, .inr (by rw [put_new hk6 hrel.2 (fun hk => ⟨by rw [hx]; exact h2, by rw [hx]; exact h3⟩)]; exact hs3), hO.sublist (by simp)⟩
        · skip
          refine hl_lit _ 9 #[.string (mkS s)] rfl (by kernel_rfl) rfl (fun w hO => Own.sub [] hO) (fun _ => by kernel_rfl) (fun b1 => ?_)
          refine h_one 3 (by kernel_rfl) ?_
          obtain ⟨i4, z4, ea4, eb4, ec4, ed4, ee4⟩ := str_info9
          refine hs_cast (L' := (⟨b1, #[.string (mkS s)], 9⟩ :: ([] : List Blk)) ++ ([] : List Blk) ++ ([] : List Blk)) (by simp) ?_
          refine hl_append (E := (⟨b1, #[.string (mkS s)], 9⟩ :: ([] : List Blk))) (ob := ([] : List Blk)) (R := ([] : List Blk)) (sz := 1) _ rfl (by kernel_rfl) rfl Try.underlying30 ea4 eb4 ec4 ed4 (by kernel_rfl) (Sl.nil 9 1) (a := ⟨bp, off, none⟩) (m := k) (c := cap) (news := (strV (l.take k))) (by kernel_rfl) (by rw [strV_length, List.length_take]; omega) (fun w hO j u hj => ?_) (strV_cells _) (by unfold maxLen; first | omega | (simp only [List.length_append, List.length_take, List.length_drop, List.length_cons, List.length_nil]; omega)) (by rw [ee4]; first | omega | (simp only [List.length_append, List.length_take, List.length_drop, List.length_cons, List.length_nil]; omega)) (fun ob' w h => Own.sub ((⟨b1, #[.string (mkS s)], 9⟩ :: ([] : List Blk)) ++ ob' ++ ([] : List Blk)) (by simpa using h)) (fun va4 o4 hva4 => ?_)
          · exact cells_take (hv.on hO.below hO.size) hA hl0 k j u hj
          have hs4 : SlT va4 (l.take k) o4 := Sl.to hva4 (by first | (simp [List.length_take, List.length_drop]; done) | (simp [List.length_take, List.length_drop]; omega)) (by simp [strV])
          obtain ⟨V4, c4, rfl⟩ := hs4.form
          refine h_cast (L' := (⟨b1, #[.string (mkS s)], 9⟩ :: (o4 ++ ([] : List Blk))) ++ ([])) (by simp) ?_
          refine h_one 6 (by kernel_rfl) ?_
          obtain ⟨i5, z5, ea5, eb5, ec5, ed5, ee5⟩ := str_info9
          refine hs_cast (L' := (⟨b1, #[.string (mkS s)], 9⟩ :: ([] : List Blk)) ++ o4 ++ ([] : List Blk)) (by simp) ?_
          refine hl_append (E := (⟨b1, #[.string (mkS s)], 9⟩ :: ([] : List Blk))) (ob := o4) (R := ([] : List Blk)) (sz := 1) _ rfl (by kernel_rfl) rfl Try.underlying30 ea5 eb5 ec5 ed5 (by kernel_rfl) hs4 (a := ⟨b1, 0, none⟩) (m := 1) (c := 1) (news := [.string (mkS s)]) (by kernel_rfl) (by kernel_rfl) (fun w hO j u hj => ?_) (strV_one s) (by unfold maxLen; first | omega | (simp only [List.length_append, List.length_take, List.length_drop, List.length_cons, List.length_nil]; omega)) (by rw [ee5]; first | omega | (simp only [List.length_append, List.length_take, List.length_drop, List.length_cons, List.length_nil]; omega)) (fun ob' w h => Own.sub ((⟨b1, #[.string (mkS s)], 9⟩ :: ([] : List Blk)) ++ ob' ++ ([] : List Blk)) (by simpa using h)) (fun va5 o5 hva5 => ?_)
          · rw [add_off, cell_of_row w b1 (0 + j) #[.string (mkS s)] 9 _ (hO.held ⟨b1, #[.string (mkS s)], 9⟩ (by simp))]; simpa using hj
          have hs5 : SlT va5 ((l.take k) ++ [s]) o5 := Sl.to hva5 (by first | (simp [List.length_take, List.length_drop]; done) | (simp [List.length_take, List.length_drop]; omega)) (by simp [strV])
          obtain ⟨V5, c5, rfl⟩ := hs5.form
          refine h_cast (L' := (⟨b1, #[.string (mkS s)], 9⟩ :: (o5 ++ ([] : List Blk))) ++ ([])) (by simp) ?_
          refine h_one 10 (by kernel_rfl) ?_
          obtain ⟨i6, z6, ea6, eb6, ec6, ed6, ee6⟩ := str_info9
          refine hs_cast (L' := (⟨b1, #[.string (mkS s)], 9⟩ :: ([] : List Blk)) ++ o5 ++ ([] : List Blk)) (by simp) ?_
          refine hl_append (E := (⟨b1, #[.string (mkS s)], 9⟩ :: ([] : List Blk))) (ob := o5) (R := ([] : List Blk)) (sz := 1) _ rfl (by kernel_rfl) rfl Try.underlying30 ea6 eb6 ec6 ed6 (by kernel_rfl) hs5 (a := ⟨bp, off + (if cap = k then 0 else k * 1), none⟩) (m := (l.length - k)) (c := (cap - k)) (news := (strV (l.drop k))) (by kernel_rfl) (by rw [strV_length, List.length_drop]; omega) (fun w hO j u hj => ?_) (strV_cells _) (by unfold maxLen; first | omega | (simp only [List.length_append, List.length_take, List.length_drop, List.length_cons, List.length_nil]; omega)) (by rw [ee6]; first | omega | (simp only [List.length_append, List.length_take, List.length_drop, List.length_cons, List.length_nil]; omega)) (fun ob' w h => Own.sub ((⟨b1, #[.string (mkS s)], 9⟩ :: ([] : List Blk)) ++ ob' ++ ([] : List Blk)) (by simpa using h)) (fun va6 o6 hva6 => ?_)
          · exact cells_drop (hv.on hO.below hO.size) hA hl0 hcap k j u hj
          have hs6 : SlT va6 (((l.take k) ++ [s]) ++ l.drop k) o6 := Sl.to hva6 (by first | (simp [List.length_take, List.length_drop]; done) | (simp [List.length_take, List.length_drop]; omega)) (by simp [strV])
          obtain ⟨V6, c6, rfl⟩ := hs6.form
          refine h_cast (L' := (⟨b1, #[.string (mkS s)], 9⟩ :: (o6 ++ ([] : List Blk))) ++ ([])) (by simp) ?_
          refine h_take 11 (⟨b1, #[.string (mkS s)], 9⟩ :: (o6 ++ ([] : List Blk))) _ (.slice V6 ((((l.take k) ++ [s]) ++ l.drop k).length) c6) rfl (by kernel_rfl) (by kernel_rfl) (by kernel_rfl) (pq_seq pq_body) (by kernel_rfl) (fun _ _ => by kernel_rfl) ?_
          refine h_done (by kernel_rfl) ?_
          refine fin_seq ?_
          refine ok_ret ?_
          refine fin_ret (.slice V6 ((((l.take k) ++ [s]) ++ l.drop k).length) c6) Try.results63 (by kernel_rfl) ?_
          exact fun w hO => ⟨_, _, rfl, .inr (by rw [put_new hk6 hrel.2 (fun hk => ⟨by rw [hx]; exact h2, by rw [hx]; exact h3⟩)]; exact hs6), hO.sublist (by simp)⟩
  · skip
    refine s_dec (p := (k : Int) < (l.length : Int)) false (by kernel_rfl) (fun _ => by kernel_rfl) (decide_eq_false (h1)) ?_
    refine s_val (.bool false) (by kernel_rfl) (fun _ => by kernel_rfl) ?_
    refine s_skip (by kernel_rfl) ?_
    refine s_skip (by kernel_rfl) ?_
    refine s_skip (by kernel_rfl) ?_
    refine s_skip (by kernel_rfl) ?_
    refine s_skip (by kernel_rfl) ?_
    refine s_skip (by kernel_rfl) ?_
    refine s_val (.bool false) (by kernel_rfl) (fun _ => by kernel_rfl) ?_
    refine s_nil ?_
    refine fin_seq ?_
    refine ok_false (by kernel_rfl) ?_
    refine ok_exit ?_
    refine fin_seq_exit ?_
    refine fin_round_exit ?_
    refine fin_block_exit ?_
    refine fin_seq ?_
    refine ok_seq ?_
    refine ok_seq ?_
    refine ok_region ?_
    refine s_val (.int .i64 (k : Int)) (by kernel_rfl) (fun _ => by kernel_rfl) ?_
    refine s_val (.slice A l.length cap) (by kernel_rfl) (fun _ => by kernel_rfl) ?_
    refine s_val (.int .i64 (l.length : Int)) (by kernel_rfl) (fun _ => by kernel_rfl) ?_
    refine s_dec (p := (k : Int) < (l.length : Int)) false (by kernel_rfl) (fun _ => by kernel_rfl) (decide_eq_false (h1)) ?_
    refine s_val (.bool false) (by kernel_rfl) (fun _ => by kernel_rfl) ?_
    refine s_skip (by kernel_rfl) ?_
    refine s_skip (by kernel_rfl) ?_
    refine s_skip (by kernel_rfl) ?_
    refine s_skip (by kernel_rfl) ?_
    refine s_skip (by kernel_rfl) ?_
    refine s_skip (by kernel_rfl) ?_
    refine s_val (.bool false) (by kernel_rfl) (fun _ => by kernel_rfl) ?_
    refine s_nil ?_
    refine fin_seq ?_
    refine ok_false (by kernel_rfl) ?_
    refine ok_skip ?_
    refine fin_seq ?_
    refine ok_seq ?_
    refine ok_anyh (by kernel_rfl) ?_
    refine h_take 0 [] _ (.slice A l.length cap) rfl (by kernel_rfl) (by kernel_rfl) (by kernel_rfl) (pq_seq pq_body) (by kernel_rfl) (fun _ _ => by kernel_rfl) ?_
    refine h_take 1 [] _ (.int .i64 (k : Int)) rfl (by kernel_rfl) (by kernel_rfl) (by kernel_rfl) (pq_seq pq_body) (by kernel_rfl) (fun _ _ => by kernel_rfl) ?_
    refine h_take 2 [] _ (.slice (some ⟨bp, off, none⟩) k cap) rfl (by kernel_rfl) (by kernel_rfl) (by kernel_rfl) (pq_seq pq_body) (by kernel_rfl) (fun w _ => run_slhi (b := bp) (off := off) (n := l.length) (c := cap) (k := .i64) (j := (k : Int)) (sz := 1) rfl (by rw [← hA]; kernel_rfl) (by kernel_rfl) Try.underlying30 (by kernel_rfl) (by omega) (by omega) w) ?_
    refine h_take 4 [] _ (.string (mkS s)) rfl (by kernel_rfl) (by kernel_rfl) (by kernel_rfl) (pq_seq pq_body) (by kernel_rfl) (fun _ _ => by kernel_rfl) ?_
    refine h_take 7 [] _ (.slice A l.length cap) rfl (by kernel_rfl) (by kernel_rfl) (by kernel_rfl) (pq_seq pq_body) (by kernel_rfl) (fun _ _ => by kernel_rfl) ?_
    refine h_take 8 [] _ (.int .i64 (k : Int)) rfl (by kernel_rfl) (by kernel_rfl) (by kernel_rfl) (pq_seq pq_body) (by kernel_rfl) (fun _ _ => by kernel_rfl) ?_
    refine h_take 9 [] _ (.slice (some ⟨bp, off + (if cap = k then 0 else k * 1), none⟩) (l.length - k) (cap - k)) rfl (by kernel_rfl) (by kernel_rfl) (by kernel_rfl) (pq_seq pq_body) (by kernel_rfl) (fun w _ => run_sllo (b := bp) (off := off) (n := l.length) (c := cap) (k := .i64) (j := (k : Int)) (sz := 1) rfl (by rw [← hA]; kernel_rfl) (by kernel_rfl) Try.underlying30 (by kernel_rfl) (by omega) (by omega) w) ?_
    refine h_two 3 5 (by kernel_rfl) ?_ ?_
    · skip
      obtain ⟨i7, z7, ea7, eb7, ec7, ed7, ee7⟩ := str_info9
      refine hs_cast (L' := ([] : List Blk) ++ ([] : List Blk) ++ ([] : List Blk)) (by simp) ?_
      refine hl_append (E := ([] : List Blk)) (ob := ([] : List Blk)) (R := ([] : List Blk)) (sz := 1) _ rfl (by kernel_rfl) rfl Try.underlying30 ea7 eb7 ec7 ed7 (by kernel_rfl) (Sl.nil 9 1) (a := ⟨bp, off, none⟩) (m := k) (c := cap) (news := (strV (l.take k))) (by kernel_rfl) (by rw [strV_length, List.length_take]; omega) (fun w hO j u hj => ?_) (strV_cells _) (by unfold maxLen; first | omega | (simp only [List.length_append, List.length_take, List.length_drop, List.length_cons, List.length_nil]; omega)) (by rw [ee7]; first | omega | (simp only [List.length_append, List.length_take, List.length_drop, List.length_cons, List.length_nil]; omega)) (fun ob' w h => Own.sub (([] : List Blk) ++ ob' ++ ([] : List Blk)) (by simpa using h)) (fun va7 o7 hva7 => ?_)
      · exact cells_take (hv.on hO.below hO.size) hA hl0 k j u hj
      have hs7 : SlT va7 (l.take k) o7 := Sl.to hva7 (by first | (simp [List.length_take, List.length_drop]; done) | (simp [List.length_take, List.length_drop]; omega)) (by simp [strV])
      obtain ⟨V7, c7, rfl⟩ := hs7.form
      refine h_cast (L' := (o7 ++ ([] : List Blk)) ++ ([])) (by simp) ?_
      refine h_one 5 (by kernel_rfl) ?_
      refine hl_lit _ 9 #[.string (mkS s)] rfl (by kernel_rfl) rfl (fun w hO => Own.sub (o7 ++ ([] : List Blk)) hO) (fun _ => by kernel_rfl) (fun b1 => ?_)
      refine h_one 6 (by kernel_rfl) ?_
      obtain ⟨i8, z8, ea8, eb8, ec8, ed8, ee8⟩ := str_info9
      refine hs_cast (L' := (⟨b1, #[.string (mkS s)], 9⟩ :: ([] : List Blk)) ++ o7 ++ ([] : List Blk)) (by simp) ?_
      refine hl_append (E := (⟨b1, #[.string (mkS s)], 9⟩ :: ([] : List Blk))) (ob := o7) (R := ([] : List Blk)) (sz := 1) _ rfl (by kernel_rfl) rfl Try.underlying30 ea8 eb8 ec8 ed8 (by kernel_rfl) hs7 (a := ⟨b1, 0, none⟩) (m := 1) (c := 1) (news := [.string (mkS s)]) (by kernel_rfl) (by kernel_rfl) (fun w hO j u hj => ?_) (strV_one s) (by unfold maxLen; first | omega | (simp only [List.length_append, List.length_take, List.length_drop, List.length_cons, List.length_nil]; omega)) (by rw [ee8]; first | omega | (simp only [List.length_append, List.length_take, List.length_drop, List.length_cons, List.length_nil]; omega)) (fun ob' w h => Own.sub ((⟨b1, #[.string (mkS s)], 9⟩ :: ([] : List Blk)) ++ ob' ++ ([] : List Blk)) (by simpa using h)) (fun va8 o8 hva8 => ?_)
      · rw [add_off, cell_of_row w b1 (0 + j) #[.string (mkS s)] 9 _ (hO.held ⟨b1, #[.string (mkS s)], 9⟩ (by simp))]; simpa using hj
      have hs8 : SlT va8 ((l.take k) ++ [s]) o8 := Sl.to hva8 (by first | (simp [List.length_take, List.length_drop]; done) | (simp [List.length_take, List.length_drop]; omega)) (by simp [strV])
      obtain ⟨V8, c8, rfl⟩ := hs8.form
      refine h_cast (L' := (⟨b1, #[.string (mkS s)], 9⟩ :: (o8 ++ ([] : List Blk))) ++ ([])) (by simp) ?_
      refine h_one 10 (by kernel_rfl) ?_
      obtain ⟨i9, z9, ea9, eb9, ec9, ed9, ee9⟩ := str_info9
      refine hs_cast (L' := (⟨b1, #[.string (mkS s)], 9⟩ :: ([] : List Blk)) ++ o8 ++ ([] : List Blk)) (by simp) ?_
      refine hl_append (E := (⟨b1, #[.string (mkS s)], 9⟩ :: ([] : List Blk))) (ob := o8) (R := ([] : List Blk)) (sz := 1) _ rfl (by kernel_rfl) rfl Try.underlying30 ea9 eb9 ec9 ed9 (by kernel_rfl) hs8 (a := ⟨bp, off + (if cap = k then 0 else k * 1), none⟩) (m := (l.length - k)) (c := (cap - k)) (news := (strV (l.drop k))) (by kernel_rfl) (by rw [strV_length, List.length_drop]; omega) (fun w hO j u hj => ?_) (strV_cells _) (by unfold maxLen; first | omega | (simp only [List.length_append, List.length_take, List.length_drop, List.length_cons, List.length_nil]; omega)) (by rw [ee9]; first | omega | (simp only [List.length_append, List.length_take, List.length_drop, List.length_cons, List.length_nil]; omega)) (fun ob' w h => Own.sub ((⟨b1, #[.string (mkS s)], 9⟩ :: ([] : List Blk)) ++ ob' ++ ([] : List Blk)) (by simpa using h)) (fun va9 o9 hva9 => ?_)
      · exact cells_drop (hv.on hO.below hO.size) hA hl0 hcap k j u hj
      have hs9 : SlT va9 (((l.take k) ++ [s]) ++ l.drop k) o9 := Sl.to hva9 (by first | (simp [List.length_take, List.length_drop]; done) | (simp [List.length_take, List.length_drop]; omega)) (by simp [strV])
      obtain ⟨V9, c9, rfl⟩ := hs9.form
      refine h_cast (L' := (⟨b1, #[.string (mkS s)], 9⟩ :: (o9 ++ ([] : List Blk))) ++ ([])) (by simp) ?_
      refine h_take 11 (⟨b1, #[.string (mkS s)], 9⟩ :: (o9 ++ ([] : List Blk))) _ (.slice V9 ((((l.take k) ++ [s]) ++ l.drop k).length) c9) rfl (by kernel_rfl) (by kernel_rfl) (by kernel_rfl) (pq_seq pq_body) (by kernel_rfl) (fun _ _ => by kernel_rfl) ?_
      refine h_done (by kernel_rfl) ?_
      refine fin_seq ?_
      refine ok_ret ?_
      refine fin_ret (.slice V9 ((((l.take k) ++ [s]) ++ l.drop k).length) c9) Try.results63 (by kernel_rfl) ?_
      exact fun w hO => ⟨_, _, rfl, .inr (by rw [put_new hk6 hrel.2 (fun hk => absurd hk (by omega))]; exact hs9), hO.sublist (by simp)⟩
    · skip
      refine hl_lit _ 9 #[.string (mkS s)] rfl (by kernel_rfl) rfl (fun w hO => Own.sub [] hO) (fun _ => by kernel_rfl) (fun b1 => ?_)
      refine h_one 3 (by kernel_rfl) ?_
      obtain ⟨i10, z10, ea10, eb10, ec10, ed10, ee10⟩ := str_info9
      refine hs_cast (L' := (⟨b1, #[.string (mkS s)], 9⟩ :: ([] : List Blk)) ++ ([] : List Blk) ++ ([] : List Blk)) (by simp) ?_
      refine hl_append (E := (⟨b1, #[.string (mkS s)], 9⟩ :: ([] : List Blk))) (ob := ([] : List Blk)) (R := ([] : List Blk)) (sz := 1) _ rfl (by kernel_rfl) rfl Try.underlying30 ea10 eb10 ec10 ed10 (by kernel_rfl) (Sl.nil 9 1) (a := ⟨bp, off, none⟩) (m := k) (c := cap) (news := (strV (l.take k))) (by kernel_rfl) (by rw [strV_length, List.length_take]; omega) (fun w hO j u hj => ?_) (strV_cells _) (by unfold maxLen; first | omega | (simp only [List.length_append, List.length_take, List.length_drop, List.length_cons, List.length_nil]; omega)) (by rw [ee10]; first | omega | (simp only [List.length_append, List.length_take, List.length_drop, List.length_cons, List.length_nil]; omega)) (fun ob' w h => Own.sub ((⟨b1, #[.string (mkS s)], 9⟩ :: ([] : List Blk)) ++ ob' ++ ([] : List Blk)) (by simpa using h)) (fun va10 o10 hva10 => ?_)
      · exact cells_take (hv.on hO.below hO.size) hA hl0 k j u hj
      have hs10 : SlT va10 (l.take k) o10 := Sl.to hva10 (by first | (simp [List.length_take, List.length_drop]; done) | (simp [List.length_take, List.length_drop]; omega)) (by simp [strV])
      obtain ⟨V10, c10, rfl⟩ := hs10.form
      refine h_cast (L' := (⟨b1, #[.string (mkS s)], 9⟩ :: (o10 ++ ([] : List Blk))) ++ ([])) (by simp) ?_
      refine h_one 6 (by kernel_rfl) ?_
      obtain ⟨i11, z11, ea11, eb11, ec11, ed11, ee11⟩ := str_info9
      refine hs_cast (L' := (⟨b1, #[.string (mkS s)], 9⟩ :: ([] : List Blk)) ++ o10 ++ ([] : List Blk)) (by simp) ?_
      refine hl_append (E := (⟨b1, #[.string (mkS s)], 9⟩ :: ([] : List Blk))) (ob := o10) (R := ([] : List Blk)) (sz := 1) _ rfl (by kernel_rfl) rfl Try.underlying30 ea11 eb11 ec11 ed11 (by kernel_rfl) hs10 (a := ⟨b1, 0, none⟩) (m := 1) (c := 1) (news := [.string (mkS s)]) (by kernel_rfl) (by kernel_rfl) (fun w hO j u hj => ?_) (strV_one s) (by unfold maxLen; first | omega | (simp only [List.length_append, List.length_take, List.length_drop, List.length_cons, List.length_nil]; omega)) (by rw [ee11]; first | omega | (simp only [List.length_append, List.length_take, List.length_drop, List.length_cons, List.length_nil]; omega)) (fun ob' w h => Own.sub ((⟨b1, #[.string (mkS s)], 9⟩ :: ([] : List Blk)) ++ ob' ++ ([] : List Blk)) (by simpa using h)) (fun va11 o11 hva11 => ?_)
      · rw [add_off, cell_of_row w b1 (0 + j) #[.string (mkS s)] 9 _ (hO.held ⟨b1, #[.string (mkS s)], 9⟩ (by simp))]; simpa using hj
      have hs11 : SlT va11 ((l.take k) ++ [s]) o11 := Sl.to hva11 (by first | (simp [List.length_take, List.length_drop]; done) | (simp [List.length_take, List.length_drop]; omega)) (by simp [strV])
      obtain ⟨V11, c11, rfl⟩ := hs11.form
      refine h_cast (L' := (⟨b1, #[.string (mkS s)], 9⟩ :: (o11 ++ ([] : List Blk))) ++ ([])) (by simp) ?_
      refine h_one 10 (by kernel_rfl) ?_
      obtain ⟨i12, z12, ea12, eb12, ec12, ed12, ee12⟩ := str_info9
      refine hs_cast (L' := (⟨b1, #[.string (mkS s)], 9⟩ :: ([] : List Blk)) ++ o11 ++ ([] : List Blk)) (by simp) ?_
      refine hl_append (E := (⟨b1, #[.string (mkS s)], 9⟩ :: ([] : List Blk))) (ob := o11) (R := ([] : List Blk)) (sz := 1) _ rfl (by kernel_rfl) rfl Try.underlying30 ea12 eb12 ec12 ed12 (by kernel_rfl) hs11 (a := ⟨bp, off + (if cap = k then 0 else k * 1), none⟩) (m := (l.length - k)) (c := (cap - k)) (news := (strV (l.drop k))) (by kernel_rfl) (by rw [strV_length, List.length_drop]; omega) (fun w hO j u hj => ?_) (strV_cells _) (by unfold maxLen; first | omega | (simp only [List.length_append, List.length_take, List.length_drop, List.length_cons, List.length_nil]; omega)) (by rw [ee12]; first | omega | (simp only [List.length_append, List.length_take, List.length_drop, List.length_cons, List.length_nil]; omega)) (fun ob' w h => Own.sub ((⟨b1, #[.string (mkS s)], 9⟩ :: ([] : List Blk)) ++ ob' ++ ([] : List Blk)) (by simpa using h)) (fun va12 o12 hva12 => ?_)
      · exact cells_drop (hv.on hO.below hO.size) hA hl0 hcap k j u hj
      have hs12 : SlT va12 (((l.take k) ++ [s]) ++ l.drop k) o12 := Sl.to hva12 (by first | (simp [List.length_take, List.length_drop]; done) | (simp [List.length_take, List.length_drop]; omega)) (by simp [strV])
      obtain ⟨V12, c12, rfl⟩ := hs12.form
      refine h_cast (L' := (⟨b1, #[.string (mkS s)], 9⟩ :: (o12 ++ ([] : List Blk))) ++ ([])) (by simp) ?_
      refine h_take 11 (⟨b1, #[.string (mkS s)], 9⟩ :: (o12 ++ ([] : List Blk))) _ (.slice V12 ((((l.take k) ++ [s]) ++ l.drop k).length) c12) rfl (by kernel_rfl) (by kernel_rfl) (by kernel_rfl) (pq_seq pq_body) (by kernel_rfl) (fun _ _ => by kernel_rfl) ?_
      refine h_done (by kernel_rfl) ?_
      refine fin_seq ?_
      refine ok_ret ?_
      refine fin_ret (.slice V12 ((((l.take k) ++ [s]) ++ l.drop k).length) c12) Try.results63 (by kernel_rfl) ?_
      exact fun w hO => ⟨_, _, rfl, .inr (by rw [put_new hk6 hrel.2 (fun hk => absurd hk (by omega))]; exact hs12), hO.sublist (by simp)⟩
theorem g11put_nil (s : List UInt8) (W : World) : Calls Try.prog 63 #[.slice none 0 0, .string (mkS s)] W fun e w' => ∃ v' ob, e = .returned v' ∧ PutR (.slice none 0 0) [] s v' ob ∧ Own [] W w' ob := by
  refine calls_ok (n := 44) Try.func63 rfl (by kernel_rfl) (by kernel_rfl) ?_
  refine ok_seq ?_
  refine ok_region ?_
  refine s_val (.slice none 0 0) (by kernel_rfl) (fun _ => by kernel_rfl) ?_
  refine s_nil ?_
  refine fin_seq ?_
  refine ok_seq ?_
  refine ok_region ?_
  refine s_val (.int .i64 0) (by kernel_rfl) (fun _ => by kernel_rfl) ?_
  refine s_nil ?_
  refine fin_seq ?_
  refine ok_seq ?_
  refine ok_block ?_
  refine ok_loop (fun L f m => ∃ (k : Nat) (j : Nat → Value), (True) ∧ L = [] ∧ f = upds j [(0, .slice none 0 0), (1, .string (mkS s)), (5, .int .i64 0)] ∧ m = 0) (0) ⟨0, _, trivial, rfl, upds_self _ ⟨by kernel_rfl, by kernel_rfl, by kernel_rfl, trivial⟩, rfl⟩ ?_
  rintro L f m ⟨k, j, hrel, rfl, rfl, rfl⟩
  refine ok_seq ?_
  refine ok_seq ?_
  refine ok_region ?_
  refine s_val (.int .i64 0) (by kernel_rfl) (fun _ => by kernel_rfl) ?_
  refine s_val (.slice none 0 0) (by kernel_rfl) (fun _ => by kernel_rfl) ?_
  refine s_val (.int .i64 (0 : Int)) (by kernel_rfl) (fun _ => by kernel_rfl) ?_
  refine s_val (.bool false) (by kernel_rfl) (fun _ => by kernel_rfl) ?_
  refine s_val (.bool false) (by kernel_rfl) (fun _ => by kernel_rfl) ?_
  refine s_skip (by kernel_rfl) ?_
  refine s_skip (by kernel_rfl) ?_
  refine s_skip (by kernel_rfl) ?_
  refine s_skip (by kernel_rfl) ?_
  refine s_skip (by kernel_rfl) ?_
  refine s_skip (by kernel_rfl) ?_
  refine s_val (.bool false) (by kernel_rfl) (fun _ => by kernel_rfl) ?_
  refine s_nil ?_
  refine fin_seq ?_
  refine ok_false (by kernel_rfl) ?_
  refine ok_exit ?_
  refine fin_seq_exit ?_
  refine fin_round_exit ?_
  refine fin_block_exit ?_
  refine fin_seq ?_
  refine ok_seq ?_
  refine ok_seq ?_
  refine ok_region ?_
  refine s_val (.int .i64 0) (by kernel_rfl) (fun _ => by kernel_rfl) ?_
  refine s_val (.slice none 0 0) (by kernel_rfl) (fun _ => by kernel_rfl) ?_
  refine s_val (.int .i64 (0 : Int)) (by kernel_rfl) (fun _ => by kernel_rfl) ?_
  refine s_val (.bool false) (by kernel_rfl) (fun _ => by kernel_rfl) ?_
  refine s_val (.bool false) (by kernel_rfl) (fun _ => by kernel_rfl) ?_
  refine s_skip (by kernel_rfl) ?_
  refine s_skip (by kernel_rfl) ?_
  refine s_skip (by kernel_rfl) ?_
  refine s_skip (by kernel_rfl) ?_
  refine s_skip (by kernel_rfl) ?_
  refine s_skip (by kernel_rfl) ?_
  refine s_val (.bool false) (by kernel_rfl) (fun _ => by kernel_rfl) ?_
  refine s_nil ?_
  refine fin_seq ?_
  refine ok_false (by kernel_rfl) ?_
  refine ok_skip ?_
  refine fin_seq ?_
  refine ok_seq ?_
  refine ok_anyh (by kernel_rfl) ?_
  refine h_take 0 [] _ (.slice none 0 0) rfl (by kernel_rfl) (by kernel_rfl) (by kernel_rfl) (pq_seq pq_body) (by kernel_rfl) (fun _ _ => by kernel_rfl) ?_
  refine h_take 1 [] _ (.int .i64 0) rfl (by kernel_rfl) (by kernel_rfl) (by kernel_rfl) (pq_seq pq_body) (by kernel_rfl) (fun _ _ => by kernel_rfl) ?_
  refine h_take 2 [] _ (.slice none 0 0) rfl (by kernel_rfl) (by kernel_rfl) (by kernel_rfl) (pq_seq pq_body) (by kernel_rfl) (fun w _ => fun w => by kernel_rfl w) ?_
  refine h_take 4 [] _ (.string (mkS s)) rfl (by kernel_rfl) (by kernel_rfl) (by kernel_rfl) (pq_seq pq_body) (by kernel_rfl) (fun _ _ => by kernel_rfl) ?_
  refine h_take 7 [] _ (.slice none 0 0) rfl (by kernel_rfl) (by kernel_rfl) (by kernel_rfl) (pq_seq pq_body) (by kernel_rfl) (fun _ _ => by kernel_rfl) ?_
  refine h_take 8 [] _ (.int .i64 0) rfl (by kernel_rfl) (by kernel_rfl) (by kernel_rfl) (pq_seq pq_body) (by kernel_rfl) (fun _ _ => by kernel_rfl) ?_
  refine h_take 9 [] _ (.slice none 0 0) rfl (by kernel_rfl) (by kernel_rfl) (by kernel_rfl) (pq_seq pq_body) (by kernel_rfl) (fun w _ => fun w => by kernel_rfl w) ?_
  refine h_two 3 5 (by kernel_rfl) ?_ ?_
  · skip
    obtain ⟨i1, z1, ea1, eb1, ec1, ed1, ee1⟩ := str_info9
    refine hl_append_nil (ob := ([] : List Blk)) (sz := 1) _ rfl (by kernel_rfl) (fun w hO => Own.sub ([] : List Blk) (by simpa using hO)) rfl Try.underlying30 ea1 (by kernel_rfl) (Sl.nil 9 1) rfl ?_
    refine h_cast (L' := [] ++ ([])) (by simp) ?_
    refine h_one 5 (by kernel_rfl) ?_
    refine hl_lit _ 9 #[.string (mkS s)] rfl (by kernel_rfl) rfl (fun w hO => Own.sub [] hO) (fun _ => by kernel_rfl) (fun b1 => ?_)
    refine h_one 6 (by kernel_rfl) ?_
    obtain ⟨i2, z2, ea2, eb2, ec2, ed2, ee2⟩ := str_info9
    refine hs_cast (L' := (⟨b1, #[.string (mkS s)], 9⟩ :: ([] : List Blk)) ++ ([] : List Blk) ++ ([] : List Blk)) (by simp) ?_
    refine hl_append (E := (⟨b1, #[.string (mkS s)], 9⟩ :: ([] : List Blk))) (ob := ([] : List Blk)) (R := ([] : List Blk)) (sz := 1) _ rfl (by kernel_rfl) rfl Try.underlying30 ea2 eb2 ec2 ed2 (by kernel_rfl) (Sl.nil 9 1) (a := ⟨b1, 0, none⟩) (m := 1) (c := 1) (news := [.string (mkS s)]) (by kernel_rfl) (by kernel_rfl) (fun w hO j u hj => ?_) (strV_one s) (by unfold maxLen; first | omega | (simp only [List.length_append, List.length_take, List.length_drop, List.length_cons, List.length_nil]; omega)) (by rw [ee2]; first | omega | (simp only [List.length_append, List.length_take, List.length_drop, List.length_cons, List.length_nil]; omega)) (fun ob' w h => Own.sub ((⟨b1, #[.string (mkS s)], 9⟩ :: ([] : List Blk)) ++ ob' ++ ([] : List Blk)) (by simpa using h)) (fun va2 o2 hva2 => ?_)
    · rw [add_off, cell_of_row w b1 (0 + j) #[.string (mkS s)] 9 _ (hO.held ⟨b1, #[.string (mkS s)], 9⟩ (by simp))]; simpa using hj
    have hs2 : SlT va2 ([s]) o2 := Sl.to hva2 (by first | (simp [List.length_take, List.length_drop]; done) | (simp [List.length_take, List.length_drop]; omega)) (by simp [strV])
    obtain ⟨V2, c2, rfl⟩ := hs2.form
    refine h_cast (L' := (⟨b1, #[.string (mkS s)], 9⟩ :: (o2 ++ ([] : List Blk))) ++ ([])) (by simp) ?_
    refine h_one 10 (by kernel_rfl) ?_
    obtain ⟨i3, z3, ea3, eb3, ec3, ed3, ee3⟩ := str_info9
    refine hl_append_nil (ob := o2) (sz := 1) _ rfl (by kernel_rfl) (fun w hO => Own.sub (⟨b1, #[.string (mkS s)], 9⟩ :: (o2 ++ ([] : List Blk))) (by simpa using hO)) rfl Try.underlying30 ea3 (by kernel_rfl) hs2 rfl ?_
    refine h_cast (L' := (⟨b1, #[.string (mkS s)], 9⟩ :: (o2 ++ ([] : List Blk))) ++ ([])) (by simp) ?_
    refine h_take 11 (⟨b1, #[.string (mkS s)], 9⟩ :: (o2 ++ ([] : List Blk))) _ (.slice V2 (([s]).length) c2) rfl (by kernel_rfl) (by kernel_rfl) (by kernel_rfl) (pq_seq pq_body) (by kernel_rfl) (fun _ _ => by kernel_rfl) ?_
    refine h_done (by kernel_rfl) ?_
    refine fin_seq ?_
    refine ok_ret ?_
    refine fin_ret (.slice V2 (([s]).length) c2) Try.results63 (by kernel_rfl) ?_
    exact fun w hO => ⟨_, _, rfl, .inr (by simpa [putT] using hs2), hO.sublist (by simp)⟩
  · skip
    refine hl_lit _ 9 #[.string (mkS s)] rfl (by kernel_rfl) rfl (fun w hO => Own.sub [] hO) (fun _ => by kernel_rfl) (fun b1 => ?_)
    refine h_one 3 (by kernel_rfl) ?_
    obtain ⟨i4, z4, ea4, eb4, ec4, ed4, ee4⟩ := str_info9
    refine hl_append_nil (ob := ([] : List Blk)) (sz := 1) _ rfl (by kernel_rfl) (fun w hO => Own.sub (⟨b1, #[.string (mkS s)], 9⟩ :: ([] : List Blk)) (by simpa using hO)) rfl Try.underlying30 ea4 (by kernel_rfl) (Sl.nil 9 1) rfl ?_
    refine h_cast (L' := [⟨b1, #[.string (mkS s)], 9⟩] ++ ([])) (by simp) ?_
    refine h_one 6 (by kernel_rfl) ?_
    obtain ⟨i5, z5, ea5, eb5, ec5, ed5, ee5⟩ := str_info9
    refine hs_cast (L' := (⟨b1, #[.string (mkS s)], 9⟩ :: ([] : List Blk)) ++ ([] : List Blk) ++ ([] : List Blk)) (by simp) ?_
    refine hl_append (E := (⟨b1, #[.string (mkS s)], 9⟩ :: ([] : List Blk))) (ob := ([] : List Blk)) (R := ([] : List Blk)) (sz := 1) _ rfl (by kernel_rfl) rfl Try.underlying30 ea5 eb5 ec5 ed5 (by kernel_rfl) (Sl.nil 9 1) (a := ⟨b1, 0, none⟩) (m := 1) (c := 1) (news := [.string (mkS s)]) (by kernel_rfl) (by kernel_rfl) (fun w hO j u hj => ?_) (strV_one s) (by unfold maxLen; first | omega | (simp only [List.length_append, List.length_take, List.length_drop, List.length_cons, List.length_nil]; omega)) (by rw [ee5]; first | omega | (simp only [List.length_append, List.length_take, List.length_drop, List.length_cons, List.length_nil]; omega)) (fun ob' w h => Own.sub ((⟨b1, #[.string (mkS s)], 9⟩ :: ([] : List Blk)) ++ ob' ++ ([] : List Blk)) (by simpa using h)) (fun va5 o5 hva5 => ?_)
    · rw [add_off, cell_of_row w b1 (0 + j) #[.string (mkS s)] 9 _ (hO.held ⟨b1, #[.string (mkS s)], 9⟩ (by simp))]; simpa using hj
    have hs5 : SlT va5 ([s]) o5 := Sl.to hva5 (by first | (simp [List.length_take, List.length_drop]; done) | (simp [List.length_take, List.length_drop]; omega)) (by simp [strV])
    obtain ⟨V5, c5, rfl⟩ := hs5.form
    refine h_cast (L' := (⟨b1, #[.string (mkS s)], 9⟩ :: (o5 ++ ([] : List Blk))) ++ ([])) (by simp) ?_
    refine h_one 10 (by kernel_rfl) ?_
    obtain ⟨i6, z6, ea6, eb6, ec6, ed6, ee6⟩ := str_info9
    refine hl_append_nil (ob := o5) (sz := 1) _ rfl (by kernel_rfl) (fun w hO => Own.sub (⟨b1, #[.string (mkS s)], 9⟩ :: (o5 ++ ([] : List Blk))) (by simpa using hO)) rfl Try.underlying30 ea6 (by kernel_rfl) hs5 rfl ?_
    refine h_cast (L' := (⟨b1, #[.string (mkS s)], 9⟩ :: (o5 ++ ([] : List Blk))) ++ ([])) (by simp) ?_
    refine h_take 11 (⟨b1, #[.string (mkS s)], 9⟩ :: (o5 ++ ([] : List Blk))) _ (.slice V5 (([s]).length) c5) rfl (by kernel_rfl) (by kernel_rfl) (by kernel_rfl) (pq_seq pq_body) (by kernel_rfl) (fun _ _ => by kernel_rfl) ?_
    refine h_done (by kernel_rfl) ?_
    refine fin_seq ?_
    refine ok_ret ?_
    refine fin_ret (.slice V5 (([s]).length) c5) Try.results63 (by kernel_rfl) ?_
    exact fun w hO => ⟨_, _, rfl, .inr (by simpa [putT] using hs5), hO.sublist (by simp)⟩
/-- The rising list l lies at a slice whose blocks are among those that are held. -/
theorem g11put_any {A : Option Addr} {cap : Nat} {l : List (List UInt8)} {ob L : List Blk} {M : List Nat} {W0 : World} (s : List UInt8) (W : World) (hv : SlT (.slice A l.length cap) l ob) (h0 : l = [] → A = none ∧ cap = 0) (hO : Own M W0 W L) (hs : ∀ x ∈ ob, x ∈ L) (hn : l.length ≤ 1000000) : Calls Try.prog 63 #[.slice A l.length cap, .string (mkS s)] W fun e w' => ∃ v' ob', e = .returned v' ∧ PutR (.slice A l.length cap) l s v' ob' ∧ Own [] W w' ob' := by
  by_cases hl : l = []
  · obtain ⟨rfl, rfl⟩ := h0 hl
    subst hl
    exact g11put_nil s W
  · have h1 : Reads strC W W.heap.size A l := SlT.reads hv rfl hO hs
    rcases hv.2 with ⟨e, h0, _⟩ | ⟨g, c, cur, e, _, h2, _⟩
    · exact absurd (List.eq_nil_of_length_eq_zero h0) hl
    · injection e with e1 e2 e3
      subst e3
      exact g11put_cons A cap g 0 l s W e1 hl h2 h1 hn
end Go.Proofs.Ytglbfknmeojfkaa
end

section
/-
  linchpinlaw0.features: what holds of the features that it makes (plain). No condition of its own.
-/
namespace Go.Proofs.Ytglbfknmeojfkaa
open Go.RowKit
set_option maxRecDepth 100000
set_option linter.unusedVariables false
set_option linter.unusedSimpArgs false

def nmF (k : Nat) : List UInt8 := if k = 0 then dfl else if k = 1 then [120] else if k = 2 then [121] else [122]
/-- What an item may be. -/
def ItemG (needs : List Nv) (keep : Nat → Bool) (s : List UInt8) : Prop :=
  (∃ m ∈ needs, ¬ m.opt = [] ∧ s = [63] ++ m.opt) ∨ (∃ m ∈ needs, ∃ w, m.any = [w] ∧ s = w.name ++ [47] ++ [120]) ∨ ∃ j, j < 4 ∧ keep j = true ∧ s = nmF j
structure OfG (needs : List Nv) (keep : Nat → Bool) (l : List (List UInt8)) (b : Nat) : Prop where
  rise : riseT l = true
  len : l.length ≤ b
  all : ∀ s ∈ l, ItemG needs keep s
theorem OfG.nil (needs : List Nv) (keep : Nat → Bool) : OfG needs keep [] 0 := ⟨rfl, Nat.le_refl _, fun s h => by simp at h⟩
theorem OfG.more {needs : List Nv} {keep : Nat → Bool} {l : List (List UInt8)} {b b' : Nat} (h : OfG needs keep l b) (hb : b ≤ b') : OfG needs keep l b' := ⟨h.rise, Nat.le_trans h.len hb, h.all⟩
theorem OfG.put {needs : List Nv} {keep : Nat → Bool} {l : List (List UInt8)} {b : Nat} (h : OfG needs keep l b) {s : List UInt8} (hs : ItemG needs keep s) : OfG needs keep (putT l s) (b + 1) :=
  ⟨put_rise h.rise, Nat.le_trans put_len (Nat.add_le_add_right h.len 1), fun x hx => by
    rcases put_mem.1 hx with rfl | hx
    · exact hs
    · exact h.all x hx⟩
structure FeatsG (needs : List Nv) (keep : Nat → Bool) (k : Nat) (xs : List Fv) : Prop where
  names : xs.map Fv.name = ((List.range k).filter keep).map nmF
  each : ∀ x ∈ xs, OfG needs keep x.of 5
theorem FeatsG.nil (needs : List Nv) (keep : Nat → Bool) : FeatsG needs keep 0 [] := ⟨rfl, fun x h => by simp at h⟩
theorem FeatsG.skip {needs : List Nv} {keep : Nat → Bool} {k : Nat} {xs : List Fv} (h : FeatsG needs keep k xs) (hk : keep k = false) : FeatsG needs keep (k + 1) xs :=
  ⟨by rw [List.range_succ, List.filter_append, List.map_append, ← h.names]; simp [hk], h.each⟩
theorem FeatsG.add {needs : List Nv} {keep : Nat → Bool} {k : Nat} {xs : List Fv} (h : FeatsG needs keep k xs) (hk : keep k = true) {x : Fv} (hn : x.name = nmF k) (ho : OfG needs keep x.of 5) : FeatsG needs keep (k + 1) (xs ++ [x]) :=
  ⟨by rw [List.range_succ, List.filter_append, List.map_append, List.map_append, ← h.names]; simp [hk, hn], fun y hy => by
    rcases List.mem_append.1 hy with hy | hy
    · exact h.each y hy
    · rw [List.mem_singleton.1 hy]; exact ho⟩
/-- A rising list in one's own memory. -/
structure OfS (A : Option Addr) (c : Nat) (l : List (List UInt8)) (o3 : List Blk) : Prop where
  ex : ∃ o, SlT (.slice A l.length c) l o ∧ ∀ b ∈ o, b ∈ o3
  bare : l = [] → A = none ∧ c = 0
theorem OfS.nil : OfS none 0 [] [] := ⟨⟨[], Sl.nil _ _, fun b h => h⟩, fun _ => ⟨rfl, rfl⟩⟩
theorem OfS.more {A : Option Addr} {c : Nat} {l : List (List UInt8)} {o o' : List Blk} (h : OfS A c l o) (hs : ∀ b ∈ o, b ∈ o') : OfS A c l o' := by
  obtain ⟨⟨q, h1, h2⟩, h3⟩ := h
  exact ⟨⟨q, h1, fun b hb => hs b (h2 b hb)⟩, h3⟩
theorem put_ne (l : List (List UInt8)) (s : List UInt8) : putT l s ≠ [] := fun e => by
  have : s ∈ putT l s := put_mem.2 (.inl rfl)
  rw [e] at this; simp at this
theorem OfS.put {A : Option Addr} {c : Nat} {l : List (List UInt8)} {o3 ob : List Blk} {s : List UInt8} {v : Value} (h : OfS A c l o3) (hp : PutR (.slice A l.length c) l s v ob) : ∃ A' c', v = .slice A' (putT l s).length c' ∧ OfS A' c' (putT l s) (o3 ++ ob) := by
  rcases hp with ⟨rfl, e, rfl⟩ | hp
  · refine ⟨A, c, by rw [e], ?_⟩
    rw [e]
    exact h.more fun b hb => by simpa using hb
  · obtain ⟨A', c', rfl⟩ := SlT.form hp
    exact ⟨A', c', rfl, ⟨⟨ob, hp, fun b hb => List.mem_append_right _ hb⟩, fun e => absurd e (put_ne l s)⟩⟩
/-- Features in one's own memory. -/
structure FtO (A : Option Addr) (c : Nat) (xs : List Fv) (o7 o2 : List Blk) : Prop where
  top : Sl 57 2 (.slice A xs.length c) xs.length (xs.flatMap fvC) o7
  each : ∀ x ∈ xs, ∃ o, SlT (.slice x.A x.of.length x.cap) x.of o ∧ ∀ b ∈ o, b ∈ o2
theorem FtO.nil : FtO none 0 [] [] [] := ⟨Sl.nil _ _, fun x h => by simp at h⟩
theorem FtO.more {A : Option Addr} {c : Nat} {xs : List Fv} {o7 o2 o2' : List Blk} (h : FtO A c xs o7 o2) (hs : ∀ b ∈ o2, b ∈ o2') : FtO A c xs o7 o2' := ⟨h.top, fun x hx => by
  obtain ⟨o, h1, h2⟩ := h.each x hx
  exact ⟨o, h1, fun b hb => hs b (h2 b hb)⟩⟩
theorem FtO.add {A A' : Option Addr} {c c' : Nat} {xs : List Fv} {o7 o7' o2 : List Blk} {x : Fv} (h : FtO A c xs o7 o2) (ht : Sl 57 2 (.slice A' (xs.length + 1) c') (xs.length + 1) (xs.flatMap fvC ++ fvC x) o7') (hx : ∃ o, SlT (.slice x.A x.of.length x.cap) x.of o ∧ ∀ b ∈ o, b ∈ o2) : FtO A' c' (xs ++ [x]) o7' o2 :=
  ⟨by rw [List.length_append, List.length_singleton, List.flatMap_append, List.flatMap_singleton]; exact ht, fun y hy => by
    rcases List.mem_append.1 hy with hy | hy
    · exact h.each y hy
    · rw [List.mem_singleton.1 hy]; exact hx⟩
end Go.Proofs.Ytglbfknmeojfkaa
end

section
/-
  linchpinlaw11: sample, awake: what they return; nothing that was there is changed. No condition of its own.
-/
namespace Go.Proofs.Ytglbfknmeojfkaa
open Go.RowKit
set_option maxRecDepth 100000
set_option linter.unusedVariables false
set_option linter.unusedSimpArgs false
set_option linter.unnecessarySimpa false
set_option maxHeartbeats 4000000

/-- Features in one's own memory can be read. -/
theorem FtO.inn {A : Option Addr} {c : Nat} {xs : List Fv} {o7 o2 L : List Blk} {M : List Nat} {W w : World} (h : FtO A c xs o7 o2) (hO : Own M W w L) (h7 : ∀ b ∈ o7, b ∈ L) (h2 : ∀ b ∈ o2, b ∈ L) (hn : xs.length ≤ 1000) (hm : ∀ x ∈ xs, x.of.length ≤ 1000) (hN : ∀ x ∈ xs, x.name.length ≤ 1000000) (ht : ∀ x ∈ xs, ∀ s ∈ x.of, s.length ≤ 1000000) : FtIn w w.heap.size A xs :=
  ⟨Sl.reads h.top rfl hO h7, fun x hx => by
    obtain ⟨o, ho, hs⟩ := h.each x hx
    exact SlT.reads ho rfl hO fun b hb => h2 b (hs b hb), hn, hm, hN, ht⟩
/-- A text out of one's own. -/
theorem own_text {A : Option Addr} {n cap : Nat} {l : List (List UInt8)} {ob L : List Blk} {M : List Nat} {W w : World} (h : SlT (.slice A n cap) l ob) (hn : l.length = n) (hO : Own M W w L) (hs : ∀ b ∈ ob, b ∈ L) {j : Nat} (hj : j < l.length) {b off : Nat} (hA : A = some ⟨b, off, none⟩) : (loadVar 9 ⟨b, off + j * 1 + 0, none⟩).run Try.prog w = .ok (.string (mkS l[j])) w := by
  obtain ⟨b', off', e, hel⟩ := (SlT.reads h hn hO hs).elem strC_len j hj
  rw [hA] at e
  injection e with e
  injection e with e1 e2
  subst e1; subst e2
  exact hel w (Below.refl _ _) _ 0 _ (by kernel_rfl)
def sampF : List Ft := [⟨dfl, [[120]]⟩, ⟨[120], [[63, 111], [98, 47, 121], [122]]⟩, ⟨[122], [[120]]⟩]
theorem sample_any (W : World) : Calls Try.prog 25 #[] W fun e w' => ∃ v ob, e = .returned v ∧ (∃ A xs o7 o2, v = .slice A 3 3 ∧ ob = o7 ++ o2 ∧ FtO A 3 xs o7 o2 ∧ ftOf xs = sampF) ∧ Own [] W w' ob := by
  refine x_enter Try.func25 (x_lit [] 1 9 #[.string (mkS [120])] fun b1 => x_lit [] 3 9 #[.string (mkS [63, 111]), .string (mkS [98, 47, 121]), .string (mkS [122])] fun b2 => x_lit [] 1 9 #[.string (mkS [120])] fun b3 => x_lit [] 3 57 #[.string (mkS dfl), .slice (some ⟨b1, 0, none⟩) 1 1, .string (mkS [120]), .slice (some ⟨b2, 0, none⟩) 3 3, .string (mkS [122]), .slice (some ⟨b3, 0, none⟩) 1 1] fun b4 => ?_)
  refine x_ret [] (.slice (some ⟨b4, 0, none⟩) 3 3) fun w hOx => ?_
  have hO : Own [] W w ([⟨b4, #[.string (mkS dfl), .slice (some ⟨b1, 0, none⟩) 1 1, .string (mkS [120]), .slice (some ⟨b2, 0, none⟩) 3 3, .string (mkS [122]), .slice (some ⟨b3, 0, none⟩) 1 1], 57⟩] ++ [⟨b3, #[.string (mkS [120])], 9⟩, ⟨b2, #[.string (mkS [63, 111]), .string (mkS [98, 47, 121]), .string (mkS [122])], 9⟩, ⟨b1, #[.string (mkS [120])], 9⟩]) := hOx.past 0 _
  refine ⟨_, _, rfl, ⟨some ⟨b4, 0, none⟩, [⟨dfl, some ⟨b1, 0, none⟩, [[120]], 1⟩, ⟨[120], some ⟨b2, 0, none⟩, [[63, 111], [98, 47, 121], [122]], 3⟩, ⟨[122], some ⟨b3, 0, none⟩, [[120]], 1⟩], _, _, rfl, rfl, ⟨⟨rfl, .inr ⟨b4, 3, _, rfl, rfl, Nat.le_refl _, by unfold maxLen; omega, rfl, rfl⟩⟩, fun x hx => ?_⟩, rfl⟩, hO⟩
  rcases List.mem_cons.1 hx with rfl | hx
  · exact ⟨[⟨b1, #[.string (mkS [120])], 9⟩], slt_lit [[120]] b1 _ rfl (by unfold maxLen; simp), fun b hb => by rw [List.mem_singleton.1 hb]; simp⟩
  rcases List.mem_cons.1 hx with rfl | hx
  · exact ⟨[⟨b2, #[.string (mkS [63, 111]), .string (mkS [98, 47, 121]), .string (mkS [122])], 9⟩], slt_lit [[63, 111], [98, 47, 121], [122]] b2 _ rfl (by unfold maxLen; simp), fun b hb => by rw [List.mem_singleton.1 hb]; simp⟩
  · rw [List.mem_singleton.1 hx]
    exact ⟨[⟨b3, #[.string (mkS [120])], 9⟩], slt_lit [[120]] b3 _ rfl (by unfold maxLen; simp), fun b hb => by rw [List.mem_singleton.1 hb]; simp⟩
theorem samp_in {A : Option Addr} {xs : List Fv} {o7 o2 L : List Blk} {M : List Nat} {W w : World} (h : FtO A 3 xs o7 o2) (he : ftOf xs = sampF) (hO : Own M W w L) (h7 : ∀ b ∈ o7, b ∈ L) (h2 : ∀ b ∈ o2, b ∈ L) : FtIn w w.heap.size A xs ∧ xs.length = 3 := by
  have hl : xs.length = 3 := by rw [← ftOf_len, he]; rfl
  have key : ∀ x ∈ xs, x.name.length ≤ 7 ∧ x.of.length ≤ 3 ∧ ∀ s ∈ x.of, s.length ≤ 3 := fun x hx => by
    have hm : x.ft ∈ sampF := he ▸ ft_mem hx
    have : ∀ f ∈ sampF, f.name.length ≤ 7 ∧ f.of.length ≤ 3 ∧ ∀ s ∈ f.of, s.length ≤ 3 := by unfold sampF; decide
    exact this x.ft hm
  exact ⟨h.inn hO h7 h2 (by omega) (fun x hx => by have := (key x hx).2.1; omega) (fun x hx => by have := (key x hx).1; omega) (fun x hx s hs => by have := (key x hx).2.2 s hs; omega), hl⟩
theorem samp_on : onF sampF [dfl] = [dfl, [120], [122]] ∧ optF sampF [dfl] = [[111]] ∧ pullF sampF [dfl] = [[98, 47, 121]] ∧ errF sampF [dfl] = 0 ∧ mayF sampF = true ∧ findI sampF [122] = 2 ∧ kindT [98, 47, 121] = (3, [98], [121]) := ⟨by kernel_rfl, by kernel_rfl, by kernel_rfl, by kernel_rfl, by kernel_rfl, by kernel_rfl, by kernel_rfl⟩
theorem awake11_any (W : World) (hK : FeLib W) : Calls Try.prog 9 #[] W fun e w' => e = .returned (.bool true) ∧ Below W.heap.size W w' := by
  obtain ⟨q1, q2, q3, q4, q5, q6, q7⟩ := samp_on
  refine x_enter Try.func9 (x_callM (R := fun v ob => ∃ A xs o7 o2, v = .slice A 3 3 ∧ ob = o7 ++ o2 ∧ FtO A 3 xs o7 o2 ∧ ftOf xs = sampF) [] (fun w hO => sample_any w) ?_)
  rintro v ob ⟨A, xs, o7, o2, rfl, rfl, hF, he⟩
  refine x_lit [] 1 9 #[.string (mkS dfl)] fun bd => ?_
  have hl3 : xs.length = 3 := by rw [← ftOf_len, he]; rfl
  have hclose : ∀ w, Own [] W w (⟨bd, #[.string (mkS dfl)], 9⟩ :: (o7 ++ o2)) → Calls Try.prog 17 #[.slice A 3 3, .slice (some ⟨bd, 0, none⟩) 1 1] w fun e w' => ∃ v ob, e = .returned v ∧ (∃ v1 v2 v3 o1 o2 o3, v = .tuple #[v1, v2, v3, .int .i64 0] ∧ ob = o1 ++ o2 ++ o3 ∧ SlT v1 [dfl, [120], [122]] o1 ∧ SlT v2 [[111]] o2 ∧ SlT v3 [[98, 47, 121]] o3) ∧ Own [] w w' ob := fun w hO => by
    have hin := (samp_in hF he hO (fun b hb => List.mem_cons_of_mem _ (List.mem_append_left _ hb)) (fun b hb => List.mem_cons_of_mem _ (List.mem_append_right _ hb))).1
    have hr : Reads strC w w.heap.size (some ⟨bd, 0, none⟩) [dfl] := SlT.reads (slt_lit [dfl] bd #[.string (mkS dfl)] rfl (by unfold maxLen; simp)) rfl hO fun b hb => by rw [List.mem_singleton.1 hb]; exact List.mem_cons_self ..
    have hc := fClose_own A (some ⟨bd, 0, none⟩) 3 1 xs [dfl] w hin hr (by simp) (fun a ha => by rw [List.mem_singleton.1 ha]; decide)
    rw [he, hl3, q4] at hc
    refine hc.mono fun e w' ⟨v1, v2, v3, o1, o2, o3, h1, h2, h3⟩ => ⟨_, _, h1, ⟨v1, v2, v3, o1, o2, o3, rfl, rfl, ?_, ?_, ?_⟩, h3⟩
    · rw [← q1]; exact h2.on.1
    · rw [← q2]; exact h2.op.1
    · rw [← q3]; exact h2.pu.1
  refine x_callM (R := fun v ob => ∃ v1 v2 v3 o1 o2 o3, v = .tuple #[v1, v2, v3, .int .i64 0] ∧ ob = o1 ++ o2 ++ o3 ∧ SlT v1 [dfl, [120], [122]] o1 ∧ SlT v2 [[111]] o2 ∧ SlT v3 [[98, 47, 121]] o3) [] (fun w hO => hclose w (hO.past 0 _)) ?_
  rintro v ob ⟨v1, v2, v3, p1, p2, p3, rfl, rfl, c1, c2, c3⟩
  obtain ⟨A1, k1, rfl⟩ := c1.form
  obtain ⟨A2, k2, rfl⟩ := c2.form
  obtain ⟨A3, k3, rfl⟩ := c3.form
  obtain ⟨g2, rfl, _⟩ := Sl.at0 c2 (by decide)
  have hitem : ∀ w, Calls Try.prog 10 #[.string (mkS [98, 47, 121])] w fun e w' => e = .returned (.tuple #[.int .i64 3, .string (mkS [98]), .string (mkS [121])]) ∧ Below w.heap.size w w' := fun w => by
    have := fItem_at [98, 47, 121] w (by decide)
    rw [q7] at this; exact this
  refine x_call (v := .tuple #[.int .i64 3, .string (mkS [98]), .string (mkS [121])]) [] (fun w hO => hitem w) ?_
  have hopt : ∀ w, Own [] W w ((⟨bd, #[.string (mkS dfl)], 9⟩ :: (o7 ++ o2)) ++ (p1 ++ p2 ++ p3)) → (loadVar 9 ⟨g2, 0, none⟩).run Try.prog w = .ok (.string (mkS [111])) w := fun w hO =>
    own_text c2 rfl hO (fun b hb => List.mem_append_right _ (List.mem_append_left _ (List.mem_append_right _ hb))) (j := 0) (by decide) rfl
  refine x_old 36 [] 9 g2 0 (.string (mkS [111])) (fun w hO => hopt w (hO.past 0 _)) (x_seq 37 [] [111] [111] (fun _ => ?_) (fun h => absurd rfl h))
  refine x_seq 50 [] [98] [98] (fun _ => ?_) (fun h => absurd rfl h)
  refine x_seq 54 [] [121] [121] (fun _ => ?_) (fun h => absurd rfl h)
  refine x_callM (R := fun v ob => ∃ A xs o7 o2, v = .slice A 3 3 ∧ ob = o7 ++ o2 ∧ FtO A 3 xs o7 o2 ∧ ftOf xs = sampF) [] (fun w hO => sample_any w) ?_
  rintro v ob ⟨A4, xs4, o47, o42, rfl, rfl, hF4, he4⟩
  have hmay : ∀ w, Own [] W w ((⟨bd, #[.string (mkS dfl)], 9⟩ :: (o7 ++ o2)) ++ (p1 ++ p2 ++ p3) ++ (o47 ++ o42)) → Calls Try.prog 13 #[.slice A4 3 3] w fun e w' => e = .returned (.bool true) ∧ Below w.heap.size w w' := fun w hO => by
    obtain ⟨hin, hl⟩ := samp_in hF4 he4 hO (fun b hb => List.mem_append_right _ (List.mem_append_left _ hb)) (fun b hb => List.mem_append_right _ (List.mem_append_right _ hb))
    have := fMay_at A4 3 xs4 w hin
    rw [hl, he4, q5] at this; exact this
  refine x_call (v := .bool true) [] (fun w hO => hmay w (hO.past 0 _)) ?_
  refine x_callM (R := fun v ob => ∃ A xs o7 o2, v = .slice A 3 3 ∧ ob = o7 ++ o2 ∧ FtO A 3 xs o7 o2 ∧ ftOf xs = sampF) [] (fun w hO => sample_any w) ?_
  rintro v ob ⟨A5, xs5, o57, o52, rfl, rfl, hF5, he5⟩
  have hfind : ∀ w, Own [] W w ((⟨bd, #[.string (mkS dfl)], 9⟩ :: (o7 ++ o2)) ++ (p1 ++ p2 ++ p3) ++ (o47 ++ o42) ++ (o57 ++ o52)) → Calls Try.prog 15 #[.slice A5 3 3, .string (mkS [122])] w fun e w' => e = .returned (.int .i64 2) ∧ Below w.heap.size w w' := fun w hO => by
    obtain ⟨hin, hl⟩ := samp_in hF5 he5 hO (fun b hb => List.mem_append_right _ (List.mem_append_left _ hb)) (fun b hb => List.mem_append_right _ (List.mem_append_right _ hb))
    have := fFind_at A5 3 xs5 [122] w hin
    rw [hl, he5, q6] at this; exact this
  exact x_call (v := .int .i64 2) [] (fun w hO => hfind w (hO.past 0 _)) (x_ret [] (.bool true) fun w hO => ⟨rfl, hO.below⟩)
end Go.Proofs.Ytglbfknmeojfkaa
end

section
/-
  linchpinlaw11: within: what it returns; nothing that was there is changed. Conditions: as each theorem names.
-/
namespace Go.Proofs.Ytglbfknmeojfkaa
open Go.RowKit
set_option maxRecDepth 100000
set_option linter.unusedVariables false
set_option linter.unusedSimpArgs false
set_option linter.unnecessarySimpa false
set_option maxHeartbeats 2000000

theorem in_old {x : List UInt8} {b : List (List UInt8)} {k : Nat} {fb : Bool} (h : fb = decide (x ∈ b.take k)) (hk : k < b.length) (hf : fb = true) : true = decide (x ∈ b.take (k + 1)) := by
  rw [hf] at h
  rw [List.take_succ_eq_append_getElem hk, decide_eq_true (List.mem_append_left _ (of_decide_eq_true h.symm))]
theorem in_new {x y : List UInt8} {b : List (List UInt8)} {k : Nat} (hk : k < b.length) (hy : b[k] = y) (h : x = y) : true = decide (x ∈ b.take (k + 1)) := by
  rw [List.take_succ_eq_append_getElem hk, hy, decide_eq_true (List.mem_append_right _ (by rw [h]; exact List.mem_singleton.2 rfl))]
theorem in_no {x y : List UInt8} {b : List (List UInt8)} {k : Nat} {fb : Bool} (h : fb = decide (x ∈ b.take k)) (hk : k < b.length) (hf : fb = false) (hy : b[k] = y) (hn : ¬ x = y) : false = decide (x ∈ b.take (k + 1)) := by
  rw [hf] at h
  rw [List.take_succ_eq_append_getElem hk, hy, decide_eq_false (fun q => by
    rcases List.mem_append.1 q with q | q
    · exact of_decide_eq_false h.symm q
    · exact hn (List.mem_singleton.1 q))]
theorem within_any (A B : Option Addr) (capa capb : Nat) (a b : List (List UInt8)) (W : World) (hv : Reads strC W W.heap.size A a) (hu : Reads strC W W.heap.size B b) (hn : a.length ≤ 1000000) (hm : b.length ≤ 1000000) : Calls Try.prog 23 #[.slice A a.length capa, .slice B b.length capb] W fun e w' => e = .returned (.bool (decide (∀ x ∈ a, x ∈ b))) ∧ Below W.heap.size W w' := by
  refine calls_ok (n := 34) Try.func23 rfl (by kernel_rfl) (by kernel_rfl) ?_
  refine ok_seq ?_
  refine ok_region ?_
  refine s_val (.bool false) (by kernel_rfl) (fun _ => by kernel_rfl) ?_
  refine s_nil ?_
  refine fin_seq ?_
  refine ok_seq ?_
  refine ok_seq ?_
  refine ok_region ?_
  refine s_val (.int .i64 0) (by kernel_rfl) (fun _ => by kernel_rfl) ?_
  refine s_nil ?_
  refine fin_seq ?_
  refine ok_block ?_
  refine ok_loop (fun L f m => ∃ (i : Nat) (j : Nat → Value), (i ≤ a.length ∧ ∀ x ∈ a.take i, x ∈ b) ∧ L = [] ∧ f = upds j [(0, .slice A a.length capa), (1, .slice B b.length capb), (5, .int .i64 (i : Int))] ∧ m = a.length - i) (a.length - 0) ⟨0, _, ⟨Nat.zero_le _, fun x hx => by simp at hx⟩, rfl, upds_self _ ⟨by kernel_rfl, by kernel_rfl, by kernel_rfl, trivial⟩, rfl⟩ ?_
  rintro L f m ⟨i, j, hrel, rfl, rfl, rfl⟩
  have hi6 := hrel.1
  refine ok_seq ?_
  refine ok_seq ?_
  refine ok_region ?_
  refine s_val (.int .i64 (i : Int)) (by kernel_rfl) (fun _ => by kernel_rfl) ?_
  refine s_val (.slice A a.length capa) (by kernel_rfl) (fun _ => by kernel_rfl) ?_
  refine s_val (.int .i64 (a.length : Int)) (by kernel_rfl) (fun _ => by kernel_rfl) ?_
  by_cases h1 : (i : Int) < (a.length : Int)
  · skip
    have hia : i < a.length := by omega
    obtain ⟨ba, oa, hA, hlta, hcella⟩ := hv (by omega)
    obtain ⟨x, hx⟩ : ∃ x, a[i] = x := ⟨_, rfl⟩
    refine s_dec (p := (i : Int) < (a.length : Int)) true (by kernel_rfl) (fun _ => by kernel_rfl) (decide_eq_true (h1)) ?_
    refine s_nil ?_
    refine fin_seq ?_
    refine ok_true (by kernel_rfl) ?_
    refine ok_skip ?_
    refine fin_seq ?_
    refine ok_seq ?_
    refine ok_block ?_
    refine ok_seq ?_
    refine ok_region ?_
    refine s_val (.bool false) (by kernel_rfl) (fun _ => by kernel_rfl) ?_
    refine s_nil ?_
    refine fin_seq ?_
    refine ok_seq ?_
    refine ok_seq ?_
    refine ok_region ?_
    refine s_val (.int .i64 0) (by kernel_rfl) (fun _ => by kernel_rfl) ?_
    refine s_nil ?_
    refine fin_seq ?_
    refine ok_block ?_
    have hrelo := hrel
    refine ok_loop (fun L f m => ∃ (k : Nat) (fb : Bool) (j : Nat → Value), (k ≤ b.length ∧ fb = decide (x ∈ b.take k)) ∧ L = [] ∧ f = upds j [(0, .slice A a.length capa), (1, .slice B b.length capb), (5, .int .i64 (i : Int)), (6, .bool fb), (7, .int .i64 (k : Int))] ∧ m = b.length - k) (b.length - 0) ⟨0, false, _, ⟨Nat.zero_le _, by simp⟩, rfl, upds_self _ ⟨by kernel_rfl, by kernel_rfl, by kernel_rfl, by kernel_rfl, by kernel_rfl, trivial⟩, rfl⟩ ?_
    rintro L f m ⟨k, fb, j, hrel, rfl, rfl, rfl⟩
    obtain ⟨hk6, hfb⟩ := hrel; have hrel := hrelo
    refine ok_seq ?_
    refine ok_seq ?_
    refine ok_region ?_
    refine s_val (.int .i64 (k : Int)) (by kernel_rfl) (fun _ => by kernel_rfl) ?_
    refine s_val (.slice B b.length capb) (by kernel_rfl) (fun _ => by kernel_rfl) ?_
    refine s_val (.int .i64 (b.length : Int)) (by kernel_rfl) (fun _ => by kernel_rfl) ?_
    by_cases h2 : (k : Int) < (b.length : Int)
    · skip
      have hkb : k < b.length := by omega
      obtain ⟨bb, ob, hB, hltb, hcellb⟩ := hu (by omega)
      obtain ⟨y, hy⟩ : ∃ y, b[k] = y := ⟨_, rfl⟩
      refine s_dec (p := (k : Int) < (b.length : Int)) true (by kernel_rfl) (fun _ => by kernel_rfl) (decide_eq_true (h2)) ?_
      refine s_nil ?_
      refine fin_seq ?_
      refine ok_true (by kernel_rfl) ?_
      refine ok_skip ?_
      refine fin_seq ?_
      refine ok_seq ?_
      refine ok_block ?_
      refine ok_draw (by kernel_rfl) (by kernel_rfl) ?_
      refine q_val (.bool fb) (by kernel_rfl) (fun _ => by kernel_rfl) ?_
      refine q_val (.bool fb) (by kernel_rfl) (fun _ => by kernel_rfl) ?_
      cases h3 : fb with
      | true =>
        refine q_skip (by kernel_rfl) ?_
        refine q_skip (by kernel_rfl) ?_
        refine q_skip (by kernel_rfl) ?_
        refine q_skip (by kernel_rfl) ?_
        refine q_skip (by kernel_rfl) ?_
        refine q_skip (by kernel_rfl) ?_
        refine q_skip (by kernel_rfl) ?_
        refine q_skip (by kernel_rfl) ?_
        refine q_skip (by kernel_rfl) ?_
        refine q_val (.bool true) (by kernel_rfl) (fun _ => by kernel_rfl) ?_
        refine q_val (.bool true) (by kernel_rfl) (fun _ => by kernel_rfl) ?_
        refine q_nil ?_
        refine fin_block ?_
        refine fin_seq ?_
        refine ok_region ?_
        refine s_val (.int .i64 (k : Int)) (by kernel_rfl) (fun _ => by kernel_rfl) ?_
        refine s_sum (k := .i64) (((k + 1 : Nat) : Int)) (by kernel_rfl) (fun _ => by kernel_rfl) (IntWalk.i64_in _ (by omega)) ?_
        refine s_val (.int .i64 ((k + 1 : Nat) : Int)) (by kernel_rfl) (fun _ => by kernel_rfl) ?_
        refine s_nil ?_
        exact fin_round (m' := b.length - (k + 1)) (by omega) ⟨k + 1, true, _, ⟨by omega, in_old hfb hkb h3⟩, rfl, upds_self _ ⟨by kernel_rfl, by kernel_rfl, by kernel_rfl, by kernel_rfl, by kernel_rfl, trivial⟩, rfl⟩
      | false =>
        refine q_val (.slice A a.length capa) (by kernel_rfl) (fun _ => by kernel_rfl) ?_
        refine q_val (.int .i64 (i : Int)) (by kernel_rfl) (fun _ => by kernel_rfl) ?_
        refine q_val (.pointer (some ⟨ba, oa + i * 1, none⟩)) (by kernel_rfl) (run_ixA (b := ba) (off := oa) (c := capa) (n := a.length) (k := .i64) (j := (i : Int)) (e := 9) (sz := 1) rfl (by kernel_rfl) hA (by kernel_rfl) (by kernel_rfl) (by kernel_rfl) (by omega) (by omega) (by omega)) ?_
        refine q_old (.string (mkS x)) (a := ⟨ba, oa + i * 1, none⟩) (by kernel_rfl) rfl (by kernel_rfl) (fun w hO => Reads.load strC_len (hv.on hO.below hO.size) hA i 0 hia (by omega) _ (by rw [hx]; kernel_rfl)) ?_
        refine q_val (.slice B b.length capb) (by kernel_rfl) (fun _ => by kernel_rfl) ?_
        refine q_val (.int .i64 (k : Int)) (by kernel_rfl) (fun _ => by kernel_rfl) ?_
        refine q_val (.pointer (some ⟨bb, ob + k * 1, none⟩)) (by kernel_rfl) (run_ixA (b := bb) (off := ob) (c := capb) (n := b.length) (k := .i64) (j := (k : Int)) (e := 9) (sz := 1) rfl (by kernel_rfl) hB (by kernel_rfl) (by kernel_rfl) (by kernel_rfl) (by omega) (by omega) (by omega)) ?_
        refine q_old (.string (mkS y)) (a := ⟨bb, ob + k * 1, none⟩) (by kernel_rfl) rfl (by kernel_rfl) (fun w hO => Reads.load strC_len (hu.on hO.below hO.size) hB k 0 hkb (by omega) _ (by rw [hy]; kernel_rfl)) ?_
        by_cases h4 : (x : List UInt8) = y
        · skip
          refine q_val (.bool true) (by kernel_rfl) (run_streql (a := x) (b := y) rfl (by kernel_rfl) (by kernel_rfl) (decide_eq_true (h4))) ?_
          refine q_val (.bool true) (by kernel_rfl) (fun _ => by kernel_rfl) ?_
          refine q_val (.bool true) (by kernel_rfl) (fun _ => by kernel_rfl) ?_
          refine q_nil ?_
          refine fin_block ?_
          refine fin_seq ?_
          refine ok_region ?_
          refine s_val (.int .i64 (k : Int)) (by kernel_rfl) (fun _ => by kernel_rfl) ?_
          refine s_sum (k := .i64) (((k + 1 : Nat) : Int)) (by kernel_rfl) (fun _ => by kernel_rfl) (IntWalk.i64_in _ (by omega)) ?_
          refine s_val (.int .i64 ((k + 1 : Nat) : Int)) (by kernel_rfl) (fun _ => by kernel_rfl) ?_
          refine s_nil ?_
          exact fin_round (m' := b.length - (k + 1)) (by omega) ⟨k + 1, true, _, ⟨by omega, in_new hkb hy h4⟩, rfl, upds_self _ ⟨by kernel_rfl, by kernel_rfl, by kernel_rfl, by kernel_rfl, by kernel_rfl, trivial⟩, rfl⟩
        · skip
          refine q_val (.bool false) (by kernel_rfl) (run_streql (a := x) (b := y) rfl (by kernel_rfl) (by kernel_rfl) (decide_eq_false (h4))) ?_
          refine q_val (.bool false) (by kernel_rfl) (fun _ => by kernel_rfl) ?_
          refine q_val (.bool false) (by kernel_rfl) (fun _ => by kernel_rfl) ?_
          refine q_nil ?_
          refine fin_block ?_
          refine fin_seq ?_
          refine ok_region ?_
          refine s_val (.int .i64 (k : Int)) (by kernel_rfl) (fun _ => by kernel_rfl) ?_
          refine s_sum (k := .i64) (((k + 1 : Nat) : Int)) (by kernel_rfl) (fun _ => by kernel_rfl) (IntWalk.i64_in _ (by omega)) ?_
          refine s_val (.int .i64 ((k + 1 : Nat) : Int)) (by kernel_rfl) (fun _ => by kernel_rfl) ?_
          refine s_nil ?_
          exact fin_round (m' := b.length - (k + 1)) (by omega) ⟨k + 1, false, _, ⟨by omega, in_no hfb hkb h3 hy h4⟩, rfl, upds_self _ ⟨by kernel_rfl, by kernel_rfl, by kernel_rfl, by kernel_rfl, by kernel_rfl, trivial⟩, rfl⟩
    · skip
      have hfin : fb = decide (x ∈ b) := by rw [hfb, List.take_of_length_le (by omega)]
      refine s_dec (p := (k : Int) < (b.length : Int)) false (by kernel_rfl) (fun _ => by kernel_rfl) (decide_eq_false (h2)) ?_
      refine s_nil ?_
      refine fin_seq ?_
      refine ok_false (by kernel_rfl) ?_
      refine ok_exit ?_
      refine fin_seq_exit ?_
      refine fin_round_exit ?_
      refine fin_block_exit ?_
      refine fin_seq ?_
      refine ok_seq ?_
      refine ok_region ?_
      refine s_val (.bool fb) (by kernel_rfl) (fun _ => by kernel_rfl) ?_
      cases h5 : fb with
      | true =>
        refine s_val (.bool false) (by kernel_rfl) (fun _ => by kernel_rfl) ?_
        refine s_nil ?_
        refine fin_seq ?_
        refine ok_false (by kernel_rfl) ?_
        refine ok_skip ?_
        refine fin_block ?_
        refine fin_seq ?_
        refine ok_region ?_
        refine s_val (.int .i64 (i : Int)) (by kernel_rfl) (fun _ => by kernel_rfl) ?_
        refine s_sum (k := .i64) (((i + 1 : Nat) : Int)) (by kernel_rfl) (fun _ => by kernel_rfl) (IntWalk.i64_in _ (by omega)) ?_
        refine s_val (.int .i64 ((i + 1 : Nat) : Int)) (by kernel_rfl) (fun _ => by kernel_rfl) ?_
        refine s_nil ?_
        exact fin_round (m' := a.length - (i + 1)) (by omega) ⟨i + 1, _, ⟨by omega, mem_step hia hrel.2 (by rw [hx]; exact of_decide_eq_true (hfin.symm.trans h5))⟩, rfl, upds_self _ ⟨by kernel_rfl, by kernel_rfl, by kernel_rfl, trivial⟩, rfl⟩
      | false =>
        refine s_val (.bool true) (by kernel_rfl) (fun _ => by kernel_rfl) ?_
        refine s_nil ?_
        refine fin_seq ?_
        refine ok_true (by kernel_rfl) ?_
        refine ok_seq ?_
        refine ok_region ?_
        refine s_val (.bool false) (by kernel_rfl) (fun _ => by kernel_rfl) ?_
        refine s_nil ?_
        refine fin_seq ?_
        refine ok_ret ?_
        refine fin_block_ret ?_
        refine fin_seq_ret ?_
        refine fin_round_ret ?_
        refine fin_block_ret ?_
        refine fin_seq_ret ?_
        refine fin_ret (.bool false) Try.results23 (by kernel_rfl) ?_
        exact fun w hO => ⟨by rw [show decide (∀ x ∈ a, x ∈ b) = false from decide_eq_false fun q => of_decide_eq_false (hfin.symm.trans h5) (q x (hx ▸ List.getElem_mem hia))], hO.below⟩
  · skip
    refine s_dec (p := (i : Int) < (a.length : Int)) false (by kernel_rfl) (fun _ => by kernel_rfl) (decide_eq_false (h1)) ?_
    refine s_nil ?_
    refine fin_seq ?_
    refine ok_false (by kernel_rfl) ?_
    refine ok_exit ?_
    refine fin_seq_exit ?_
    refine fin_round_exit ?_
    refine fin_block_exit ?_
    refine fin_seq ?_
    refine ok_seq ?_
    refine ok_region ?_
    refine s_val (.bool true) (by kernel_rfl) (fun _ => by kernel_rfl) ?_
    refine s_nil ?_
    refine fin_seq ?_
    refine ok_ret ?_
    refine fin_ret (.bool true) Try.results23 (by kernel_rfl) ?_
    exact fun w hO => ⟨by rw [show decide (∀ x ∈ a, x ∈ b) = true from decide_eq_true (mem_end (i := i) (by omega) hrel.2)], hO.below⟩
end Go.Proofs.Ytglbfknmeojfkaa
end

section
/-
  linchpinlaw11: few; FeatureItems, FeatureRaw: they return true. Conditions: as each theorem names.
-/
namespace Go.Proofs.Ytglbfknmeojfkaa
open Go.RowKit
set_option maxRecDepth 100000
set_option linter.unusedVariables false
set_option linter.unusedSimpArgs false
set_option linter.unnecessarySimpa false
set_option maxHeartbeats 2000000

/-- Few, and short. -/
structure FewF (xs : List Fv) : Prop where
  n : xs.length ≤ 13
  name : ∀ x ∈ xs, x.name.length ≤ 60
  m : ∀ x ∈ xs, x.of.length ≤ 12
  text : ∀ x ∈ xs, ∀ s ∈ x.of, s.length ≤ 60
theorem FewF.inn {xs : List Fv} (h : FewF xs) {w : World} {B : Nat} {A : Option Addr} (hv : Reads fvC w B A xs) (he : ∀ x ∈ xs, Reads strC w B x.A x.of) : FtIn w B A xs :=
  ⟨hv, he, by have := h.n; omega, fun x hx => by have := h.m x hx; omega, fun x hx => by have := h.name x hx; omega, fun x hx s hs => by have := h.text x hx s hs; omega⟩
def FeS (x : Fv) : Prop := x.name.length ≤ 60 ∧ x.of.length ≤ 12 ∧ ∀ s ∈ x.of, s.length ≤ 60
theorem FewF.of {xs : List Fv} (h : xs.length ≤ 13) (h2 : ∀ x ∈ xs, FeS x) : FewF xs := ⟨h, fun x hx => (h2 x hx).1, fun x hx => (h2 x hx).2.1, fun x hx => (h2 x hx).2.2⟩
theorem few11_any (A : Option Addr) (cap : Nat) (xs : List Fv) (W : World) (hv : Reads fvC W W.heap.size A xs) (he : ∀ x ∈ xs, Reads strC W W.heap.size x.A x.of) : Calls Try.prog 12 #[.slice A xs.length cap] W fun e w' => ∃ b, e = .returned (.bool b) ∧ (b = true → FewF xs) ∧ Below W.heap.size W w' := by
  refine calls_ok (n := 51) Try.func12 rfl (by kernel_rfl) (by kernel_rfl) ?_
  refine ok_seq ?_
  refine ok_region ?_
  refine s_val (.bool false) (by kernel_rfl) (fun _ => by kernel_rfl) ?_
  refine s_nil ?_
  refine fin_seq ?_
  refine ok_seq ?_
  refine ok_seq ?_
  refine ok_region ?_
  refine s_val (.int .i64 0) (by kernel_rfl) (fun _ => by kernel_rfl) ?_
  refine s_nil ?_
  refine fin_seq ?_
  refine ok_block ?_
  refine ok_loop (fun L f m => ∃ (i : Nat) (j : Nat → Value), (i ≤ xs.length ∧ i ≤ 13 ∧ ∀ x ∈ xs.take i, FeS x) ∧ L = [] ∧ f = upds j [(0, .slice A xs.length cap), (3, .int .i64 (i : Int))] ∧ m = xs.length - i) (xs.length - 0) ⟨0, _, ⟨Nat.zero_le _, by omega, fun x hx => by simp at hx⟩, rfl, upds_self _ ⟨by kernel_rfl, by kernel_rfl, trivial⟩, rfl⟩ ?_
  rintro L f m ⟨i, j, hrel, rfl, rfl, rfl⟩
  have hi6 := hrel.1; have hi7 := hrel.2.1
  refine ok_seq ?_
  refine ok_seq ?_
  refine ok_region ?_
  refine s_val (.int .i64 (i : Int)) (by kernel_rfl) (fun _ => by kernel_rfl) ?_
  refine s_val (.slice A xs.length cap) (by kernel_rfl) (fun _ => by kernel_rfl) ?_
  refine s_val (.int .i64 (xs.length : Int)) (by kernel_rfl) (fun _ => by kernel_rfl) ?_
  by_cases h1 : (i : Int) < (xs.length : Int)
  · skip
    have hil : i < xs.length := by omega
    obtain ⟨bp, off, hA, hlt, hcell⟩ := hv (by omega)
    obtain ⟨x, hx⟩ : ∃ x, xs[i] = x := ⟨_, rfl⟩
    have hxm : x ∈ xs := hx ▸ List.getElem_mem hil
    have hns := mkS_sz x.name
    refine s_dec (p := (i : Int) < (xs.length : Int)) true (by kernel_rfl) (fun _ => by kernel_rfl) (decide_eq_true (h1)) ?_
    refine s_nil ?_
    refine fin_seq ?_
    refine ok_true (by kernel_rfl) ?_
    refine ok_skip ?_
    refine fin_seq ?_
    refine ok_seq ?_
    refine ok_block ?_
    refine ok_seq ?_
    refine ok_seq ?_
    refine ok_region ?_
    refine s_val (.int .i64 (i : Int)) (by kernel_rfl) (fun _ => by kernel_rfl) ?_
    by_cases h2 : (12 : Int) < (i : Int)
    · skip
      refine s_dec (p := (12 : Int) < (i : Int)) true (by kernel_rfl) (fun _ => by kernel_rfl) (decide_eq_true (h2)) ?_
      refine s_val (.bool true) (by kernel_rfl) (fun _ => by kernel_rfl) ?_
      refine s_skip (by kernel_rfl) ?_
      refine s_skip (by kernel_rfl) ?_
      refine s_skip (by kernel_rfl) ?_
      refine s_skip (by kernel_rfl) ?_
      refine s_skip (by kernel_rfl) ?_
      refine s_skip (by kernel_rfl) ?_
      refine s_skip (by kernel_rfl) ?_
      refine s_val (.bool true) (by kernel_rfl) (fun _ => by kernel_rfl) ?_
      refine s_val (.bool true) (by kernel_rfl) (fun _ => by kernel_rfl) ?_
      refine s_skip (by kernel_rfl) ?_
      refine s_skip (by kernel_rfl) ?_
      refine s_skip (by kernel_rfl) ?_
      refine s_skip (by kernel_rfl) ?_
      refine s_skip (by kernel_rfl) ?_
      refine s_skip (by kernel_rfl) ?_
      refine s_skip (by kernel_rfl) ?_
      refine s_val (.bool true) (by kernel_rfl) (fun _ => by kernel_rfl) ?_
      refine s_nil ?_
      refine fin_seq ?_
      refine ok_true (by kernel_rfl) ?_
      refine ok_seq ?_
      refine ok_region ?_
      refine s_val (.bool false) (by kernel_rfl) (fun _ => by kernel_rfl) ?_
      refine s_nil ?_
      refine fin_seq ?_
      refine ok_ret ?_
      refine fin_seq_ret ?_
      refine fin_block_ret ?_
      refine fin_seq_ret ?_
      refine fin_round_ret ?_
      refine fin_block_ret ?_
      refine fin_seq_ret ?_
      refine fin_ret (.bool false) Try.results12 (by kernel_rfl) ?_
      exact fun w hO => ⟨false, rfl, fun q => (by cases q), hO.below⟩
    · skip
      refine s_dec (p := (12 : Int) < (i : Int)) false (by kernel_rfl) (fun _ => by kernel_rfl) (decide_eq_false (h2)) ?_
      refine s_val (.bool false) (by kernel_rfl) (fun _ => by kernel_rfl) ?_
      refine s_val (.slice A xs.length cap) (by kernel_rfl) (fun _ => by kernel_rfl) ?_
      refine s_val (.int .i64 (i : Int)) (by kernel_rfl) (fun _ => by kernel_rfl) ?_
      refine s_val (.pointer (some ⟨bp, off + i * 2, none⟩)) (by kernel_rfl) (run_ixA (b := bp) (off := off) (c := cap) (n := xs.length) (k := .i64) (j := (i : Int)) (e := 57) (sz := 2) rfl (by kernel_rfl) hA (by kernel_rfl) (by kernel_rfl) (by kernel_rfl) (by omega) (by omega) (by omega)) ?_
      refine s_val (.pointer (some ⟨bp, off + i * 2 + 0, none⟩)) (by kernel_rfl) (fun _ => by kernel_rfl) ?_
      refine s_old (.string (mkS x.name)) (a := ⟨bp, off + i * 2 + 0, none⟩) (by kernel_rfl) rfl (by kernel_rfl) (fun w hO => Reads.load fvC_len (hv.on hO.below hO.size) hA i 0 hil (by omega) _ (by rw [hx]; kernel_rfl)) ?_
      refine s_val (.int .i64 ((mkS x.name).size)) (by kernel_rfl) (fun _ => by kernel_rfl) ?_
      by_cases h3 : (60 : Int) < (mkS x.name).size
      · skip
        refine s_dec (p := (60 : Int) < (mkS x.name).size) true (by kernel_rfl) (fun _ => by kernel_rfl) (decide_eq_true (h3)) ?_
        refine s_val (.bool true) (by kernel_rfl) (fun _ => by kernel_rfl) ?_
        refine s_val (.bool true) (by kernel_rfl) (fun _ => by kernel_rfl) ?_
        refine s_skip (by kernel_rfl) ?_
        refine s_skip (by kernel_rfl) ?_
        refine s_skip (by kernel_rfl) ?_
        refine s_skip (by kernel_rfl) ?_
        refine s_skip (by kernel_rfl) ?_
        refine s_skip (by kernel_rfl) ?_
        refine s_skip (by kernel_rfl) ?_
        refine s_val (.bool true) (by kernel_rfl) (fun _ => by kernel_rfl) ?_
        refine s_nil ?_
        refine fin_seq ?_
        refine ok_true (by kernel_rfl) ?_
        refine ok_seq ?_
        refine ok_region ?_
        refine s_val (.bool false) (by kernel_rfl) (fun _ => by kernel_rfl) ?_
        refine s_nil ?_
        refine fin_seq ?_
        refine ok_ret ?_
        refine fin_seq_ret ?_
        refine fin_block_ret ?_
        refine fin_seq_ret ?_
        refine fin_round_ret ?_
        refine fin_block_ret ?_
        refine fin_seq_ret ?_
        refine fin_ret (.bool false) Try.results12 (by kernel_rfl) ?_
        exact fun w hO => ⟨false, rfl, fun q => (by cases q), hO.below⟩
      · skip
        refine s_dec (p := (60 : Int) < (mkS x.name).size) false (by kernel_rfl) (fun _ => by kernel_rfl) (decide_eq_false (h3)) ?_
        refine s_val (.bool false) (by kernel_rfl) (fun _ => by kernel_rfl) ?_
        refine s_val (.bool false) (by kernel_rfl) (fun _ => by kernel_rfl) ?_
        refine s_val (.slice A xs.length cap) (by kernel_rfl) (fun _ => by kernel_rfl) ?_
        refine s_val (.int .i64 (i : Int)) (by kernel_rfl) (fun _ => by kernel_rfl) ?_
        refine s_val (.pointer (some ⟨bp, off + i * 2, none⟩)) (by kernel_rfl) (run_ixA (b := bp) (off := off) (c := cap) (n := xs.length) (k := .i64) (j := (i : Int)) (e := 57) (sz := 2) rfl (by kernel_rfl) hA (by kernel_rfl) (by kernel_rfl) (by kernel_rfl) (by omega) (by omega) (by omega)) ?_
        refine s_val (.pointer (some ⟨bp, off + i * 2 + 1, none⟩)) (by kernel_rfl) (fun _ => by kernel_rfl) ?_
        refine s_old (.slice x.A x.of.length x.cap) (a := ⟨bp, off + i * 2 + 1, none⟩) (by kernel_rfl) rfl (by kernel_rfl) (fun w hO => Reads.load fvC_len (hv.on hO.below hO.size) hA i 1 hil (by omega) _ (by rw [hx]; kernel_rfl)) ?_
        refine s_val (.int .i64 (x.of.length : Int)) (by kernel_rfl) (fun _ => by kernel_rfl) ?_
        by_cases h4 : (12 : Int) < (x.of.length : Int)
        · skip
          refine s_dec (p := (12 : Int) < (x.of.length : Int)) true (by kernel_rfl) (fun _ => by kernel_rfl) (decide_eq_true (h4)) ?_
          refine s_val (.bool true) (by kernel_rfl) (fun _ => by kernel_rfl) ?_
          refine s_nil ?_
          refine fin_seq ?_
          refine ok_true (by kernel_rfl) ?_
          refine ok_seq ?_
          refine ok_region ?_
          refine s_val (.bool false) (by kernel_rfl) (fun _ => by kernel_rfl) ?_
          refine s_nil ?_
          refine fin_seq ?_
          refine ok_ret ?_
          refine fin_seq_ret ?_
          refine fin_block_ret ?_
          refine fin_seq_ret ?_
          refine fin_round_ret ?_
          refine fin_block_ret ?_
          refine fin_seq_ret ?_
          refine fin_ret (.bool false) Try.results12 (by kernel_rfl) ?_
          exact fun w hO => ⟨false, rfl, fun q => (by cases q), hO.below⟩
        · skip
          refine s_dec (p := (12 : Int) < (x.of.length : Int)) false (by kernel_rfl) (fun _ => by kernel_rfl) (decide_eq_false (h4)) ?_
          refine s_val (.bool false) (by kernel_rfl) (fun _ => by kernel_rfl) ?_
          refine s_nil ?_
          refine fin_seq ?_
          refine ok_false (by kernel_rfl) ?_
          refine ok_skip ?_
          refine fin_seq ?_
          refine ok_seq ?_
          refine ok_region ?_
          refine s_val (.int .i64 0) (by kernel_rfl) (fun _ => by kernel_rfl) ?_
          refine s_nil ?_
          refine fin_seq ?_
          refine ok_block ?_
          have hrelo := hrel
          refine ok_loop (fun L f m => ∃ (k : Nat) (j : Nat → Value), (k ≤ x.of.length ∧ ∀ s ∈ x.of.take k, s.length ≤ 60) ∧ L = [] ∧ f = upds j [(0, .slice A xs.length cap), (3, .int .i64 (i : Int)), (4, .int .i64 (k : Int))] ∧ m = x.of.length - k) (x.of.length - 0) ⟨0, _, ⟨Nat.zero_le _, fun s hs => by simp at hs⟩, rfl, upds_self _ ⟨by kernel_rfl, by kernel_rfl, by kernel_rfl, trivial⟩, rfl⟩ ?_
          rintro L f m ⟨k, j, hrel, rfl, rfl, rfl⟩
          obtain ⟨hk6, hk5⟩ := hrel; have hrel := hrelo
          refine ok_seq ?_
          refine ok_seq ?_
          refine ok_region ?_
          refine s_val (.int .i64 (k : Int)) (by kernel_rfl) (fun _ => by kernel_rfl) ?_
          refine s_val (.slice A xs.length cap) (by kernel_rfl) (fun _ => by kernel_rfl) ?_
          refine s_val (.int .i64 (i : Int)) (by kernel_rfl) (fun _ => by kernel_rfl) ?_
          refine s_val (.pointer (some ⟨bp, off + i * 2, none⟩)) (by kernel_rfl) (run_ixA (b := bp) (off := off) (c := cap) (n := xs.length) (k := .i64) (j := (i : Int)) (e := 57) (sz := 2) rfl (by kernel_rfl) hA (by kernel_rfl) (by kernel_rfl) (by kernel_rfl) (by omega) (by omega) (by omega)) ?_
          refine s_val (.pointer (some ⟨bp, off + i * 2 + 1, none⟩)) (by kernel_rfl) (fun _ => by kernel_rfl) ?_
          refine s_old (.slice x.A x.of.length x.cap) (a := ⟨bp, off + i * 2 + 1, none⟩) (by kernel_rfl) rfl (by kernel_rfl) (fun w hO => Reads.load fvC_len (hv.on hO.below hO.size) hA i 1 hil (by omega) _ (by rw [hx]; kernel_rfl)) ?_
          refine s_val (.int .i64 (x.of.length : Int)) (by kernel_rfl) (fun _ => by kernel_rfl) ?_
          by_cases h5 : (k : Int) < (x.of.length : Int)
          · skip
            have hkl : k < x.of.length := by omega
            obtain ⟨bq, ofq, hB, _, _⟩ := he x hxm (by omega)
            obtain ⟨s, hs⟩ : ∃ s, x.of[k] = s := ⟨_, rfl⟩
            have hss := mkS_sz s
            refine s_dec (p := (k : Int) < (x.of.length : Int)) true (by kernel_rfl) (fun _ => by kernel_rfl) (decide_eq_true (h5)) ?_
            refine s_nil ?_
            refine fin_seq ?_
            refine ok_true (by kernel_rfl) ?_
            refine ok_skip ?_
            refine fin_seq ?_
            refine ok_seq ?_
            refine ok_block ?_
            refine ok_seq ?_
            refine ok_region ?_
            refine s_val (.slice A xs.length cap) (by kernel_rfl) (fun _ => by kernel_rfl) ?_
            refine s_val (.int .i64 (i : Int)) (by kernel_rfl) (fun _ => by kernel_rfl) ?_
            refine s_val (.pointer (some ⟨bp, off + i * 2, none⟩)) (by kernel_rfl) (run_ixA (b := bp) (off := off) (c := cap) (n := xs.length) (k := .i64) (j := (i : Int)) (e := 57) (sz := 2) rfl (by kernel_rfl) hA (by kernel_rfl) (by kernel_rfl) (by kernel_rfl) (by omega) (by omega) (by omega)) ?_
            refine s_val (.pointer (some ⟨bp, off + i * 2 + 1, none⟩)) (by kernel_rfl) (fun _ => by kernel_rfl) ?_
            refine s_old (.slice x.A x.of.length x.cap) (a := ⟨bp, off + i * 2 + 1, none⟩) (by kernel_rfl) rfl (by kernel_rfl) (fun w hO => Reads.load fvC_len (hv.on hO.below hO.size) hA i 1 hil (by omega) _ (by rw [hx]; kernel_rfl)) ?_
            refine s_val (.int .i64 (k : Int)) (by kernel_rfl) (fun _ => by kernel_rfl) ?_
            refine s_val (.pointer (some ⟨bq, ofq + k * 1, none⟩)) (by kernel_rfl) (run_ixA (b := bq) (off := ofq) (c := x.cap) (n := x.of.length) (k := .i64) (j := (k : Int)) (e := 9) (sz := 1) rfl (by kernel_rfl) hB (by kernel_rfl) (by kernel_rfl) (by kernel_rfl) (by omega) (by omega) (by omega)) ?_
            refine s_old (.string (mkS s)) (a := ⟨bq, ofq + k * 1, none⟩) (by kernel_rfl) rfl (by kernel_rfl) (fun w hO => Reads.load strC_len ((he x hxm).on hO.below hO.size) hB k 0 hkl (by omega) _ (by rw [hs]; kernel_rfl)) ?_
            refine s_val (.int .i64 ((mkS s).size)) (by kernel_rfl) (fun _ => by kernel_rfl) ?_
            by_cases h6 : (60 : Int) < (mkS s).size
            · skip
              refine s_dec (p := (60 : Int) < (mkS s).size) true (by kernel_rfl) (fun _ => by kernel_rfl) (decide_eq_true (h6)) ?_
              refine s_nil ?_
              refine fin_seq ?_
              refine ok_true (by kernel_rfl) ?_
              refine ok_seq ?_
              refine ok_region ?_
              refine s_val (.bool false) (by kernel_rfl) (fun _ => by kernel_rfl) ?_
              refine s_nil ?_
              refine fin_seq ?_
              refine ok_ret ?_
              refine fin_block_ret ?_
              refine fin_seq_ret ?_
              refine fin_round_ret ?_
              refine fin_block_ret ?_
              refine fin_block_ret ?_
              refine fin_seq_ret ?_
              refine fin_round_ret ?_
              refine fin_block_ret ?_
              refine fin_seq_ret ?_
              refine fin_ret (.bool false) Try.results12 (by kernel_rfl) ?_
              exact fun w hO => ⟨false, rfl, fun q => (by cases q), hO.below⟩
            · skip
              refine s_dec (p := (60 : Int) < (mkS s).size) false (by kernel_rfl) (fun _ => by kernel_rfl) (decide_eq_false (h6)) ?_
              refine s_nil ?_
              refine fin_seq ?_
              refine ok_false (by kernel_rfl) ?_
              refine ok_skip ?_
              refine fin_block ?_
              refine fin_seq ?_
              refine ok_region ?_
              refine s_val (.int .i64 (k : Int)) (by kernel_rfl) (fun _ => by kernel_rfl) ?_
              refine s_sum (k := .i64) (((k + 1 : Nat) : Int)) (by kernel_rfl) (fun _ => by kernel_rfl) (IntWalk.i64_in _ (by omega)) ?_
              refine s_val (.int .i64 ((k + 1 : Nat) : Int)) (by kernel_rfl) (fun _ => by kernel_rfl) ?_
              refine s_nil ?_
              exact fin_round (m' := x.of.length - (k + 1)) (by omega) ⟨k + 1, _, ⟨by omega, mem_step hkl hk5 (by rw [hs]; omega)⟩, rfl, upds_self _ ⟨by kernel_rfl, by kernel_rfl, by kernel_rfl, trivial⟩, rfl⟩
          · skip
            refine s_dec (p := (k : Int) < (x.of.length : Int)) false (by kernel_rfl) (fun _ => by kernel_rfl) (decide_eq_false (h5)) ?_
            refine s_nil ?_
            refine fin_seq ?_
            refine ok_false (by kernel_rfl) ?_
            refine ok_exit ?_
            refine fin_seq_exit ?_
            refine fin_round_exit ?_
            refine fin_block_exit ?_
            refine fin_block ?_
            refine fin_seq ?_
            refine ok_region ?_
            refine s_val (.int .i64 (i : Int)) (by kernel_rfl) (fun _ => by kernel_rfl) ?_
            refine s_sum (k := .i64) (((i + 1 : Nat) : Int)) (by kernel_rfl) (fun _ => by kernel_rfl) (IntWalk.i64_in _ (by omega)) ?_
            refine s_val (.int .i64 ((i + 1 : Nat) : Int)) (by kernel_rfl) (fun _ => by kernel_rfl) ?_
            refine s_nil ?_
            exact fin_round (m' := xs.length - (i + 1)) (by omega) ⟨i + 1, _, ⟨by omega, by omega, mem_step hil hrel.2.2 (by rw [hx]; exact ⟨by omega, by omega, mem_end (i := k) (by omega) hk5⟩)⟩, rfl, upds_self _ ⟨by kernel_rfl, by kernel_rfl, trivial⟩, rfl⟩
  · skip
    refine s_dec (p := (i : Int) < (xs.length : Int)) false (by kernel_rfl) (fun _ => by kernel_rfl) (decide_eq_false (h1)) ?_
    refine s_nil ?_
    refine fin_seq ?_
    refine ok_false (by kernel_rfl) ?_
    refine ok_exit ?_
    refine fin_seq_exit ?_
    refine fin_round_exit ?_
    refine fin_block_exit ?_
    refine fin_seq ?_
    refine ok_seq ?_
    refine ok_region ?_
    refine s_val (.bool true) (by kernel_rfl) (fun _ => by kernel_rfl) ?_
    refine s_nil ?_
    refine fin_seq ?_
    refine ok_ret ?_
    refine fin_ret (.bool true) Try.results12 (by kernel_rfl) ?_
    exact fun w hO => ⟨true, rfl, fun _ => FewF.of (by omega) (mem_end (i := i) (by omega) hrel.2.2), hO.below⟩
theorem featureItems.law (s : List UInt8) (W : World) (hK : FeLib W) : Calls Try.prog 3 #[.string (mkS s)] W fun e w' => e = .returned (.bool true) ∧ Below W.heap.size W w' := by
  have hsz := mkS_sz s
  refine calls_ok (n := 41) Try.func3 rfl (by kernel_rfl) (by kernel_rfl) ?_
  refine ok_seq ?_
  refine ok_region ?_
  refine s_val (.bool false) (by kernel_rfl) (fun _ => by kernel_rfl) ?_
  refine s_nil ?_
  refine fin_seq ?_
  refine ok_seq ?_
  refine ok_seq ?_
  refine ok_region ?_
  refine s_val (.string (mkS s)) (by kernel_rfl) (fun _ => by kernel_rfl) ?_
  refine s_val (.int .i64 ((mkS s).size)) (by kernel_rfl) (fun _ => by kernel_rfl) ?_
  by_cases h1 : (200 : Int) < (mkS s).size
  · skip
    refine s_dec (p := (200 : Int) < (mkS s).size) true (by kernel_rfl) (fun _ => by kernel_rfl) (decide_eq_true (h1)) ?_
    refine s_nil ?_
    refine fin_seq ?_
    refine ok_true (by kernel_rfl) ?_
    refine ok_seq ?_
    refine ok_region ?_
    refine s_call (k := 9) (args := #[]) (.bool true) (by kernel_rfl) (fun _ => by kernel_rfl) (fun w hO => awake11_any w (hK.on hO.below)) ?_
    refine s_val (.bool true) (by kernel_rfl) (fun _ => by kernel_rfl) ?_
    refine s_nil ?_
    refine fin_seq ?_
    refine ok_ret ?_
    refine fin_seq_ret ?_
    refine fin_ret (.bool true) Try.results3 (by kernel_rfl) ?_
    exact fun w hO => ⟨rfl, hO.below⟩
  · skip
    refine s_dec (p := (200 : Int) < (mkS s).size) false (by kernel_rfl) (fun _ => by kernel_rfl) (decide_eq_false (h1)) ?_
    refine s_nil ?_
    refine fin_seq ?_
    refine ok_false (by kernel_rfl) ?_
    refine ok_skip ?_
    refine fin_seq ?_
    refine ok_seq ?_
    refine ok_region ?_
    refine s_val (.string (mkS s)) (by kernel_rfl) (fun _ => by kernel_rfl) ?_
    refine s_call (k := 10) (args := #[.string (mkS s)]) (.tuple #[.int .i64 ((kindT s).1), .string (mkS (kindT s).2.1), .string (mkS (kindT s).2.2)]) (by kernel_rfl) (fun _ => by kernel_rfl) (fun w hO => fItem_any s w (by omega) (hK.on hO.below)) ?_
    refine s_val (.tuple #[.int .i64 ((kindT s).1), .string (mkS (kindT s).2.1), .string (mkS (kindT s).2.2)]) (by kernel_rfl) (fun _ => by kernel_rfl) ?_
    refine s_val (.int .i64 ((kindT s).1)) (by kernel_rfl) (fun _ => by kernel_rfl) ?_
    refine s_val (.string (mkS (kindT s).2.1)) (by kernel_rfl) (fun _ => by kernel_rfl) ?_
    refine s_val (.string (mkS (kindT s).2.2)) (by kernel_rfl) (fun _ => by kernel_rfl) ?_
    refine s_val (.int .i64 ((kindT s).1)) (by kernel_rfl) (fun _ => by kernel_rfl) ?_
    refine s_val (.string (mkS (kindT s).2.1)) (by kernel_rfl) (fun _ => by kernel_rfl) ?_
    refine s_val (.string (mkS (kindT s).2.2)) (by kernel_rfl) (fun _ => by kernel_rfl) ?_
    refine s_nil ?_
    refine fin_seq ?_
    refine ok_seq ?_
    refine ok_region ?_
    refine s_val (.string (mkS s)) (by kernel_rfl) (fun _ => by kernel_rfl) ?_
    refine s_call (k := 11) (args := #[.string (mkS s)]) (.tuple #[.int .i64 ((kindT s).1), .string (mkS (kindT s).2.1), .string (mkS (kindT s).2.2)]) (by kernel_rfl) (fun _ => by kernel_rfl) (fun w hO => r11Item_any s w (by omega)) ?_
    refine s_val (.tuple #[.int .i64 ((kindT s).1), .string (mkS (kindT s).2.1), .string (mkS (kindT s).2.2)]) (by kernel_rfl) (fun _ => by kernel_rfl) ?_
    refine s_val (.int .i64 ((kindT s).1)) (by kernel_rfl) (fun _ => by kernel_rfl) ?_
    refine s_val (.string (mkS (kindT s).2.1)) (by kernel_rfl) (fun _ => by kernel_rfl) ?_
    refine s_val (.string (mkS (kindT s).2.2)) (by kernel_rfl) (fun _ => by kernel_rfl) ?_
    refine s_val (.int .i64 ((kindT s).1)) (by kernel_rfl) (fun _ => by kernel_rfl) ?_
    refine s_val (.string (mkS (kindT s).2.1)) (by kernel_rfl) (fun _ => by kernel_rfl) ?_
    refine s_val (.string (mkS (kindT s).2.2)) (by kernel_rfl) (fun _ => by kernel_rfl) ?_
    refine s_nil ?_
    refine fin_seq ?_
    refine ok_seq ?_
    refine ok_region ?_
    refine s_call (k := 9) (args := #[]) (.bool true) (by kernel_rfl) (fun _ => by kernel_rfl) (fun w hO => awake11_any w (hK.on hO.below)) ?_
    refine s_val (.bool true) (by kernel_rfl) (fun _ => by kernel_rfl) ?_
    refine s_val (.int .i64 ((kindT s).1)) (by kernel_rfl) (fun _ => by kernel_rfl) ?_
    refine s_val (.int .i64 ((kindT s).1)) (by kernel_rfl) (fun _ => by kernel_rfl) ?_
    refine s_dec (p := ((kindT s).1 : Int) = (kindT s).1) true (by kernel_rfl) (fun _ => by kernel_rfl) (decide_eq_true (rfl)) ?_
    refine s_val (.bool true) (by kernel_rfl) (fun _ => by kernel_rfl) ?_
    refine s_val (.bool true) (by kernel_rfl) (fun _ => by kernel_rfl) ?_
    refine s_val (.string (mkS (kindT s).2.1)) (by kernel_rfl) (fun _ => by kernel_rfl) ?_
    refine s_val (.string (mkS (kindT s).2.1)) (by kernel_rfl) (fun _ => by kernel_rfl) ?_
    refine s_val (.bool true) (by kernel_rfl) (run_streql (a := ((kindT s).2.1)) (b := ((kindT s).2.1)) rfl (by kernel_rfl) (by kernel_rfl) (decide_eq_true (rfl))) ?_
    refine s_val (.bool true) (by kernel_rfl) (fun _ => by kernel_rfl) ?_
    refine s_val (.bool true) (by kernel_rfl) (fun _ => by kernel_rfl) ?_
    refine s_val (.string (mkS (kindT s).2.2)) (by kernel_rfl) (fun _ => by kernel_rfl) ?_
    refine s_val (.string (mkS (kindT s).2.2)) (by kernel_rfl) (fun _ => by kernel_rfl) ?_
    refine s_val (.bool true) (by kernel_rfl) (run_streql (a := ((kindT s).2.2)) (b := ((kindT s).2.2)) rfl (by kernel_rfl) (by kernel_rfl) (decide_eq_true (rfl))) ?_
    refine s_val (.bool true) (by kernel_rfl) (fun _ => by kernel_rfl) ?_
    refine s_val (.bool true) (by kernel_rfl) (fun _ => by kernel_rfl) ?_
    refine s_nil ?_
    refine fin_seq ?_
    refine ok_ret ?_
    refine fin_ret (.bool true) Try.results3 (by kernel_rfl) ?_
    exact fun w hO => ⟨rfl, hO.below⟩
theorem featureRaw.law (A : Option Addr) (cap : Nat) (xs : List Fv) (n : List UInt8) (W : World) (hv : Reads fvC W W.heap.size A xs) (he : ∀ x ∈ xs, Reads strC W W.heap.size x.A x.of) (hK : FeLib W) : Calls Try.prog 4 #[.slice A xs.length cap, .string (mkS n)] W fun e w' => e = .returned (.bool true) ∧ Below W.heap.size W w' := by
  refine calls_ok (n := 31) Try.func4 rfl (by kernel_rfl) (by kernel_rfl) ?_
  refine ok_seq ?_
  refine ok_region ?_
  refine s_val (.bool false) (by kernel_rfl) (fun _ => by kernel_rfl) ?_
  refine s_nil ?_
  refine fin_seq ?_
  refine ok_seq ?_
  refine ok_seq ?_
  refine ok_region ?_
  refine s_val (.slice A xs.length cap) (by kernel_rfl) (fun _ => by kernel_rfl) ?_
  refine s_callo (k := 12) (args := #[.slice A xs.length cap]) (fun v' L' => ∃ b, v' = .bool b ∧ L' = ([] : List Blk) ∧ (b = true → FewF xs)) (by kernel_rfl) (fun _ => by kernel_rfl) (fun w hO => (few11_any A cap xs w (hv.on hO.below hO.size) (fun x hx => (he x hx).on hO.below hO.size)).mono fun e w' ⟨b, k1, k2, k3⟩ => ⟨_, _, k1, ⟨b, rfl, rfl, k2⟩, hO.on k3⟩) (fun vt Lt hvt => ?_)
  obtain ⟨fb, rfl, hLe, hfb⟩ := hvt
  refine s_cast hLe ?_
  cases h1 : fb with
  | true =>
    have hin := (hfb h1).inn hv he
    refine s_val (.bool false) (by kernel_rfl) (fun _ => by kernel_rfl) ?_
    refine s_val (.bool false) (by kernel_rfl) (fun _ => by kernel_rfl) ?_
    refine s_val (.string (mkS n)) (by kernel_rfl) (fun _ => by kernel_rfl) ?_
    refine s_val (.int .i64 ((mkS n).size)) (by kernel_rfl) (fun _ => by kernel_rfl) ?_
    by_cases h2 : (60 : Int) < (mkS n).size
    · skip
      refine s_dec (p := (60 : Int) < (mkS n).size) true (by kernel_rfl) (fun _ => by kernel_rfl) (decide_eq_true (h2)) ?_
      refine s_val (.bool true) (by kernel_rfl) (fun _ => by kernel_rfl) ?_
      refine s_nil ?_
      refine fin_seq ?_
      refine ok_true (by kernel_rfl) ?_
      refine ok_seq ?_
      refine ok_region ?_
      refine s_call (k := 9) (args := #[]) (.bool true) (by kernel_rfl) (fun _ => by kernel_rfl) (fun w hO => awake11_any w (hK.on hO.below)) ?_
      refine s_val (.bool true) (by kernel_rfl) (fun _ => by kernel_rfl) ?_
      refine s_nil ?_
      refine fin_seq ?_
      refine ok_ret ?_
      refine fin_seq_ret ?_
      refine fin_ret (.bool true) Try.results4 (by kernel_rfl) ?_
      exact fun w hO => ⟨rfl, hO.below⟩
    · skip
      refine s_dec (p := (60 : Int) < (mkS n).size) false (by kernel_rfl) (fun _ => by kernel_rfl) (decide_eq_false (h2)) ?_
      refine s_val (.bool false) (by kernel_rfl) (fun _ => by kernel_rfl) ?_
      refine s_nil ?_
      refine fin_seq ?_
      refine ok_false (by kernel_rfl) ?_
      refine ok_skip ?_
      refine fin_seq ?_
      refine ok_seq ?_
      refine ok_region ?_
      refine s_call (k := 9) (args := #[]) (.bool true) (by kernel_rfl) (fun _ => by kernel_rfl) (fun w hO => awake11_any w (hK.on hO.below)) ?_
      refine s_val (.bool true) (by kernel_rfl) (fun _ => by kernel_rfl) ?_
      refine s_val (.slice A xs.length cap) (by kernel_rfl) (fun _ => by kernel_rfl) ?_
      refine s_call (k := 13) (args := #[.slice A xs.length cap]) (.bool (mayF (ftOf xs))) (by kernel_rfl) (fun _ => by kernel_rfl) (fun w hO => fMay_any A cap xs w (hin.on hO.below hO.size) (hK.on hO.below)) ?_
      refine s_val (.slice A xs.length cap) (by kernel_rfl) (fun _ => by kernel_rfl) ?_
      refine s_call (k := 14) (args := #[.slice A xs.length cap]) (.bool (mayF (ftOf xs))) (by kernel_rfl) (fun _ => by kernel_rfl) (fun w hO => r11May_any A cap xs w (hin.on hO.below hO.size)) ?_
      cases h3 : mayF (ftOf xs) with
      | true =>
        refine s_val (.bool true) (by kernel_rfl) (fun _ => by kernel_rfl) ?_
        refine s_val (.bool true) (by kernel_rfl) (fun _ => by kernel_rfl) ?_
        refine s_val (.bool true) (by kernel_rfl) (fun _ => by kernel_rfl) ?_
        refine s_val (.slice A xs.length cap) (by kernel_rfl) (fun _ => by kernel_rfl) ?_
        refine s_val (.string (mkS n)) (by kernel_rfl) (fun _ => by kernel_rfl) ?_
        refine s_call (k := 15) (args := #[.slice A xs.length cap, .string (mkS n)]) (.int .i64 (findI (ftOf xs) n)) (by kernel_rfl) (fun _ => by kernel_rfl) (fun w hO => fFind_any A cap xs n w (hin.on hO.below hO.size) (hK.on hO.below)) ?_
        refine s_val (.slice A xs.length cap) (by kernel_rfl) (fun _ => by kernel_rfl) ?_
        refine s_val (.string (mkS n)) (by kernel_rfl) (fun _ => by kernel_rfl) ?_
        refine s_call (k := 16) (args := #[.slice A xs.length cap, .string (mkS n)]) (.int .i64 (findI (ftOf xs) n)) (by kernel_rfl) (fun _ => by kernel_rfl) (fun w hO => r11Find_any A cap xs n w (hin.on hO.below hO.size)) ?_
        refine s_dec (p := (findI (ftOf xs) n : Int) = findI (ftOf xs) n) true (by kernel_rfl) (fun _ => by kernel_rfl) (decide_eq_true (rfl)) ?_
        refine s_val (.bool true) (by kernel_rfl) (fun _ => by kernel_rfl) ?_
        refine s_val (.bool true) (by kernel_rfl) (fun _ => by kernel_rfl) ?_
        refine s_nil ?_
        refine fin_seq ?_
        refine ok_ret ?_
        refine fin_ret (.bool true) Try.results4 (by kernel_rfl) ?_
        exact fun w hO => ⟨rfl, hO.below⟩
      | false =>
        refine s_val (.bool true) (by kernel_rfl) (fun _ => by kernel_rfl) ?_
        refine s_val (.bool true) (by kernel_rfl) (fun _ => by kernel_rfl) ?_
        refine s_val (.bool true) (by kernel_rfl) (fun _ => by kernel_rfl) ?_
        refine s_val (.slice A xs.length cap) (by kernel_rfl) (fun _ => by kernel_rfl) ?_
        refine s_val (.string (mkS n)) (by kernel_rfl) (fun _ => by kernel_rfl) ?_
        refine s_call (k := 15) (args := #[.slice A xs.length cap, .string (mkS n)]) (.int .i64 (findI (ftOf xs) n)) (by kernel_rfl) (fun _ => by kernel_rfl) (fun w hO => fFind_any A cap xs n w (hin.on hO.below hO.size) (hK.on hO.below)) ?_
        refine s_val (.slice A xs.length cap) (by kernel_rfl) (fun _ => by kernel_rfl) ?_
        refine s_val (.string (mkS n)) (by kernel_rfl) (fun _ => by kernel_rfl) ?_
        refine s_call (k := 16) (args := #[.slice A xs.length cap, .string (mkS n)]) (.int .i64 (findI (ftOf xs) n)) (by kernel_rfl) (fun _ => by kernel_rfl) (fun w hO => r11Find_any A cap xs n w (hin.on hO.below hO.size)) ?_
        refine s_dec (p := (findI (ftOf xs) n : Int) = findI (ftOf xs) n) true (by kernel_rfl) (fun _ => by kernel_rfl) (decide_eq_true (rfl)) ?_
        refine s_val (.bool true) (by kernel_rfl) (fun _ => by kernel_rfl) ?_
        refine s_val (.bool true) (by kernel_rfl) (fun _ => by kernel_rfl) ?_
        refine s_nil ?_
        refine fin_seq ?_
        refine ok_ret ?_
        refine fin_ret (.bool true) Try.results4 (by kernel_rfl) ?_
        exact fun w hO => ⟨rfl, hO.below⟩
  | false =>
    refine s_val (.bool true) (by kernel_rfl) (fun _ => by kernel_rfl) ?_
    refine s_val (.bool true) (by kernel_rfl) (fun _ => by kernel_rfl) ?_
    refine s_skip (by kernel_rfl) ?_
    refine s_skip (by kernel_rfl) ?_
    refine s_skip (by kernel_rfl) ?_
    refine s_val (.bool true) (by kernel_rfl) (fun _ => by kernel_rfl) ?_
    refine s_nil ?_
    refine fin_seq ?_
    refine ok_true (by kernel_rfl) ?_
    refine ok_seq ?_
    refine ok_region ?_
    refine s_call (k := 9) (args := #[]) (.bool true) (by kernel_rfl) (fun _ => by kernel_rfl) (fun w hO => awake11_any w (hK.on hO.below)) ?_
    refine s_val (.bool true) (by kernel_rfl) (fun _ => by kernel_rfl) ?_
    refine s_nil ?_
    refine fin_seq ?_
    refine ok_ret ?_
    refine fin_seq_ret ?_
    refine fin_ret (.bool true) Try.results4 (by kernel_rfl) ?_
    exact fun w hO => ⟨rfl, hO.below⟩
end Go.Proofs.Ytglbfknmeojfkaa
end

section
/-
  What every statement's proof leans on at its end, without strings' slices and tables: from 'the call returns true and below the heap's old end nothing has changed' to the row's own words. Conditions: none of its own.
-/
namespace Go.Proofs.Ytglbfknmeojfkaa
open Go.ChangeShapes Go.WideShapes Go.ChangeAt Go.RowKit

theorem own : ownKnob Try.prog.godebug = none := by kernel_rfl

theorem trodAll_stays {H : Type} {enc : TypeId × Value → H} {P : Program} (hl : laidOutB P = true) {W W' : World} (hb : Below W.heap.size W W') :
    ∀ (ts : List TypeId), (∀ t ∈ ts, P.readableRec t = true ∧ t < P.types.size) → ∀ (vs : List Value) (ds : List (DataW H)) (ps : List MemPlace), DataW.TrodAll enc P W 0 (fun _ => true) true ts vs ds ps → (∀ p ∈ ps, p.block < W.heap.size) →
      DataW.TrodAll enc P W' 0 (fun b => decide (b < W.heap.size)) true ts vs ds ps
  | [], _, vs, ds, ps, h, _ => by
    obtain ⟨rfl, rfl, rfl⟩ := trodAll_nil h
    exact trodAll_mk0
  | t :: ts, hr, vs, ds, ps, h, hlt => by
    obtain ⟨v, vs', d, ds', p, q, rfl, rfl, rfl, hd, hrest⟩ := trodAll_cons h
    exact ⟨p, q, Go.RowKit.Below.trod hl (hr t (by simp)).1 (hr t (by simp)).2 hd hb.old (fun x hx => hlt x (by simp [hx])), trodAll_stays hl hb ts (fun t' ht' => hr t' (by simp [ht'])) vs' ds' q hrest (fun x hx => hlt x (by simp [hx])), rfl⟩

/-- The end of a statement's row: the call has returned true, and below the heap's old end nothing has changed. -/
theorem law_end {H : Type} {enc : TypeId × Value → H} {P : Program} {f : Func} {s : ChangeSpec} {W W' : World} {args : Array Value} {ds gs : List (DataW H)} {before : List MemPlace} {T : TypeId}
    (hl : laidOutB P = true) (hr : ∀ t ∈ f.params.toList, P.readableRec t = true ∧ t < P.types.size) (hv : s.vars = []) (hT : f.resultTypes = #[T]) (hB : P.underlying T = some .bool)
    (hW : DataW.Whole enc P f.params.toList s.vars false W args.toList ds gs before) (hf : s.fn H (ds ++ gs) = { results := [.lit (.bool true)], args := ds }) (hb : Below W.heap.size W W') :
    s.post enc P f false true false false W args (.bool true) W' := by
  have hlt : ∀ p ∈ before, p.block < W.heap.size := fun p hp => hW.lt p hp
  have hW' := hW
  obtain ⟨p, q, hA, hV, rfl, _, _⟩ := hW
  rw [hv] at hV
  obtain ⟨rfl, rfl⟩ := trodVars_none hV
  have h2 := trodAll_stays hl hb _ hr _ _ _ hA (fun x hx => hlt x (by simp [hx]))
  refine ⟨ds, [], p ++ [], [], p, [], hW', ?_, ?_, ?_, World.keptBut_mono (fun x hx => ⟨hx, Or.inr (Or.inl (by simpa using hx))⟩) (hb.frame (· ∈ p ++ [])), fun h => by cases h⟩
  · rw [hf, hT]
    exact trodAll_cons_mk (shut_bool hB true) trodAll_mk0
  · rw [hf]; exact h2
  · rw [hf, hv]; rfl
theorem laidOut : laidOutB Try.prog = true := by kernel_rfl

theorem cell_lt {W : World} {a : Addr} {v : Value} (h : W.cell? a = some v) : a.block < W.heap.size := by
  rcases Nat.lt_or_ge a.block W.heap.size with h1 | h1
  · exact h1
  · unfold World.cell? at h
    rw [Array.getElem?_eq_none h1] at h
    simp at h
theorem strCells1 : Try.prog.cellsOf 9 = 1 := by kernel_rfl
/-- The cells that a table of integers lays. -/
def litCells : DataW Unit → List Value
  | .lit (.int k n) => [Value.int k n]
  | .lit (.string s) => [Value.string ⟨s.toArray⟩]
  | .agg l => l.flatMap fun d => match d with | .lit (.int k n) => [Value.int k n] | _ => []
  | _ => []
def tabCells : DataW Unit → Array Value
  | .agg l => (l.flatMap litCells).toArray
  | _ => #[]
def layAt (h : Array Obj) (g : Nat) (d : DataW Unit) : Array Obj := h.modify g fun
  | .cells _ t frozen => .cells (tabCells d) t frozen
  | o => o
end Go.Proofs.Ytglbfknmeojfkaa
end

section
/-
  Parameters that are a marker or a platform: a marker's nodes read as a list, out of the row's own conditions.
-/
namespace Go.Proofs.Ytglbfknmeojfkaa
open Go.ChangeShapes Go.WideShapes Go.ChangeAt Go.RowKit Go.Deep
set_option maxRecDepth 100000
set_option linter.unusedVariables false
set_option linter.unusedSimpArgs false

theorem mk_self10 (p : ByteArray) : mkS p.data.toList = p := by unfold mkS; simp
theorem list_of10 {α : Type} {p : Nat → α → Prop} : ∀ (n : Nat), (∀ i, i < n → ∃ x, p i x) → ∃ l : List α, l.length = n ∧ ∀ i (h : i < l.length), p i l[i]
  | 0, _ => ⟨[], rfl, fun i h => absurd h (Nat.not_lt_zero _)⟩
  | n + 1, h => by
    obtain ⟨l, hl, hp⟩ := list_of10 n fun i hi => h i (Nat.lt_succ_of_lt hi)
    obtain ⟨x, hx⟩ := h n (Nat.lt_succ_self n)
    refine ⟨l ++ [x], by simp [hl], fun i hi => ?_⟩
    by_cases h1 : i < l.length
    · rw [List.getElem_append_left h1]; exact hp i h1
    · have : i = n := by simp at hi; omega
      subst this
      rw [List.getElem_append_right (by omega)]
      simpa [hl] using hx
theorem cell_spot10 {w : World} {a : Addr} {v : Value} (h : w.cell? a = some v) : a.spot = none := by
  unfold World.cell? at h
  split at h
  · split at h
    · cases h
    · rename_i hs; simpa using hs
  · cases h
theorem addr_at10 {a : Addr} (h : a.spot = none) (k : Nat) : a.add k = ⟨a.block, a.off + k, none⟩ := by
  obtain ⟨b, o, s⟩ := a
  obtain rfl : s = none := h
  exact add_off b o k
/-- Cells read one element after the other are a list that reads. -/
theorem reads_cells10 {α : Type} {g : α → List Value} {sz : Nat} (h0 : 0 < sz) (hg : ∀ x, (g x).length = sz) {p : α → Prop} {W : World} {a : Addr} {len : Nat} (hel : ∀ i, i < len → ∃ x, p x ∧ W.cells? 0 (a.add (i * sz)) sz = some (g x)) :
    ∃ l : List α, l.length = len ∧ Reads g W W.heap.size (some a) l ∧ ∀ x ∈ l, p x := by
  obtain ⟨l, hll, hp⟩ := list_of10 (p := fun i (x : α) => p x ∧ W.cells? 0 (a.add (i * sz)) sz = some (g x)) len hel
  refine ⟨l, hll, fun hl0 => ?_, fun x hx => ?_⟩
  · have c0 := (hp 0 hl0).2
    have hc : ∀ i (hi : i < l.length) j u, (g l[i])[j]? = some u → W.cell? ((a.add (i * sz)).add j) = some u := fun i hi j u hj => by
      obtain ⟨_, hn, hx⟩ := World.cells?_some (hp i hi).2
      have hjs : j < sz := by have := (List.getElem?_eq_some_iff.1 hj).1; rwa [hg] at this
      first | rw [hx j hjs, hj] | (have := hx j hjs; rw [this]; exact hj)
    have s0 : (g l[0])[0]? = some ((g l[0])[0]'(by rw [hg]; exact h0)) := List.getElem?_eq_getElem _
    have sp : a.spot = none := by
      have := cell_spot10 (hc 0 hl0 0 _ s0)
      simpa [Addr.add] using this
    refine ⟨a.block, a.off, ?_, ?_, fun k u hk => ?_⟩
    · obtain ⟨b, o, s⟩ := a
      obtain rfl : s = none := sp
      rfl
    · have := World.cells?_block c0 h0
      rwa [addr_at10 sp] at this
    · have hkl : k < l.length * sz := by have := (List.getElem?_eq_some_iff.1 hk).1; rwa [flat_len hg] at this
      have hi : k / sz < l.length := Nat.div_lt_of_lt_mul (by rwa [Nat.mul_comm] at hkl)
      have e : k / sz * sz + k % sz = k := Nat.div_add_mod' k sz
      have hms : k % sz < sz := Nat.mod_lt _ h0
      have h2 := flat_at hg l (k / sz) hi
      have h3 : (g l[k / sz])[k % sz]? = some u := by
        rw [← h2, List.getElem?_take, if_pos hms, List.getElem?_drop, e]; exact hk
      have := hc (k / sz) hi (k % sz) u h3
      rw [addr_at10 sp, add_off, Nat.add_assoc, e] at this
      exact this
  · obtain ⟨i, hi, rfl⟩ := List.mem_iff_getElem.1 hx
    exact (hp i hi).1
theorem back10 {v : Value} {cs : Array Value} {l : List Value} (h : v = .agg cs) (e : v.cells.toList = l) : v = .agg l.toArray := by
  subst h
  have : cs.toList = l := e
  rw [← this]
section
variable {H : Type} {enc : TypeId × Value → H} {W : World}
theorem cells_int10 {fuel : Nat} {cs : List Value} {x : DataW H × List MemPlace} (h : DataW.trod enc Try.prog W 0 (fun _ => true) true fuel 3 cs = some x) : ∃ a, cs = [.int .i64 a] := by
  obtain ⟨a, e, _, hw⟩ := DataW.trod_int Try.underlying3 h
  exact ⟨a, e⟩
theorem cells_str10 {fuel : Nat} {cs : List Value} {x : DataW H × List MemPlace} (h : DataW.trod enc Try.prog W 0 (fun _ => true) true fuel 9 cs = some x) : ∃ p : List UInt8, cs = [.string (mkS p)] := by
  obtain ⟨p, e, _, hw⟩ := DataW.trod_string Try.underlying9 h
  exact ⟨p.data.toList, by rw [mk_self10]; exact e⟩
theorem size_int10 : Try.prog.cellsOf 3 = 1 := by kernel_rfl
theorem size_str10 : Try.prog.cellsOf 9 = 1 := by kernel_rfl
theorem size_arr10 : Try.prog.cellsOf 93 = 3 := by kernel_rfl
theorem cells_arr {fuel : Nat} {cs : List Value} {x : DataW H × List MemPlace} (h : DataW.trod enc Try.prog W 0 (fun _ => true) true fuel 93 cs = some x) : ∃ p q r : List UInt8, cs = [.string (mkS p), .string (mkS q), .string (mkS r)] := by
  obtain ⟨xs, n, _, _, hl, hxl, hg⟩ := DataW.trod_array Try.underlying93 h
  rw [size_arr10] at hl
  match cs, hl with
  | [c0, c1, c2], _ =>
    have g : ∀ i, i < 3 → ∃ y, xs[i]? = some y := fun i hi => ⟨_, List.getElem?_eq_getElem (by rw [hxl]; exact hi)⟩
    obtain ⟨y0, e0⟩ := g 0 (by omega)
    obtain ⟨y1, e1⟩ := g 1 (by omega)
    obtain ⟨y2, e2⟩ := g 2 (by omega)
    obtain ⟨p, hp⟩ := cells_str10 ((hg 0 (by omega)).trans e0)
    obtain ⟨q, hq⟩ := cells_str10 ((hg 1 (by omega)).trans e1)
    obtain ⟨r, hr⟩ := cells_str10 ((hg 2 (by omega)).trans e2)
    rw [size_str10] at hp hq hr
    obtain rfl : c0 = _ := List.singleton_inj.1 hp
    obtain rfl : c1 = _ := List.singleton_inj.1 hq
    obtain rfl : c2 = _ := List.singleton_inj.1 hr
    exact ⟨p, q, r, rfl⟩
end

end Go.Proofs.Ytglbfknmeojfkaa
end

section
/-
  Parameters that are a list of features or a list of strings: they read as lists, out of the row's own conditions.
-/
namespace Go.Proofs.Ytglbfknmeojfkaa
open Go.ChangeShapes Go.WideShapes Go.ChangeAt Go.RowKit Go.Deep
set_option maxRecDepth 100000
set_option linter.unusedVariables false
set_option linter.unusedSimpArgs false

section
variable {H : Type} {enc : TypeId × Value → H} {W : World}
theorem size_txs11 : Try.prog.cellsOf 30 = 1 := by kernel_rfl
theorem size_str11 : Try.prog.cellsOf 9 = 1 := by kernel_rfl
theorem size_fv11 : Try.prog.cellsOf 57 = 2 := by kernel_rfl
theorem cells_txs {fuel : Nat} {cs : List Value} {x : DataW H × List MemPlace} (h : DataW.trod enc Try.prog W 0 (fun _ => true) true fuel 30 cs = some x) : ∃ (A : Option Addr) (cap : Nat) (l : List (List UInt8)), cs = [.slice A l.length cap] ∧ Reads strC W W.heap.size A l ∧ l.length ≤ cap ∧ cap ≤ maxLen := by
  rcases DataW.trod_slice Try.underlying30 h with ⟨hcs, _⟩ | ⟨a, len, cap, elems, rest, n, _, hcs, _, hb, hl, hm, hlen, hel, _, _⟩
  · exact ⟨none, 0, [], hcs, fun h => by simp at h, Nat.le_refl _, Nat.zero_le _⟩
  · subst hcs
    rw [size_str11] at hel
    obtain ⟨l, hll, hr, _⟩ := reads_cells10 (g := strC) (sz := 1) (p := fun _ => True) (by decide) strC_len (W := W) (a := a) (len := len) fun i hi => by
      have h1 := hel i hi
      rw [List.getElem?_eq_getElem (by omega)] at h1
      obtain ⟨cs, e1, e2⟩ := Option.bind_eq_some_iff.1 h1
      obtain ⟨c, e3⟩ := cells_str10 e2
      exact ⟨c, trivial, by rw [e1, e3]; rfl⟩
    exact ⟨some a, cap, l, by rw [hll], hr, by omega, hm⟩
theorem cells_fv {fuel : Nat} {cs : List Value} {x : DataW H × List MemPlace} (h : DataW.trod enc Try.prog W 0 (fun _ => true) true fuel 57 cs = some x) : ∃ y : Fv, cs = fvC y ∧ Reads strC W W.heap.size y.A y.of := by
  obtain ⟨xs, n, _, _, hl, hxl, hg⟩ := DataW.trod_struct Try.underlying57 h
  rw [size_fv11] at hl
  match cs, hl with
  | [c0, c1], _ =>
    have g : ∀ i, i < 2 → ∃ y, xs[i]? = some y := fun i hi => ⟨_, List.getElem?_eq_getElem (by rw [hxl]; exact hi)⟩
    obtain ⟨y0, e0⟩ := g 0 (by omega)
    obtain ⟨y1, e1⟩ := g 1 (by omega)
    obtain ⟨a, ha⟩ := cells_str10 ((hg 0 _ rfl).trans e0)
    obtain ⟨B, c, l, hb, hr, _, _⟩ := cells_txs ((hg 1 _ rfl).trans e1)
    have ha2 : List.take (Try.prog.cellsOf 9) (List.drop 0 [c0, c1]) = _ := ha
    have hb2 : List.take (Try.prog.cellsOf 30) (List.drop 1 [c0, c1]) = _ := hb
    rw [size_str11] at ha2
    rw [size_txs11] at hb2
    obtain rfl : c0 = _ := List.singleton_inj.1 ha2
    obtain rfl : c1 = _ := List.singleton_inj.1 hb2
    exact ⟨⟨a, B, l, c⟩, rfl, hr⟩
theorem open_txs {base : Nat} {v : Value} {d : DataW H} {ps : List MemPlace} (hval : Value.okWide Try.prog W .any base 30 v) (h : DataW.Trod enc Try.prog W 0 (fun _ => true) true 30 v d ps) : ∃ (A : Option Addr) (cap : Nat) (l : List (List UInt8)), v = .slice A l.length cap ∧ Reads strC W W.heap.size A l ∧ l.length ≤ cap ∧ cap ≤ maxLen := by
  obtain ⟨A, len, cap, rfl⟩ := okWide_slice Try.underlying30 hval
  obtain ⟨fuel, hf⟩ := h
  obtain ⟨A', cap', l, e, hr, h1, h2⟩ := cells_txs hf
  exact ⟨A', cap', l, List.singleton_inj.1 e, hr, h1, h2⟩
theorem open_fts {base : Nat} {v : Value} {d : DataW H} {ps : List MemPlace} (hval : Value.okWide Try.prog W .any base 26 v) (h : DataW.Trod enc Try.prog W 0 (fun _ => true) true 26 v d ps) : ∃ (A : Option Addr) (cap : Nat) (xs : List Fv), v = .slice A xs.length cap ∧ Reads fvC W W.heap.size A xs ∧ ∀ x ∈ xs, Reads strC W W.heap.size x.A x.of := by
  obtain ⟨A, len, cap, rfl⟩ := okWide_slice Try.underlying26 hval
  obtain ⟨fuel, hf⟩ := h
  rcases DataW.trod_slice Try.underlying26 hf with ⟨hcs, _⟩ | ⟨a, len', cap', elems, rest, n, _, hcs, _, hb, hl, hm, hlen, hel, _, _⟩
  · exact ⟨none, 0, [], List.singleton_inj.1 hcs, fun h => by simp at h, fun x hx => by cases hx⟩
  · rw [size_fv11] at hel
    obtain ⟨xs, hll, hr, he⟩ := reads_cells10 (g := fvC) (sz := 2) (p := fun y => Reads strC W W.heap.size y.A y.of) (by decide) fvC_len (W := W) (a := a) (len := len') fun i hi => by
      have h1 := hel i hi
      rw [List.getElem?_eq_getElem (by omega)] at h1
      obtain ⟨cs, e1, e2⟩ := Option.bind_eq_some_iff.1 h1
      obtain ⟨c, e3, e4⟩ := cells_fv e2
      exact ⟨c, e4, by rw [e1, e3]⟩
    exact ⟨some a, cap', xs, by rw [hll]; exact List.singleton_inj.1 hcs, hr, he⟩
end

end Go.Proofs.Ytglbfknmeojfkaa
end
