/-
  What the statements' proofs lean on, part 4: each part begins with a remark that says what it proves and on what conditions.
-/
import Derived.Deep.RegionHeld3
import Derived.Outline
import Derived.Test.YtjabcbagggicaaaGreatDoorMB3

section
/-
  linchpinref6: May, sign, begins, high, turns, span, Zone, Region: what they return for comparators whose strings have at most a million bytes; nothing that was there is changed.
-/
namespace Go.Proofs.YtjabcbagggicaaaGreatDoor
open Go.RowKit
set_option maxRecDepth 100000
set_option linter.unusedVariables false
set_option linter.unusedSimpArgs false
set_option maxHeartbeats 2000000

theorem bump_core (v : Ver) (k : Int) : coreV (bumpV v k) = bumpV v k := by
  by_cases h : bumpOk v k = true
  · obtain ⟨a, b, c, e⟩ := bump_rel h
    rw [e]; rfl
  · unfold bumpV
    rw [if_neg h]; rfl
theorem bump_short (v : Ver) (k : Int) : (bumpV v k).short := by
  by_cases h : bumpOk v k = true
  · obtain ⟨a, b, c, e⟩ := bump_rel h
    rw [e]; exact ⟨Nat.zero_le _, Nat.zero_le _⟩
  · unfold bumpV
    rw [if_neg h]; exact ⟨Nat.zero_le _, Nat.zero_le _⟩
/-- What is left of high's search at z. -/
def highZ (v : Ver) (z : Int) : Cu := if z < 0 then endC 1 else highC v z.toNat
theorem highZ_hit {v : Ver} {z : Int} (h0 : 0 ≤ z) (h : bumpOk v z = true) : highZ v z = ⟨0, bumpV v z, false⟩ := by
  unfold highZ
  rw [if_neg (by omega)]
  obtain ⟨k, rfl⟩ : ∃ k : Nat, z = k := ⟨z.toNat, by omega⟩
  rw [Int.toNat_natCast]
  cases k with
  | zero => unfold highC; exact if_pos h
  | succ k => unfold highC; rw [if_pos h]
theorem highZ_next {v : Ver} {z : Int} (h0 : 0 ≤ z) (h : bumpOk v z = false) : highZ v z = highZ v (z - 1) := by
  unfold highZ
  rw [if_neg (by omega)]
  obtain ⟨k, rfl⟩ : ∃ k : Nat, z = k := ⟨z.toNat, by omega⟩
  rw [Int.toNat_natCast]
  cases k with
  | zero => unfold highC; rw [if_neg (by rw [show ((0 : Nat) : Int) = 0 from rfl] at h; rw [h]; decide), if_pos (by decide)]
  | succ k =>
    unfold highC
    rw [if_neg (by rw [h]; decide), if_neg (by omega)]
    rw [show (((k + 1 : Nat) : Int) - 1).toNat = k from by omega]
    cases k <;> rfl
theorem rcMay_any (c : Co) (W : World) (hc : c.short) : Calls Tryz.prog 16 #[coV c] W fun e w' => e = .returned (.bool c.may) ∧ Below W.heap.size W w' := by
  refine calls_ok (n := 80) Tryz.func16 rfl (by kernel_rfl) (by kernel_rfl) ?_
  refine ok_seq ?_
  refine ok_region ?_
  refine s_box (coV c) (by kernel_rfl) rfl (by kernel_rfl) (fun b1 => ?_)
  refine s_val (.bool false) (by kernel_rfl) (fun _ => by kernel_rfl) ?_
  refine s_nil ?_
  refine fin_seq ?_
  refine ok_seq ?_
  refine ok_seq ?_
  refine ok_region ?_
  refine s_val (.pointer (some ⟨b1, 0, none⟩)) (by kernel_rfl) (fun _ => by kernel_rfl) ?_
  refine s_load 0 ⟨b1, (coV c).cells, 26⟩ (off := 0) (.int .i64 c.op) (by kernel_rfl) rfl (by kernel_rfl) (by kernel_rfl) (by kernel_rfl) ?_
  by_cases h1 : (c.op : Int) < 1
  · skip
    refine s_dec (p := (c.op : Int) < 1) true (by kernel_rfl) (fun _ => by kernel_rfl) (decide_eq_true (h1)) ?_
    refine s_val (.bool true) (by kernel_rfl) (fun _ => by kernel_rfl) ?_
    refine s_skip (by kernel_rfl) ?_
    refine s_skip (by kernel_rfl) ?_
    refine s_skip (by kernel_rfl) ?_
    refine s_val (.bool true) (by kernel_rfl) (fun _ => by kernel_rfl) ?_
    refine s_val (.bool true) (by kernel_rfl) (fun _ => by kernel_rfl) ?_
    refine s_skip (by kernel_rfl) ?_
    refine s_skip (by kernel_rfl) ?_
    refine s_skip (by kernel_rfl) ?_
    refine s_skip (by kernel_rfl) ?_
    refine s_val (.bool true) (by kernel_rfl) (fun _ => by kernel_rfl) ?_
    refine s_val (.bool true) (by kernel_rfl) (fun _ => by kernel_rfl) ?_
    refine s_skip (by kernel_rfl) ?_
    refine s_skip (by kernel_rfl) ?_
    refine s_skip (by kernel_rfl) ?_
    refine s_skip (by kernel_rfl) ?_
    refine s_val (.bool true) (by kernel_rfl) (fun _ => by kernel_rfl) ?_
    refine s_nil ?_
    refine fin_seq ?_
    refine ok_true (by kernel_rfl) ?_
    refine ok_seq ?_
    refine ok_region ?_
    refine s_val (.bool false) (by kernel_rfl) (fun _ => by kernel_rfl) ?_
    refine s_nil ?_
    refine fin_seq ?_
    refine ok_ret ?_
    refine fin_seq_ret ?_
    refine fin_ret (.bool false) Tryz.results16 (by kernel_rfl) ?_
    exact fun w hO => ⟨by rw [show c.may = false from Bool.eq_false_iff.2 fun q0 => by have q1 := Co.may_iff.1 q0; grind], hO.below⟩
  · skip
    refine s_dec (p := (c.op : Int) < 1) false (by kernel_rfl) (fun _ => by kernel_rfl) (decide_eq_false (h1)) ?_
    refine s_val (.bool false) (by kernel_rfl) (fun _ => by kernel_rfl) ?_
    refine s_val (.pointer (some ⟨b1, 0, none⟩)) (by kernel_rfl) (fun _ => by kernel_rfl) ?_
    refine s_load 0 ⟨b1, (coV c).cells, 26⟩ (off := 0) (.int .i64 c.op) (by kernel_rfl) rfl (by kernel_rfl) (by kernel_rfl) (by kernel_rfl) ?_
    by_cases h2 : (9 : Int) < c.op
    · skip
      refine s_dec (p := (9 : Int) < c.op) true (by kernel_rfl) (fun _ => by kernel_rfl) (decide_eq_true (h2)) ?_
      refine s_val (.bool true) (by kernel_rfl) (fun _ => by kernel_rfl) ?_
      refine s_val (.bool true) (by kernel_rfl) (fun _ => by kernel_rfl) ?_
      refine s_skip (by kernel_rfl) ?_
      refine s_skip (by kernel_rfl) ?_
      refine s_skip (by kernel_rfl) ?_
      refine s_skip (by kernel_rfl) ?_
      refine s_val (.bool true) (by kernel_rfl) (fun _ => by kernel_rfl) ?_
      refine s_val (.bool true) (by kernel_rfl) (fun _ => by kernel_rfl) ?_
      refine s_skip (by kernel_rfl) ?_
      refine s_skip (by kernel_rfl) ?_
      refine s_skip (by kernel_rfl) ?_
      refine s_skip (by kernel_rfl) ?_
      refine s_val (.bool true) (by kernel_rfl) (fun _ => by kernel_rfl) ?_
      refine s_nil ?_
      refine fin_seq ?_
      refine ok_true (by kernel_rfl) ?_
      refine ok_seq ?_
      refine ok_region ?_
      refine s_val (.bool false) (by kernel_rfl) (fun _ => by kernel_rfl) ?_
      refine s_nil ?_
      refine fin_seq ?_
      refine ok_ret ?_
      refine fin_seq_ret ?_
      refine fin_ret (.bool false) Tryz.results16 (by kernel_rfl) ?_
      exact fun w hO => ⟨by rw [show c.may = false from Bool.eq_false_iff.2 fun q0 => by have q1 := Co.may_iff.1 q0; grind], hO.below⟩
    · skip
      refine s_dec (p := (9 : Int) < c.op) false (by kernel_rfl) (fun _ => by kernel_rfl) (decide_eq_false (h2)) ?_
      refine s_val (.bool false) (by kernel_rfl) (fun _ => by kernel_rfl) ?_
      refine s_val (.bool false) (by kernel_rfl) (fun _ => by kernel_rfl) ?_
      refine s_val (.pointer (some ⟨b1, 2, none⟩)) (by kernel_rfl) (fun _ => by kernel_rfl) ?_
      refine s_load 0 ⟨b1, (coV c).cells, 26⟩ (off := 2) (.agg #[.int .i64 c.v.maj, .int .i64 c.v.min, .int .i64 c.v.pat, .string (mkS c.v.pre), .string (mkS c.v.build)]) (by kernel_rfl) rfl (by kernel_rfl) (by kernel_rfl) (by kernel_rfl) ?_
      refine s_call (k := 48) (args := #[.agg #[.int .i64 c.v.maj, .int .i64 c.v.min, .int .i64 c.v.pat, .string (mkS c.v.pre), .string (mkS c.v.build)]]) (.bool c.v.may) (by kernel_rfl) (fun _ => by kernel_rfl) (fun w _ => rmay_any c.v w hc.1 hc.2) ?_
      cases h3 : c.v.may with
      | true =>
        refine s_val (.bool false) (by kernel_rfl) (fun _ => by kernel_rfl) ?_
        refine s_val (.bool false) (by kernel_rfl) (fun _ => by kernel_rfl) ?_
        refine s_val (.bool false) (by kernel_rfl) (fun _ => by kernel_rfl) ?_
        refine s_val (.pointer (some ⟨b1, 2, none⟩)) (by kernel_rfl) (fun _ => by kernel_rfl) ?_
        refine s_val (.pointer (some ⟨b1, 6, none⟩)) (by kernel_rfl) (fun _ => by kernel_rfl) ?_
        refine s_load 0 ⟨b1, (coV c).cells, 26⟩ (off := 6) (.string (mkS c.v.build)) (by kernel_rfl) rfl (by kernel_rfl) (by kernel_rfl) (by kernel_rfl) ?_
        by_cases h4 : (c.v.build : List UInt8) = []
        · skip
          refine s_val (.bool false) (by kernel_rfl) (run_strneq (a := c.v.build) (b := ([])) rfl (by kernel_rfl) (by kernel_rfl) (decide_eq_true (h4))) ?_
          refine s_val (.bool false) (by kernel_rfl) (fun _ => by kernel_rfl) ?_
          refine s_nil ?_
          refine fin_seq ?_
          refine ok_false (by kernel_rfl) ?_
          refine ok_skip ?_
          refine fin_seq ?_
          refine ok_seq ?_
          refine ok_region ?_
          refine s_val (.int .i64 1) (by kernel_rfl) (fun _ => by kernel_rfl) ?_
          refine s_val (.int .i64 3) (by kernel_rfl) (fun _ => by kernel_rfl) ?_
          refine s_nil ?_
          refine fin_seq ?_
          refine ok_seq ?_
          refine ok_seq ?_
          refine ok_region ?_
          refine s_val (.pointer (some ⟨b1, 0, none⟩)) (by kernel_rfl) (fun _ => by kernel_rfl) ?_
          refine s_load 0 ⟨b1, (coV c).cells, 26⟩ (off := 0) (.int .i64 c.op) (by kernel_rfl) rfl (by kernel_rfl) (by kernel_rfl) (by kernel_rfl) ?_
          by_cases h5 : (c.op : Int) = 9
          · skip
            refine s_dec (p := (c.op : Int) = 9) true (by kernel_rfl) (fun _ => by kernel_rfl) (decide_eq_true (h5)) ?_
            refine s_nil ?_
            refine fin_seq ?_
            refine ok_join (fun L f => ∃ (lo : Int) (hi : Int) (j : Nat → Value), ((c.op = 9 → lo = 0 ∧ hi = 2) ∧ (¬ c.op = 9 → lo = 1 ∧ hi = 3)) ∧ L = [⟨b1, (coV c).cells, 26⟩] ∧ f = upds j [(1, .pointer (some ⟨b1, 0, none⟩)), (3, .int .i64 lo), (4, .int .i64 hi)]) ?_ ?_
            · skip
              refine ok_true (by kernel_rfl) ?_
              refine ok_region ?_
              refine s_val (.int .i64 0) (by kernel_rfl) (fun _ => by kernel_rfl) ?_
              refine s_val (.int .i64 2) (by kernel_rfl) (fun _ => by kernel_rfl) ?_
              refine s_nil ?_
              exact fin_join ⟨0, 2, _, ⟨by omega, by omega⟩, rfl, upds_self _ ⟨by kernel_rfl, by kernel_rfl, by kernel_rfl, trivial⟩⟩
            · rintro L f ⟨lo, hi, j, hj3, rfl, rfl⟩
              refine fin_seq ?_
              refine ok_seq ?_
              refine ok_seq ?_
              refine ok_join (fun L f => ∃ (bad : Bool) (j : Nat → Value), ((bad = true → ¬ (lo ≤ c.parts ∧ c.parts ≤ hi ∧ (3 ≤ c.parts ∨ c.v.pre = []))) ∧ (bad = false → lo ≤ c.parts ∧ c.parts ≤ hi ∧ (3 ≤ c.parts ∨ c.v.pre = []))) ∧ L = [⟨b1, (coV c).cells, 26⟩] ∧ f = upds j [(1, .pointer (some ⟨b1, 0, none⟩)), (48, .bool bad)]) ?_ ?_
              · skip
                refine ok_region ?_
                refine s_val (.pointer (some ⟨b1, 1, none⟩)) (by kernel_rfl) (fun _ => by kernel_rfl) ?_
                refine s_load 0 ⟨b1, (coV c).cells, 26⟩ (off := 1) (.int .i64 c.parts) (by kernel_rfl) rfl (by kernel_rfl) (by kernel_rfl) (by kernel_rfl) ?_
                refine s_val (.int .i64 lo) (by kernel_rfl) (fun _ => by kernel_rfl) ?_
                by_cases h6 : (c.parts : Int) < lo
                · skip
                  refine s_dec (p := (c.parts : Int) < lo) true (by kernel_rfl) (fun _ => by kernel_rfl) (decide_eq_true (h6)) ?_
                  refine s_val (.bool true) (by kernel_rfl) (fun _ => by kernel_rfl) ?_
                  refine s_skip (by kernel_rfl) ?_
                  refine s_skip (by kernel_rfl) ?_
                  refine s_skip (by kernel_rfl) ?_
                  refine s_skip (by kernel_rfl) ?_
                  refine s_val (.bool true) (by kernel_rfl) (fun _ => by kernel_rfl) ?_
                  refine s_val (.bool true) (by kernel_rfl) (fun _ => by kernel_rfl) ?_
                  refine s_skip (by kernel_rfl) ?_
                  refine s_skip (by kernel_rfl) ?_
                  refine s_skip (by kernel_rfl) ?_
                  refine s_skip (by kernel_rfl) ?_
                  refine s_skip (by kernel_rfl) ?_
                  refine s_skip (by kernel_rfl) ?_
                  refine s_skip (by kernel_rfl) ?_
                  refine s_skip (by kernel_rfl) ?_
                  refine s_skip (by kernel_rfl) ?_
                  refine s_val (.bool true) (by kernel_rfl) (fun _ => by kernel_rfl) ?_
                  refine s_nil ?_
                  exact fin_join ⟨true, _, ⟨fun q0 => by grind, fun q0 => absurd q0 (by decide)⟩, rfl, upds_self _ ⟨by kernel_rfl, by kernel_rfl, trivial⟩⟩
                · skip
                  refine s_dec (p := (c.parts : Int) < lo) false (by kernel_rfl) (fun _ => by kernel_rfl) (decide_eq_false (h6)) ?_
                  refine s_val (.bool false) (by kernel_rfl) (fun _ => by kernel_rfl) ?_
                  refine s_val (.pointer (some ⟨b1, 1, none⟩)) (by kernel_rfl) (fun _ => by kernel_rfl) ?_
                  refine s_load 0 ⟨b1, (coV c).cells, 26⟩ (off := 1) (.int .i64 c.parts) (by kernel_rfl) rfl (by kernel_rfl) (by kernel_rfl) (by kernel_rfl) ?_
                  refine s_val (.int .i64 hi) (by kernel_rfl) (fun _ => by kernel_rfl) ?_
                  by_cases h7 : (hi : Int) < c.parts
                  · skip
                    refine s_dec (p := (hi : Int) < c.parts) true (by kernel_rfl) (fun _ => by kernel_rfl) (decide_eq_true (h7)) ?_
                    refine s_val (.bool true) (by kernel_rfl) (fun _ => by kernel_rfl) ?_
                    refine s_val (.bool true) (by kernel_rfl) (fun _ => by kernel_rfl) ?_
                    refine s_skip (by kernel_rfl) ?_
                    refine s_skip (by kernel_rfl) ?_
                    refine s_skip (by kernel_rfl) ?_
                    refine s_skip (by kernel_rfl) ?_
                    refine s_skip (by kernel_rfl) ?_
                    refine s_skip (by kernel_rfl) ?_
                    refine s_skip (by kernel_rfl) ?_
                    refine s_skip (by kernel_rfl) ?_
                    refine s_skip (by kernel_rfl) ?_
                    refine s_val (.bool true) (by kernel_rfl) (fun _ => by kernel_rfl) ?_
                    refine s_nil ?_
                    exact fin_join ⟨true, _, ⟨fun q0 => by grind, fun q0 => absurd q0 (by decide)⟩, rfl, upds_self _ ⟨by kernel_rfl, by kernel_rfl, trivial⟩⟩
                  · skip
                    refine s_dec (p := (hi : Int) < c.parts) false (by kernel_rfl) (fun _ => by kernel_rfl) (decide_eq_false (h7)) ?_
                    refine s_val (.bool false) (by kernel_rfl) (fun _ => by kernel_rfl) ?_
                    refine s_val (.bool false) (by kernel_rfl) (fun _ => by kernel_rfl) ?_
                    refine s_val (.pointer (some ⟨b1, 1, none⟩)) (by kernel_rfl) (fun _ => by kernel_rfl) ?_
                    refine s_load 0 ⟨b1, (coV c).cells, 26⟩ (off := 1) (.int .i64 c.parts) (by kernel_rfl) rfl (by kernel_rfl) (by kernel_rfl) (by kernel_rfl) ?_
                    by_cases h8 : (c.parts : Int) < 3
                    · skip
                      refine s_dec (p := (c.parts : Int) < 3) true (by kernel_rfl) (fun _ => by kernel_rfl) (decide_eq_true (h8)) ?_
                      refine s_val (.bool true) (by kernel_rfl) (fun _ => by kernel_rfl) ?_
                      refine s_val (.pointer (some ⟨b1, 2, none⟩)) (by kernel_rfl) (fun _ => by kernel_rfl) ?_
                      refine s_val (.pointer (some ⟨b1, 5, none⟩)) (by kernel_rfl) (fun _ => by kernel_rfl) ?_
                      refine s_load 0 ⟨b1, (coV c).cells, 26⟩ (off := 5) (.string (mkS c.v.pre)) (by kernel_rfl) rfl (by kernel_rfl) (by kernel_rfl) (by kernel_rfl) ?_
                      by_cases h9 : (c.v.pre : List UInt8) = []
                      · skip
                        refine s_val (.bool false) (by kernel_rfl) (run_strneq (a := c.v.pre) (b := ([])) rfl (by kernel_rfl) (by kernel_rfl) (decide_eq_true (h9))) ?_
                        refine s_val (.bool false) (by kernel_rfl) (fun _ => by kernel_rfl) ?_
                        refine s_val (.bool false) (by kernel_rfl) (fun _ => by kernel_rfl) ?_
                        refine s_nil ?_
                        exact fin_join ⟨false, _, ⟨fun q0 => absurd q0 (by decide), fun q0 => ⟨by omega, by omega, by first | exact .inr (by assumption) | exact .inl (by omega)⟩⟩, rfl, upds_self _ ⟨by kernel_rfl, by kernel_rfl, trivial⟩⟩
                      · skip
                        refine s_val (.bool true) (by kernel_rfl) (run_strneq (a := c.v.pre) (b := ([])) rfl (by kernel_rfl) (by kernel_rfl) (decide_eq_false (h9))) ?_
                        refine s_val (.bool true) (by kernel_rfl) (fun _ => by kernel_rfl) ?_
                        refine s_val (.bool true) (by kernel_rfl) (fun _ => by kernel_rfl) ?_
                        refine s_nil ?_
                        exact fin_join ⟨true, _, ⟨fun q0 => by grind, fun q0 => absurd q0 (by decide)⟩, rfl, upds_self _ ⟨by kernel_rfl, by kernel_rfl, trivial⟩⟩
                    · skip
                      refine s_dec (p := (c.parts : Int) < 3) false (by kernel_rfl) (fun _ => by kernel_rfl) (decide_eq_false (h8)) ?_
                      refine s_val (.bool false) (by kernel_rfl) (fun _ => by kernel_rfl) ?_
                      refine s_skip (by kernel_rfl) ?_
                      refine s_skip (by kernel_rfl) ?_
                      refine s_skip (by kernel_rfl) ?_
                      refine s_skip (by kernel_rfl) ?_
                      refine s_val (.bool false) (by kernel_rfl) (fun _ => by kernel_rfl) ?_
                      refine s_val (.bool false) (by kernel_rfl) (fun _ => by kernel_rfl) ?_
                      refine s_nil ?_
                      exact fin_join ⟨false, _, ⟨fun q0 => absurd q0 (by decide), fun q0 => ⟨by omega, by omega, by first | exact .inr (by assumption) | exact .inl (by omega)⟩⟩, rfl, upds_self _ ⟨by kernel_rfl, by kernel_rfl, trivial⟩⟩
              · rintro L f ⟨bad, j, hj2, rfl, rfl⟩
                refine fin_seq ?_
                cases h10 : bad with
                | true =>
                  refine ok_true (by kernel_rfl) ?_
                  refine ok_seq ?_
                  refine ok_region ?_
                  refine s_val (.bool false) (by kernel_rfl) (fun _ => by kernel_rfl) ?_
                  refine s_nil ?_
                  refine fin_seq ?_
                  refine ok_ret ?_
                  refine fin_seq_ret ?_
                  refine fin_ret (.bool false) Tryz.results16 (by kernel_rfl) ?_
                  exact fun w hO => ⟨by rw [show c.may = false from Bool.eq_false_iff.2 fun q0 => by have q1 := Co.may_iff.1 q0; grind], hO.below⟩
                | false =>
                  refine ok_false (by kernel_rfl) ?_
                  refine ok_skip ?_
                  refine fin_seq ?_
                  refine ok_seq ?_
                  refine ok_region ?_
                  refine s_val (.pointer (some ⟨b1, 1, none⟩)) (by kernel_rfl) (fun _ => by kernel_rfl) ?_
                  refine s_load 0 ⟨b1, (coV c).cells, 26⟩ (off := 1) (.int .i64 c.parts) (by kernel_rfl) rfl (by kernel_rfl) (by kernel_rfl) (by kernel_rfl) ?_
                  by_cases h11 : (0 : Int) < c.parts
                  · skip
                    refine s_dec (p := (0 : Int) < c.parts) true (by kernel_rfl) (fun _ => by kernel_rfl) (decide_eq_true (h11)) ?_
                    refine s_val (.bool true) (by kernel_rfl) (fun _ => by kernel_rfl) ?_
                    refine s_skip (by kernel_rfl) ?_
                    refine s_skip (by kernel_rfl) ?_
                    refine s_skip (by kernel_rfl) ?_
                    refine s_skip (by kernel_rfl) ?_
                    refine s_val (.bool true) (by kernel_rfl) (fun _ => by kernel_rfl) ?_
                    refine s_val (.bool true) (by kernel_rfl) (fun _ => by kernel_rfl) ?_
                    refine s_val (.pointer (some ⟨b1, 1, none⟩)) (by kernel_rfl) (fun _ => by kernel_rfl) ?_
                    refine s_load 0 ⟨b1, (coV c).cells, 26⟩ (off := 1) (.int .i64 c.parts) (by kernel_rfl) rfl (by kernel_rfl) (by kernel_rfl) (by kernel_rfl) ?_
                    by_cases h12 : (1 : Int) < c.parts
                    · skip
                      refine s_dec (p := (1 : Int) < c.parts) true (by kernel_rfl) (fun _ => by kernel_rfl) (decide_eq_true (h12)) ?_
                      refine s_val (.bool true) (by kernel_rfl) (fun _ => by kernel_rfl) ?_
                      refine s_skip (by kernel_rfl) ?_
                      refine s_skip (by kernel_rfl) ?_
                      refine s_skip (by kernel_rfl) ?_
                      refine s_skip (by kernel_rfl) ?_
                      refine s_val (.bool true) (by kernel_rfl) (fun _ => by kernel_rfl) ?_
                      refine s_val (.bool true) (by kernel_rfl) (fun _ => by kernel_rfl) ?_
                      refine s_val (.bool true) (by kernel_rfl) (fun _ => by kernel_rfl) ?_
                      refine s_val (.pointer (some ⟨b1, 1, none⟩)) (by kernel_rfl) (fun _ => by kernel_rfl) ?_
                      refine s_load 0 ⟨b1, (coV c).cells, 26⟩ (off := 1) (.int .i64 c.parts) (by kernel_rfl) rfl (by kernel_rfl) (by kernel_rfl) (by kernel_rfl) ?_
                      by_cases h13 : (2 : Int) < c.parts
                      · skip
                        refine s_dec (p := (2 : Int) < c.parts) true (by kernel_rfl) (fun _ => by kernel_rfl) (decide_eq_true (h13)) ?_
                        refine s_val (.bool true) (by kernel_rfl) (fun _ => by kernel_rfl) ?_
                        refine s_skip (by kernel_rfl) ?_
                        refine s_skip (by kernel_rfl) ?_
                        refine s_skip (by kernel_rfl) ?_
                        refine s_skip (by kernel_rfl) ?_
                        refine s_val (.bool true) (by kernel_rfl) (fun _ => by kernel_rfl) ?_
                        refine s_val (.bool true) (by kernel_rfl) (fun _ => by kernel_rfl) ?_
                        refine s_val (.bool true) (by kernel_rfl) (fun _ => by kernel_rfl) ?_
                        refine s_nil ?_
                        refine fin_seq ?_
                        refine ok_ret ?_
                        refine fin_ret (.bool true) Tryz.results16 (by kernel_rfl) ?_
                        exact fun w hO => ⟨by rw [Co.may_iff.2 ⟨by omega, by assumption, by assumption, by grind, by grind, by grind, by omega, by omega, by omega⟩], hO.below⟩
                      · skip
                        refine s_dec (p := (2 : Int) < c.parts) false (by kernel_rfl) (fun _ => by kernel_rfl) (decide_eq_false (h13)) ?_
                        refine s_val (.bool false) (by kernel_rfl) (fun _ => by kernel_rfl) ?_
                        refine s_val (.pointer (some ⟨b1, 2, none⟩)) (by kernel_rfl) (fun _ => by kernel_rfl) ?_
                        refine s_val (.pointer (some ⟨b1, 4, none⟩)) (by kernel_rfl) (fun _ => by kernel_rfl) ?_
                        refine s_load 0 ⟨b1, (coV c).cells, 26⟩ (off := 4) (.int .i64 c.v.pat) (by kernel_rfl) rfl (by kernel_rfl) (by kernel_rfl) (by kernel_rfl) ?_
                        by_cases h14 : (c.v.pat : Int) = 0
                        · skip
                          refine s_dec (p := (c.v.pat : Int) = 0) true (by kernel_rfl) (fun _ => by kernel_rfl) (decide_eq_true (h14)) ?_
                          refine s_val (.bool true) (by kernel_rfl) (fun _ => by kernel_rfl) ?_
                          refine s_val (.bool true) (by kernel_rfl) (fun _ => by kernel_rfl) ?_
                          refine s_val (.bool true) (by kernel_rfl) (fun _ => by kernel_rfl) ?_
                          refine s_nil ?_
                          refine fin_seq ?_
                          refine ok_ret ?_
                          refine fin_ret (.bool true) Tryz.results16 (by kernel_rfl) ?_
                          exact fun w hO => ⟨by rw [Co.may_iff.2 ⟨by omega, by assumption, by assumption, by grind, by grind, by grind, by omega, by omega, by omega⟩], hO.below⟩
                        · skip
                          refine s_dec (p := (c.v.pat : Int) = 0) false (by kernel_rfl) (fun _ => by kernel_rfl) (decide_eq_false (h14)) ?_
                          refine s_val (.bool false) (by kernel_rfl) (fun _ => by kernel_rfl) ?_
                          refine s_val (.bool false) (by kernel_rfl) (fun _ => by kernel_rfl) ?_
                          refine s_val (.bool false) (by kernel_rfl) (fun _ => by kernel_rfl) ?_
                          refine s_nil ?_
                          refine fin_seq ?_
                          refine ok_ret ?_
                          refine fin_ret (.bool false) Tryz.results16 (by kernel_rfl) ?_
                          exact fun w hO => ⟨by rw [show c.may = false from Bool.eq_false_iff.2 fun q0 => by have q1 := Co.may_iff.1 q0; grind], hO.below⟩
                    · skip
                      refine s_dec (p := (1 : Int) < c.parts) false (by kernel_rfl) (fun _ => by kernel_rfl) (decide_eq_false (h12)) ?_
                      refine s_val (.bool false) (by kernel_rfl) (fun _ => by kernel_rfl) ?_
                      refine s_val (.pointer (some ⟨b1, 2, none⟩)) (by kernel_rfl) (fun _ => by kernel_rfl) ?_
                      refine s_val (.pointer (some ⟨b1, 3, none⟩)) (by kernel_rfl) (fun _ => by kernel_rfl) ?_
                      refine s_load 0 ⟨b1, (coV c).cells, 26⟩ (off := 3) (.int .i64 c.v.min) (by kernel_rfl) rfl (by kernel_rfl) (by kernel_rfl) (by kernel_rfl) ?_
                      by_cases h15 : (c.v.min : Int) = 0
                      · skip
                        refine s_dec (p := (c.v.min : Int) = 0) true (by kernel_rfl) (fun _ => by kernel_rfl) (decide_eq_true (h15)) ?_
                        refine s_val (.bool true) (by kernel_rfl) (fun _ => by kernel_rfl) ?_
                        refine s_val (.bool true) (by kernel_rfl) (fun _ => by kernel_rfl) ?_
                        refine s_val (.bool true) (by kernel_rfl) (fun _ => by kernel_rfl) ?_
                        refine s_val (.pointer (some ⟨b1, 1, none⟩)) (by kernel_rfl) (fun _ => by kernel_rfl) ?_
                        refine s_load 0 ⟨b1, (coV c).cells, 26⟩ (off := 1) (.int .i64 c.parts) (by kernel_rfl) rfl (by kernel_rfl) (by kernel_rfl) (by kernel_rfl) ?_
                        by_cases h16 : (2 : Int) < c.parts
                        · skip
                          refine s_dec (p := (2 : Int) < c.parts) true (by kernel_rfl) (fun _ => by kernel_rfl) (decide_eq_true (h16)) ?_
                          refine s_val (.bool true) (by kernel_rfl) (fun _ => by kernel_rfl) ?_
                          refine s_skip (by kernel_rfl) ?_
                          refine s_skip (by kernel_rfl) ?_
                          refine s_skip (by kernel_rfl) ?_
                          refine s_skip (by kernel_rfl) ?_
                          refine s_val (.bool true) (by kernel_rfl) (fun _ => by kernel_rfl) ?_
                          refine s_val (.bool true) (by kernel_rfl) (fun _ => by kernel_rfl) ?_
                          refine s_val (.bool true) (by kernel_rfl) (fun _ => by kernel_rfl) ?_
                          refine s_nil ?_
                          refine fin_seq ?_
                          refine ok_ret ?_
                          refine fin_ret (.bool true) Tryz.results16 (by kernel_rfl) ?_
                          exact fun w hO => ⟨by rw [Co.may_iff.2 ⟨by omega, by assumption, by assumption, by grind, by grind, by grind, by omega, by omega, by omega⟩], hO.below⟩
                        · skip
                          refine s_dec (p := (2 : Int) < c.parts) false (by kernel_rfl) (fun _ => by kernel_rfl) (decide_eq_false (h16)) ?_
                          refine s_val (.bool false) (by kernel_rfl) (fun _ => by kernel_rfl) ?_
                          refine s_val (.pointer (some ⟨b1, 2, none⟩)) (by kernel_rfl) (fun _ => by kernel_rfl) ?_
                          refine s_val (.pointer (some ⟨b1, 4, none⟩)) (by kernel_rfl) (fun _ => by kernel_rfl) ?_
                          refine s_load 0 ⟨b1, (coV c).cells, 26⟩ (off := 4) (.int .i64 c.v.pat) (by kernel_rfl) rfl (by kernel_rfl) (by kernel_rfl) (by kernel_rfl) ?_
                          by_cases h17 : (c.v.pat : Int) = 0
                          · skip
                            refine s_dec (p := (c.v.pat : Int) = 0) true (by kernel_rfl) (fun _ => by kernel_rfl) (decide_eq_true (h17)) ?_
                            refine s_val (.bool true) (by kernel_rfl) (fun _ => by kernel_rfl) ?_
                            refine s_val (.bool true) (by kernel_rfl) (fun _ => by kernel_rfl) ?_
                            refine s_val (.bool true) (by kernel_rfl) (fun _ => by kernel_rfl) ?_
                            refine s_nil ?_
                            refine fin_seq ?_
                            refine ok_ret ?_
                            refine fin_ret (.bool true) Tryz.results16 (by kernel_rfl) ?_
                            exact fun w hO => ⟨by rw [Co.may_iff.2 ⟨by omega, by assumption, by assumption, by grind, by grind, by grind, by omega, by omega, by omega⟩], hO.below⟩
                          · skip
                            refine s_dec (p := (c.v.pat : Int) = 0) false (by kernel_rfl) (fun _ => by kernel_rfl) (decide_eq_false (h17)) ?_
                            refine s_val (.bool false) (by kernel_rfl) (fun _ => by kernel_rfl) ?_
                            refine s_val (.bool false) (by kernel_rfl) (fun _ => by kernel_rfl) ?_
                            refine s_val (.bool false) (by kernel_rfl) (fun _ => by kernel_rfl) ?_
                            refine s_nil ?_
                            refine fin_seq ?_
                            refine ok_ret ?_
                            refine fin_ret (.bool false) Tryz.results16 (by kernel_rfl) ?_
                            exact fun w hO => ⟨by rw [show c.may = false from Bool.eq_false_iff.2 fun q0 => by have q1 := Co.may_iff.1 q0; grind], hO.below⟩
                      · skip
                        refine s_dec (p := (c.v.min : Int) = 0) false (by kernel_rfl) (fun _ => by kernel_rfl) (decide_eq_false (h15)) ?_
                        refine s_val (.bool false) (by kernel_rfl) (fun _ => by kernel_rfl) ?_
                        refine s_val (.bool false) (by kernel_rfl) (fun _ => by kernel_rfl) ?_
                        refine s_val (.bool false) (by kernel_rfl) (fun _ => by kernel_rfl) ?_
                        refine s_skip (by kernel_rfl) ?_
                        refine s_skip (by kernel_rfl) ?_
                        refine s_skip (by kernel_rfl) ?_
                        refine s_skip (by kernel_rfl) ?_
                        refine s_skip (by kernel_rfl) ?_
                        refine s_skip (by kernel_rfl) ?_
                        refine s_skip (by kernel_rfl) ?_
                        refine s_skip (by kernel_rfl) ?_
                        refine s_skip (by kernel_rfl) ?_
                        refine s_val (.bool false) (by kernel_rfl) (fun _ => by kernel_rfl) ?_
                        refine s_val (.bool false) (by kernel_rfl) (fun _ => by kernel_rfl) ?_
                        refine s_nil ?_
                        refine fin_seq ?_
                        refine ok_ret ?_
                        refine fin_ret (.bool false) Tryz.results16 (by kernel_rfl) ?_
                        exact fun w hO => ⟨by rw [show c.may = false from Bool.eq_false_iff.2 fun q0 => by have q1 := Co.may_iff.1 q0; grind], hO.below⟩
                  · skip
                    refine s_dec (p := (0 : Int) < c.parts) false (by kernel_rfl) (fun _ => by kernel_rfl) (decide_eq_false (h11)) ?_
                    refine s_val (.bool false) (by kernel_rfl) (fun _ => by kernel_rfl) ?_
                    refine s_val (.pointer (some ⟨b1, 2, none⟩)) (by kernel_rfl) (fun _ => by kernel_rfl) ?_
                    refine s_val (.pointer (some ⟨b1, 2, none⟩)) (by kernel_rfl) (fun _ => by kernel_rfl) ?_
                    refine s_load 0 ⟨b1, (coV c).cells, 26⟩ (off := 2) (.int .i64 c.v.maj) (by kernel_rfl) rfl (by kernel_rfl) (by kernel_rfl) (by kernel_rfl) ?_
                    by_cases h18 : (c.v.maj : Int) = 0
                    · skip
                      refine s_dec (p := (c.v.maj : Int) = 0) true (by kernel_rfl) (fun _ => by kernel_rfl) (decide_eq_true (h18)) ?_
                      refine s_val (.bool true) (by kernel_rfl) (fun _ => by kernel_rfl) ?_
                      refine s_val (.bool true) (by kernel_rfl) (fun _ => by kernel_rfl) ?_
                      refine s_val (.pointer (some ⟨b1, 1, none⟩)) (by kernel_rfl) (fun _ => by kernel_rfl) ?_
                      refine s_load 0 ⟨b1, (coV c).cells, 26⟩ (off := 1) (.int .i64 c.parts) (by kernel_rfl) rfl (by kernel_rfl) (by kernel_rfl) (by kernel_rfl) ?_
                      by_cases h19 : (1 : Int) < c.parts
                      · skip
                        refine s_dec (p := (1 : Int) < c.parts) true (by kernel_rfl) (fun _ => by kernel_rfl) (decide_eq_true (h19)) ?_
                        refine s_val (.bool true) (by kernel_rfl) (fun _ => by kernel_rfl) ?_
                        refine s_skip (by kernel_rfl) ?_
                        refine s_skip (by kernel_rfl) ?_
                        refine s_skip (by kernel_rfl) ?_
                        refine s_skip (by kernel_rfl) ?_
                        refine s_val (.bool true) (by kernel_rfl) (fun _ => by kernel_rfl) ?_
                        refine s_val (.bool true) (by kernel_rfl) (fun _ => by kernel_rfl) ?_
                        refine s_val (.bool true) (by kernel_rfl) (fun _ => by kernel_rfl) ?_
                        refine s_val (.pointer (some ⟨b1, 1, none⟩)) (by kernel_rfl) (fun _ => by kernel_rfl) ?_
                        refine s_load 0 ⟨b1, (coV c).cells, 26⟩ (off := 1) (.int .i64 c.parts) (by kernel_rfl) rfl (by kernel_rfl) (by kernel_rfl) (by kernel_rfl) ?_
                        by_cases h20 : (2 : Int) < c.parts
                        · skip
                          refine s_dec (p := (2 : Int) < c.parts) true (by kernel_rfl) (fun _ => by kernel_rfl) (decide_eq_true (h20)) ?_
                          refine s_val (.bool true) (by kernel_rfl) (fun _ => by kernel_rfl) ?_
                          refine s_skip (by kernel_rfl) ?_
                          refine s_skip (by kernel_rfl) ?_
                          refine s_skip (by kernel_rfl) ?_
                          refine s_skip (by kernel_rfl) ?_
                          refine s_val (.bool true) (by kernel_rfl) (fun _ => by kernel_rfl) ?_
                          refine s_val (.bool true) (by kernel_rfl) (fun _ => by kernel_rfl) ?_
                          refine s_val (.bool true) (by kernel_rfl) (fun _ => by kernel_rfl) ?_
                          refine s_nil ?_
                          refine fin_seq ?_
                          refine ok_ret ?_
                          refine fin_ret (.bool true) Tryz.results16 (by kernel_rfl) ?_
                          exact fun w hO => ⟨by rw [Co.may_iff.2 ⟨by omega, by assumption, by assumption, by grind, by grind, by grind, by omega, by omega, by omega⟩], hO.below⟩
                        · skip
                          refine s_dec (p := (2 : Int) < c.parts) false (by kernel_rfl) (fun _ => by kernel_rfl) (decide_eq_false (h20)) ?_
                          refine s_val (.bool false) (by kernel_rfl) (fun _ => by kernel_rfl) ?_
                          refine s_val (.pointer (some ⟨b1, 2, none⟩)) (by kernel_rfl) (fun _ => by kernel_rfl) ?_
                          refine s_val (.pointer (some ⟨b1, 4, none⟩)) (by kernel_rfl) (fun _ => by kernel_rfl) ?_
                          refine s_load 0 ⟨b1, (coV c).cells, 26⟩ (off := 4) (.int .i64 c.v.pat) (by kernel_rfl) rfl (by kernel_rfl) (by kernel_rfl) (by kernel_rfl) ?_
                          by_cases h21 : (c.v.pat : Int) = 0
                          · skip
                            refine s_dec (p := (c.v.pat : Int) = 0) true (by kernel_rfl) (fun _ => by kernel_rfl) (decide_eq_true (h21)) ?_
                            refine s_val (.bool true) (by kernel_rfl) (fun _ => by kernel_rfl) ?_
                            refine s_val (.bool true) (by kernel_rfl) (fun _ => by kernel_rfl) ?_
                            refine s_val (.bool true) (by kernel_rfl) (fun _ => by kernel_rfl) ?_
                            refine s_nil ?_
                            refine fin_seq ?_
                            refine ok_ret ?_
                            refine fin_ret (.bool true) Tryz.results16 (by kernel_rfl) ?_
                            exact fun w hO => ⟨by rw [Co.may_iff.2 ⟨by omega, by assumption, by assumption, by grind, by grind, by grind, by omega, by omega, by omega⟩], hO.below⟩
                          · skip
                            refine s_dec (p := (c.v.pat : Int) = 0) false (by kernel_rfl) (fun _ => by kernel_rfl) (decide_eq_false (h21)) ?_
                            refine s_val (.bool false) (by kernel_rfl) (fun _ => by kernel_rfl) ?_
                            refine s_val (.bool false) (by kernel_rfl) (fun _ => by kernel_rfl) ?_
                            refine s_val (.bool false) (by kernel_rfl) (fun _ => by kernel_rfl) ?_
                            refine s_nil ?_
                            refine fin_seq ?_
                            refine ok_ret ?_
                            refine fin_ret (.bool false) Tryz.results16 (by kernel_rfl) ?_
                            exact fun w hO => ⟨by rw [show c.may = false from Bool.eq_false_iff.2 fun q0 => by have q1 := Co.may_iff.1 q0; grind], hO.below⟩
                      · skip
                        refine s_dec (p := (1 : Int) < c.parts) false (by kernel_rfl) (fun _ => by kernel_rfl) (decide_eq_false (h19)) ?_
                        refine s_val (.bool false) (by kernel_rfl) (fun _ => by kernel_rfl) ?_
                        refine s_val (.pointer (some ⟨b1, 2, none⟩)) (by kernel_rfl) (fun _ => by kernel_rfl) ?_
                        refine s_val (.pointer (some ⟨b1, 3, none⟩)) (by kernel_rfl) (fun _ => by kernel_rfl) ?_
                        refine s_load 0 ⟨b1, (coV c).cells, 26⟩ (off := 3) (.int .i64 c.v.min) (by kernel_rfl) rfl (by kernel_rfl) (by kernel_rfl) (by kernel_rfl) ?_
                        by_cases h22 : (c.v.min : Int) = 0
                        · skip
                          refine s_dec (p := (c.v.min : Int) = 0) true (by kernel_rfl) (fun _ => by kernel_rfl) (decide_eq_true (h22)) ?_
                          refine s_val (.bool true) (by kernel_rfl) (fun _ => by kernel_rfl) ?_
                          refine s_val (.bool true) (by kernel_rfl) (fun _ => by kernel_rfl) ?_
                          refine s_val (.bool true) (by kernel_rfl) (fun _ => by kernel_rfl) ?_
                          refine s_val (.pointer (some ⟨b1, 1, none⟩)) (by kernel_rfl) (fun _ => by kernel_rfl) ?_
                          refine s_load 0 ⟨b1, (coV c).cells, 26⟩ (off := 1) (.int .i64 c.parts) (by kernel_rfl) rfl (by kernel_rfl) (by kernel_rfl) (by kernel_rfl) ?_
                          by_cases h23 : (2 : Int) < c.parts
                          · skip
                            refine s_dec (p := (2 : Int) < c.parts) true (by kernel_rfl) (fun _ => by kernel_rfl) (decide_eq_true (h23)) ?_
                            refine s_val (.bool true) (by kernel_rfl) (fun _ => by kernel_rfl) ?_
                            refine s_skip (by kernel_rfl) ?_
                            refine s_skip (by kernel_rfl) ?_
                            refine s_skip (by kernel_rfl) ?_
                            refine s_skip (by kernel_rfl) ?_
                            refine s_val (.bool true) (by kernel_rfl) (fun _ => by kernel_rfl) ?_
                            refine s_val (.bool true) (by kernel_rfl) (fun _ => by kernel_rfl) ?_
                            refine s_val (.bool true) (by kernel_rfl) (fun _ => by kernel_rfl) ?_
                            refine s_nil ?_
                            refine fin_seq ?_
                            refine ok_ret ?_
                            refine fin_ret (.bool true) Tryz.results16 (by kernel_rfl) ?_
                            exact fun w hO => ⟨by rw [Co.may_iff.2 ⟨by omega, by assumption, by assumption, by grind, by grind, by grind, by omega, by omega, by omega⟩], hO.below⟩
                          · skip
                            refine s_dec (p := (2 : Int) < c.parts) false (by kernel_rfl) (fun _ => by kernel_rfl) (decide_eq_false (h23)) ?_
                            refine s_val (.bool false) (by kernel_rfl) (fun _ => by kernel_rfl) ?_
                            refine s_val (.pointer (some ⟨b1, 2, none⟩)) (by kernel_rfl) (fun _ => by kernel_rfl) ?_
                            refine s_val (.pointer (some ⟨b1, 4, none⟩)) (by kernel_rfl) (fun _ => by kernel_rfl) ?_
                            refine s_load 0 ⟨b1, (coV c).cells, 26⟩ (off := 4) (.int .i64 c.v.pat) (by kernel_rfl) rfl (by kernel_rfl) (by kernel_rfl) (by kernel_rfl) ?_
                            by_cases h24 : (c.v.pat : Int) = 0
                            · skip
                              refine s_dec (p := (c.v.pat : Int) = 0) true (by kernel_rfl) (fun _ => by kernel_rfl) (decide_eq_true (h24)) ?_
                              refine s_val (.bool true) (by kernel_rfl) (fun _ => by kernel_rfl) ?_
                              refine s_val (.bool true) (by kernel_rfl) (fun _ => by kernel_rfl) ?_
                              refine s_val (.bool true) (by kernel_rfl) (fun _ => by kernel_rfl) ?_
                              refine s_nil ?_
                              refine fin_seq ?_
                              refine ok_ret ?_
                              refine fin_ret (.bool true) Tryz.results16 (by kernel_rfl) ?_
                              exact fun w hO => ⟨by rw [Co.may_iff.2 ⟨by omega, by assumption, by assumption, by grind, by grind, by grind, by omega, by omega, by omega⟩], hO.below⟩
                            · skip
                              refine s_dec (p := (c.v.pat : Int) = 0) false (by kernel_rfl) (fun _ => by kernel_rfl) (decide_eq_false (h24)) ?_
                              refine s_val (.bool false) (by kernel_rfl) (fun _ => by kernel_rfl) ?_
                              refine s_val (.bool false) (by kernel_rfl) (fun _ => by kernel_rfl) ?_
                              refine s_val (.bool false) (by kernel_rfl) (fun _ => by kernel_rfl) ?_
                              refine s_nil ?_
                              refine fin_seq ?_
                              refine ok_ret ?_
                              refine fin_ret (.bool false) Tryz.results16 (by kernel_rfl) ?_
                              exact fun w hO => ⟨by rw [show c.may = false from Bool.eq_false_iff.2 fun q0 => by have q1 := Co.may_iff.1 q0; grind], hO.below⟩
                        · skip
                          refine s_dec (p := (c.v.min : Int) = 0) false (by kernel_rfl) (fun _ => by kernel_rfl) (decide_eq_false (h22)) ?_
                          refine s_val (.bool false) (by kernel_rfl) (fun _ => by kernel_rfl) ?_
                          refine s_val (.bool false) (by kernel_rfl) (fun _ => by kernel_rfl) ?_
                          refine s_val (.bool false) (by kernel_rfl) (fun _ => by kernel_rfl) ?_
                          refine s_skip (by kernel_rfl) ?_
                          refine s_skip (by kernel_rfl) ?_
                          refine s_skip (by kernel_rfl) ?_
                          refine s_skip (by kernel_rfl) ?_
                          refine s_skip (by kernel_rfl) ?_
                          refine s_skip (by kernel_rfl) ?_
                          refine s_skip (by kernel_rfl) ?_
                          refine s_skip (by kernel_rfl) ?_
                          refine s_skip (by kernel_rfl) ?_
                          refine s_val (.bool false) (by kernel_rfl) (fun _ => by kernel_rfl) ?_
                          refine s_val (.bool false) (by kernel_rfl) (fun _ => by kernel_rfl) ?_
                          refine s_nil ?_
                          refine fin_seq ?_
                          refine ok_ret ?_
                          refine fin_ret (.bool false) Tryz.results16 (by kernel_rfl) ?_
                          exact fun w hO => ⟨by rw [show c.may = false from Bool.eq_false_iff.2 fun q0 => by have q1 := Co.may_iff.1 q0; grind], hO.below⟩
                    · skip
                      refine s_dec (p := (c.v.maj : Int) = 0) false (by kernel_rfl) (fun _ => by kernel_rfl) (decide_eq_false (h18)) ?_
                      refine s_val (.bool false) (by kernel_rfl) (fun _ => by kernel_rfl) ?_
                      refine s_val (.bool false) (by kernel_rfl) (fun _ => by kernel_rfl) ?_
                      refine s_skip (by kernel_rfl) ?_
                      refine s_skip (by kernel_rfl) ?_
                      refine s_skip (by kernel_rfl) ?_
                      refine s_skip (by kernel_rfl) ?_
                      refine s_skip (by kernel_rfl) ?_
                      refine s_skip (by kernel_rfl) ?_
                      refine s_skip (by kernel_rfl) ?_
                      refine s_skip (by kernel_rfl) ?_
                      refine s_skip (by kernel_rfl) ?_
                      refine s_val (.bool false) (by kernel_rfl) (fun _ => by kernel_rfl) ?_
                      refine s_val (.bool false) (by kernel_rfl) (fun _ => by kernel_rfl) ?_
                      refine s_skip (by kernel_rfl) ?_
                      refine s_skip (by kernel_rfl) ?_
                      refine s_skip (by kernel_rfl) ?_
                      refine s_skip (by kernel_rfl) ?_
                      refine s_skip (by kernel_rfl) ?_
                      refine s_skip (by kernel_rfl) ?_
                      refine s_skip (by kernel_rfl) ?_
                      refine s_skip (by kernel_rfl) ?_
                      refine s_skip (by kernel_rfl) ?_
                      refine s_val (.bool false) (by kernel_rfl) (fun _ => by kernel_rfl) ?_
                      refine s_val (.bool false) (by kernel_rfl) (fun _ => by kernel_rfl) ?_
                      refine s_nil ?_
                      refine fin_seq ?_
                      refine ok_ret ?_
                      refine fin_ret (.bool false) Tryz.results16 (by kernel_rfl) ?_
                      exact fun w hO => ⟨by rw [show c.may = false from Bool.eq_false_iff.2 fun q0 => by have q1 := Co.may_iff.1 q0; grind], hO.below⟩
          · skip
            refine s_dec (p := (c.op : Int) = 9) false (by kernel_rfl) (fun _ => by kernel_rfl) (decide_eq_false (h5)) ?_
            refine s_nil ?_
            refine fin_seq ?_
            refine ok_join (fun L f => ∃ (lo : Int) (hi : Int) (j : Nat → Value), ((c.op = 9 → lo = 0 ∧ hi = 2) ∧ (¬ c.op = 9 → lo = 1 ∧ hi = 3)) ∧ L = [⟨b1, (coV c).cells, 26⟩] ∧ f = upds j [(1, .pointer (some ⟨b1, 0, none⟩)), (3, .int .i64 lo), (4, .int .i64 hi)]) ?_ ?_
            · skip
              refine ok_false (by kernel_rfl) ?_
              refine ok_skip ?_
              exact fin_join ⟨1, 3, _, ⟨by omega, by omega⟩, rfl, upds_self _ ⟨by kernel_rfl, by kernel_rfl, by kernel_rfl, trivial⟩⟩
            · rintro L f ⟨lo, hi, j, hj3, rfl, rfl⟩
              refine fin_seq ?_
              refine ok_seq ?_
              refine ok_seq ?_
              refine ok_join (fun L f => ∃ (bad : Bool) (j : Nat → Value), ((bad = true → ¬ (lo ≤ c.parts ∧ c.parts ≤ hi ∧ (3 ≤ c.parts ∨ c.v.pre = []))) ∧ (bad = false → lo ≤ c.parts ∧ c.parts ≤ hi ∧ (3 ≤ c.parts ∨ c.v.pre = []))) ∧ L = [⟨b1, (coV c).cells, 26⟩] ∧ f = upds j [(1, .pointer (some ⟨b1, 0, none⟩)), (48, .bool bad)]) ?_ ?_
              · skip
                refine ok_region ?_
                refine s_val (.pointer (some ⟨b1, 1, none⟩)) (by kernel_rfl) (fun _ => by kernel_rfl) ?_
                refine s_load 0 ⟨b1, (coV c).cells, 26⟩ (off := 1) (.int .i64 c.parts) (by kernel_rfl) rfl (by kernel_rfl) (by kernel_rfl) (by kernel_rfl) ?_
                refine s_val (.int .i64 lo) (by kernel_rfl) (fun _ => by kernel_rfl) ?_
                by_cases h25 : (c.parts : Int) < lo
                · skip
                  refine s_dec (p := (c.parts : Int) < lo) true (by kernel_rfl) (fun _ => by kernel_rfl) (decide_eq_true (h25)) ?_
                  refine s_val (.bool true) (by kernel_rfl) (fun _ => by kernel_rfl) ?_
                  refine s_skip (by kernel_rfl) ?_
                  refine s_skip (by kernel_rfl) ?_
                  refine s_skip (by kernel_rfl) ?_
                  refine s_skip (by kernel_rfl) ?_
                  refine s_val (.bool true) (by kernel_rfl) (fun _ => by kernel_rfl) ?_
                  refine s_val (.bool true) (by kernel_rfl) (fun _ => by kernel_rfl) ?_
                  refine s_skip (by kernel_rfl) ?_
                  refine s_skip (by kernel_rfl) ?_
                  refine s_skip (by kernel_rfl) ?_
                  refine s_skip (by kernel_rfl) ?_
                  refine s_skip (by kernel_rfl) ?_
                  refine s_skip (by kernel_rfl) ?_
                  refine s_skip (by kernel_rfl) ?_
                  refine s_skip (by kernel_rfl) ?_
                  refine s_skip (by kernel_rfl) ?_
                  refine s_val (.bool true) (by kernel_rfl) (fun _ => by kernel_rfl) ?_
                  refine s_nil ?_
                  exact fin_join ⟨true, _, ⟨fun q0 => by grind, fun q0 => absurd q0 (by decide)⟩, rfl, upds_self _ ⟨by kernel_rfl, by kernel_rfl, trivial⟩⟩
                · skip
                  refine s_dec (p := (c.parts : Int) < lo) false (by kernel_rfl) (fun _ => by kernel_rfl) (decide_eq_false (h25)) ?_
                  refine s_val (.bool false) (by kernel_rfl) (fun _ => by kernel_rfl) ?_
                  refine s_val (.pointer (some ⟨b1, 1, none⟩)) (by kernel_rfl) (fun _ => by kernel_rfl) ?_
                  refine s_load 0 ⟨b1, (coV c).cells, 26⟩ (off := 1) (.int .i64 c.parts) (by kernel_rfl) rfl (by kernel_rfl) (by kernel_rfl) (by kernel_rfl) ?_
                  refine s_val (.int .i64 hi) (by kernel_rfl) (fun _ => by kernel_rfl) ?_
                  by_cases h26 : (hi : Int) < c.parts
                  · skip
                    refine s_dec (p := (hi : Int) < c.parts) true (by kernel_rfl) (fun _ => by kernel_rfl) (decide_eq_true (h26)) ?_
                    refine s_val (.bool true) (by kernel_rfl) (fun _ => by kernel_rfl) ?_
                    refine s_val (.bool true) (by kernel_rfl) (fun _ => by kernel_rfl) ?_
                    refine s_skip (by kernel_rfl) ?_
                    refine s_skip (by kernel_rfl) ?_
                    refine s_skip (by kernel_rfl) ?_
                    refine s_skip (by kernel_rfl) ?_
                    refine s_skip (by kernel_rfl) ?_
                    refine s_skip (by kernel_rfl) ?_
                    refine s_skip (by kernel_rfl) ?_
                    refine s_skip (by kernel_rfl) ?_
                    refine s_skip (by kernel_rfl) ?_
                    refine s_val (.bool true) (by kernel_rfl) (fun _ => by kernel_rfl) ?_
                    refine s_nil ?_
                    exact fin_join ⟨true, _, ⟨fun q0 => by grind, fun q0 => absurd q0 (by decide)⟩, rfl, upds_self _ ⟨by kernel_rfl, by kernel_rfl, trivial⟩⟩
                  · skip
                    refine s_dec (p := (hi : Int) < c.parts) false (by kernel_rfl) (fun _ => by kernel_rfl) (decide_eq_false (h26)) ?_
                    refine s_val (.bool false) (by kernel_rfl) (fun _ => by kernel_rfl) ?_
                    refine s_val (.bool false) (by kernel_rfl) (fun _ => by kernel_rfl) ?_
                    refine s_val (.pointer (some ⟨b1, 1, none⟩)) (by kernel_rfl) (fun _ => by kernel_rfl) ?_
                    refine s_load 0 ⟨b1, (coV c).cells, 26⟩ (off := 1) (.int .i64 c.parts) (by kernel_rfl) rfl (by kernel_rfl) (by kernel_rfl) (by kernel_rfl) ?_
                    by_cases h27 : (c.parts : Int) < 3
                    · skip
                      refine s_dec (p := (c.parts : Int) < 3) true (by kernel_rfl) (fun _ => by kernel_rfl) (decide_eq_true (h27)) ?_
                      refine s_val (.bool true) (by kernel_rfl) (fun _ => by kernel_rfl) ?_
                      refine s_val (.pointer (some ⟨b1, 2, none⟩)) (by kernel_rfl) (fun _ => by kernel_rfl) ?_
                      refine s_val (.pointer (some ⟨b1, 5, none⟩)) (by kernel_rfl) (fun _ => by kernel_rfl) ?_
                      refine s_load 0 ⟨b1, (coV c).cells, 26⟩ (off := 5) (.string (mkS c.v.pre)) (by kernel_rfl) rfl (by kernel_rfl) (by kernel_rfl) (by kernel_rfl) ?_
                      by_cases h28 : (c.v.pre : List UInt8) = []
                      · skip
                        refine s_val (.bool false) (by kernel_rfl) (run_strneq (a := c.v.pre) (b := ([])) rfl (by kernel_rfl) (by kernel_rfl) (decide_eq_true (h28))) ?_
                        refine s_val (.bool false) (by kernel_rfl) (fun _ => by kernel_rfl) ?_
                        refine s_val (.bool false) (by kernel_rfl) (fun _ => by kernel_rfl) ?_
                        refine s_nil ?_
                        exact fin_join ⟨false, _, ⟨fun q0 => absurd q0 (by decide), fun q0 => ⟨by omega, by omega, by first | exact .inr (by assumption) | exact .inl (by omega)⟩⟩, rfl, upds_self _ ⟨by kernel_rfl, by kernel_rfl, trivial⟩⟩
                      · skip
                        refine s_val (.bool true) (by kernel_rfl) (run_strneq (a := c.v.pre) (b := ([])) rfl (by kernel_rfl) (by kernel_rfl) (decide_eq_false (h28))) ?_
                        refine s_val (.bool true) (by kernel_rfl) (fun _ => by kernel_rfl) ?_
                        refine s_val (.bool true) (by kernel_rfl) (fun _ => by kernel_rfl) ?_
                        refine s_nil ?_
                        exact fin_join ⟨true, _, ⟨fun q0 => by grind, fun q0 => absurd q0 (by decide)⟩, rfl, upds_self _ ⟨by kernel_rfl, by kernel_rfl, trivial⟩⟩
                    · skip
                      refine s_dec (p := (c.parts : Int) < 3) false (by kernel_rfl) (fun _ => by kernel_rfl) (decide_eq_false (h27)) ?_
                      refine s_val (.bool false) (by kernel_rfl) (fun _ => by kernel_rfl) ?_
                      refine s_skip (by kernel_rfl) ?_
                      refine s_skip (by kernel_rfl) ?_
                      refine s_skip (by kernel_rfl) ?_
                      refine s_skip (by kernel_rfl) ?_
                      refine s_val (.bool false) (by kernel_rfl) (fun _ => by kernel_rfl) ?_
                      refine s_val (.bool false) (by kernel_rfl) (fun _ => by kernel_rfl) ?_
                      refine s_nil ?_
                      exact fin_join ⟨false, _, ⟨fun q0 => absurd q0 (by decide), fun q0 => ⟨by omega, by omega, by first | exact .inr (by assumption) | exact .inl (by omega)⟩⟩, rfl, upds_self _ ⟨by kernel_rfl, by kernel_rfl, trivial⟩⟩
              · rintro L f ⟨bad, j, hj2, rfl, rfl⟩
                refine fin_seq ?_
                cases h29 : bad with
                | true =>
                  refine ok_true (by kernel_rfl) ?_
                  refine ok_seq ?_
                  refine ok_region ?_
                  refine s_val (.bool false) (by kernel_rfl) (fun _ => by kernel_rfl) ?_
                  refine s_nil ?_
                  refine fin_seq ?_
                  refine ok_ret ?_
                  refine fin_seq_ret ?_
                  refine fin_ret (.bool false) Tryz.results16 (by kernel_rfl) ?_
                  exact fun w hO => ⟨by rw [show c.may = false from Bool.eq_false_iff.2 fun q0 => by have q1 := Co.may_iff.1 q0; grind], hO.below⟩
                | false =>
                  refine ok_false (by kernel_rfl) ?_
                  refine ok_skip ?_
                  refine fin_seq ?_
                  refine ok_seq ?_
                  refine ok_region ?_
                  refine s_val (.pointer (some ⟨b1, 1, none⟩)) (by kernel_rfl) (fun _ => by kernel_rfl) ?_
                  refine s_load 0 ⟨b1, (coV c).cells, 26⟩ (off := 1) (.int .i64 c.parts) (by kernel_rfl) rfl (by kernel_rfl) (by kernel_rfl) (by kernel_rfl) ?_
                  by_cases h30 : (0 : Int) < c.parts
                  · skip
                    refine s_dec (p := (0 : Int) < c.parts) true (by kernel_rfl) (fun _ => by kernel_rfl) (decide_eq_true (h30)) ?_
                    refine s_val (.bool true) (by kernel_rfl) (fun _ => by kernel_rfl) ?_
                    refine s_skip (by kernel_rfl) ?_
                    refine s_skip (by kernel_rfl) ?_
                    refine s_skip (by kernel_rfl) ?_
                    refine s_skip (by kernel_rfl) ?_
                    refine s_val (.bool true) (by kernel_rfl) (fun _ => by kernel_rfl) ?_
                    refine s_val (.bool true) (by kernel_rfl) (fun _ => by kernel_rfl) ?_
                    refine s_val (.pointer (some ⟨b1, 1, none⟩)) (by kernel_rfl) (fun _ => by kernel_rfl) ?_
                    refine s_load 0 ⟨b1, (coV c).cells, 26⟩ (off := 1) (.int .i64 c.parts) (by kernel_rfl) rfl (by kernel_rfl) (by kernel_rfl) (by kernel_rfl) ?_
                    by_cases h31 : (1 : Int) < c.parts
                    · skip
                      refine s_dec (p := (1 : Int) < c.parts) true (by kernel_rfl) (fun _ => by kernel_rfl) (decide_eq_true (h31)) ?_
                      refine s_val (.bool true) (by kernel_rfl) (fun _ => by kernel_rfl) ?_
                      refine s_skip (by kernel_rfl) ?_
                      refine s_skip (by kernel_rfl) ?_
                      refine s_skip (by kernel_rfl) ?_
                      refine s_skip (by kernel_rfl) ?_
                      refine s_val (.bool true) (by kernel_rfl) (fun _ => by kernel_rfl) ?_
                      refine s_val (.bool true) (by kernel_rfl) (fun _ => by kernel_rfl) ?_
                      refine s_val (.bool true) (by kernel_rfl) (fun _ => by kernel_rfl) ?_
                      refine s_val (.pointer (some ⟨b1, 1, none⟩)) (by kernel_rfl) (fun _ => by kernel_rfl) ?_
                      refine s_load 0 ⟨b1, (coV c).cells, 26⟩ (off := 1) (.int .i64 c.parts) (by kernel_rfl) rfl (by kernel_rfl) (by kernel_rfl) (by kernel_rfl) ?_
                      by_cases h32 : (2 : Int) < c.parts
                      · skip
                        refine s_dec (p := (2 : Int) < c.parts) true (by kernel_rfl) (fun _ => by kernel_rfl) (decide_eq_true (h32)) ?_
                        refine s_val (.bool true) (by kernel_rfl) (fun _ => by kernel_rfl) ?_
                        refine s_skip (by kernel_rfl) ?_
                        refine s_skip (by kernel_rfl) ?_
                        refine s_skip (by kernel_rfl) ?_
                        refine s_skip (by kernel_rfl) ?_
                        refine s_val (.bool true) (by kernel_rfl) (fun _ => by kernel_rfl) ?_
                        refine s_val (.bool true) (by kernel_rfl) (fun _ => by kernel_rfl) ?_
                        refine s_val (.bool true) (by kernel_rfl) (fun _ => by kernel_rfl) ?_
                        refine s_nil ?_
                        refine fin_seq ?_
                        refine ok_ret ?_
                        refine fin_ret (.bool true) Tryz.results16 (by kernel_rfl) ?_
                        exact fun w hO => ⟨by rw [Co.may_iff.2 ⟨by omega, by assumption, by assumption, by grind, by grind, by grind, by omega, by omega, by omega⟩], hO.below⟩
                      · skip
                        refine s_dec (p := (2 : Int) < c.parts) false (by kernel_rfl) (fun _ => by kernel_rfl) (decide_eq_false (h32)) ?_
                        refine s_val (.bool false) (by kernel_rfl) (fun _ => by kernel_rfl) ?_
                        refine s_val (.pointer (some ⟨b1, 2, none⟩)) (by kernel_rfl) (fun _ => by kernel_rfl) ?_
                        refine s_val (.pointer (some ⟨b1, 4, none⟩)) (by kernel_rfl) (fun _ => by kernel_rfl) ?_
                        refine s_load 0 ⟨b1, (coV c).cells, 26⟩ (off := 4) (.int .i64 c.v.pat) (by kernel_rfl) rfl (by kernel_rfl) (by kernel_rfl) (by kernel_rfl) ?_
                        by_cases h33 : (c.v.pat : Int) = 0
                        · skip
                          refine s_dec (p := (c.v.pat : Int) = 0) true (by kernel_rfl) (fun _ => by kernel_rfl) (decide_eq_true (h33)) ?_
                          refine s_val (.bool true) (by kernel_rfl) (fun _ => by kernel_rfl) ?_
                          refine s_val (.bool true) (by kernel_rfl) (fun _ => by kernel_rfl) ?_
                          refine s_val (.bool true) (by kernel_rfl) (fun _ => by kernel_rfl) ?_
                          refine s_nil ?_
                          refine fin_seq ?_
                          refine ok_ret ?_
                          refine fin_ret (.bool true) Tryz.results16 (by kernel_rfl) ?_
                          exact fun w hO => ⟨by rw [Co.may_iff.2 ⟨by omega, by assumption, by assumption, by grind, by grind, by grind, by omega, by omega, by omega⟩], hO.below⟩
                        · skip
                          refine s_dec (p := (c.v.pat : Int) = 0) false (by kernel_rfl) (fun _ => by kernel_rfl) (decide_eq_false (h33)) ?_
                          refine s_val (.bool false) (by kernel_rfl) (fun _ => by kernel_rfl) ?_
                          refine s_val (.bool false) (by kernel_rfl) (fun _ => by kernel_rfl) ?_
                          refine s_val (.bool false) (by kernel_rfl) (fun _ => by kernel_rfl) ?_
                          refine s_nil ?_
                          refine fin_seq ?_
                          refine ok_ret ?_
                          refine fin_ret (.bool false) Tryz.results16 (by kernel_rfl) ?_
                          exact fun w hO => ⟨by rw [show c.may = false from Bool.eq_false_iff.2 fun q0 => by have q1 := Co.may_iff.1 q0; grind], hO.below⟩
                    · skip
                      refine s_dec (p := (1 : Int) < c.parts) false (by kernel_rfl) (fun _ => by kernel_rfl) (decide_eq_false (h31)) ?_
                      refine s_val (.bool false) (by kernel_rfl) (fun _ => by kernel_rfl) ?_
                      refine s_val (.pointer (some ⟨b1, 2, none⟩)) (by kernel_rfl) (fun _ => by kernel_rfl) ?_
                      refine s_val (.pointer (some ⟨b1, 3, none⟩)) (by kernel_rfl) (fun _ => by kernel_rfl) ?_
                      refine s_load 0 ⟨b1, (coV c).cells, 26⟩ (off := 3) (.int .i64 c.v.min) (by kernel_rfl) rfl (by kernel_rfl) (by kernel_rfl) (by kernel_rfl) ?_
                      by_cases h34 : (c.v.min : Int) = 0
                      · skip
                        refine s_dec (p := (c.v.min : Int) = 0) true (by kernel_rfl) (fun _ => by kernel_rfl) (decide_eq_true (h34)) ?_
                        refine s_val (.bool true) (by kernel_rfl) (fun _ => by kernel_rfl) ?_
                        refine s_val (.bool true) (by kernel_rfl) (fun _ => by kernel_rfl) ?_
                        refine s_val (.bool true) (by kernel_rfl) (fun _ => by kernel_rfl) ?_
                        refine s_val (.pointer (some ⟨b1, 1, none⟩)) (by kernel_rfl) (fun _ => by kernel_rfl) ?_
                        refine s_load 0 ⟨b1, (coV c).cells, 26⟩ (off := 1) (.int .i64 c.parts) (by kernel_rfl) rfl (by kernel_rfl) (by kernel_rfl) (by kernel_rfl) ?_
                        by_cases h35 : (2 : Int) < c.parts
                        · skip
                          refine s_dec (p := (2 : Int) < c.parts) true (by kernel_rfl) (fun _ => by kernel_rfl) (decide_eq_true (h35)) ?_
                          refine s_val (.bool true) (by kernel_rfl) (fun _ => by kernel_rfl) ?_
                          refine s_skip (by kernel_rfl) ?_
                          refine s_skip (by kernel_rfl) ?_
                          refine s_skip (by kernel_rfl) ?_
                          refine s_skip (by kernel_rfl) ?_
                          refine s_val (.bool true) (by kernel_rfl) (fun _ => by kernel_rfl) ?_
                          refine s_val (.bool true) (by kernel_rfl) (fun _ => by kernel_rfl) ?_
                          refine s_val (.bool true) (by kernel_rfl) (fun _ => by kernel_rfl) ?_
                          refine s_nil ?_
                          refine fin_seq ?_
                          refine ok_ret ?_
                          refine fin_ret (.bool true) Tryz.results16 (by kernel_rfl) ?_
                          exact fun w hO => ⟨by rw [Co.may_iff.2 ⟨by omega, by assumption, by assumption, by grind, by grind, by grind, by omega, by omega, by omega⟩], hO.below⟩
                        · skip
                          refine s_dec (p := (2 : Int) < c.parts) false (by kernel_rfl) (fun _ => by kernel_rfl) (decide_eq_false (h35)) ?_
                          refine s_val (.bool false) (by kernel_rfl) (fun _ => by kernel_rfl) ?_
                          refine s_val (.pointer (some ⟨b1, 2, none⟩)) (by kernel_rfl) (fun _ => by kernel_rfl) ?_
                          refine s_val (.pointer (some ⟨b1, 4, none⟩)) (by kernel_rfl) (fun _ => by kernel_rfl) ?_
                          refine s_load 0 ⟨b1, (coV c).cells, 26⟩ (off := 4) (.int .i64 c.v.pat) (by kernel_rfl) rfl (by kernel_rfl) (by kernel_rfl) (by kernel_rfl) ?_
                          by_cases h36 : (c.v.pat : Int) = 0
                          · skip
                            refine s_dec (p := (c.v.pat : Int) = 0) true (by kernel_rfl) (fun _ => by kernel_rfl) (decide_eq_true (h36)) ?_
                            refine s_val (.bool true) (by kernel_rfl) (fun _ => by kernel_rfl) ?_
                            refine s_val (.bool true) (by kernel_rfl) (fun _ => by kernel_rfl) ?_
                            refine s_val (.bool true) (by kernel_rfl) (fun _ => by kernel_rfl) ?_
                            refine s_nil ?_
                            refine fin_seq ?_
                            refine ok_ret ?_
                            refine fin_ret (.bool true) Tryz.results16 (by kernel_rfl) ?_
                            exact fun w hO => ⟨by rw [Co.may_iff.2 ⟨by omega, by assumption, by assumption, by grind, by grind, by grind, by omega, by omega, by omega⟩], hO.below⟩
                          · skip
                            refine s_dec (p := (c.v.pat : Int) = 0) false (by kernel_rfl) (fun _ => by kernel_rfl) (decide_eq_false (h36)) ?_
                            refine s_val (.bool false) (by kernel_rfl) (fun _ => by kernel_rfl) ?_
                            refine s_val (.bool false) (by kernel_rfl) (fun _ => by kernel_rfl) ?_
                            refine s_val (.bool false) (by kernel_rfl) (fun _ => by kernel_rfl) ?_
                            refine s_nil ?_
                            refine fin_seq ?_
                            refine ok_ret ?_
                            refine fin_ret (.bool false) Tryz.results16 (by kernel_rfl) ?_
                            exact fun w hO => ⟨by rw [show c.may = false from Bool.eq_false_iff.2 fun q0 => by have q1 := Co.may_iff.1 q0; grind], hO.below⟩
                      · skip
                        refine s_dec (p := (c.v.min : Int) = 0) false (by kernel_rfl) (fun _ => by kernel_rfl) (decide_eq_false (h34)) ?_
                        refine s_val (.bool false) (by kernel_rfl) (fun _ => by kernel_rfl) ?_
                        refine s_val (.bool false) (by kernel_rfl) (fun _ => by kernel_rfl) ?_
                        refine s_val (.bool false) (by kernel_rfl) (fun _ => by kernel_rfl) ?_
                        refine s_skip (by kernel_rfl) ?_
                        refine s_skip (by kernel_rfl) ?_
                        refine s_skip (by kernel_rfl) ?_
                        refine s_skip (by kernel_rfl) ?_
                        refine s_skip (by kernel_rfl) ?_
                        refine s_skip (by kernel_rfl) ?_
                        refine s_skip (by kernel_rfl) ?_
                        refine s_skip (by kernel_rfl) ?_
                        refine s_skip (by kernel_rfl) ?_
                        refine s_val (.bool false) (by kernel_rfl) (fun _ => by kernel_rfl) ?_
                        refine s_val (.bool false) (by kernel_rfl) (fun _ => by kernel_rfl) ?_
                        refine s_nil ?_
                        refine fin_seq ?_
                        refine ok_ret ?_
                        refine fin_ret (.bool false) Tryz.results16 (by kernel_rfl) ?_
                        exact fun w hO => ⟨by rw [show c.may = false from Bool.eq_false_iff.2 fun q0 => by have q1 := Co.may_iff.1 q0; grind], hO.below⟩
                  · skip
                    refine s_dec (p := (0 : Int) < c.parts) false (by kernel_rfl) (fun _ => by kernel_rfl) (decide_eq_false (h30)) ?_
                    refine s_val (.bool false) (by kernel_rfl) (fun _ => by kernel_rfl) ?_
                    refine s_val (.pointer (some ⟨b1, 2, none⟩)) (by kernel_rfl) (fun _ => by kernel_rfl) ?_
                    refine s_val (.pointer (some ⟨b1, 2, none⟩)) (by kernel_rfl) (fun _ => by kernel_rfl) ?_
                    refine s_load 0 ⟨b1, (coV c).cells, 26⟩ (off := 2) (.int .i64 c.v.maj) (by kernel_rfl) rfl (by kernel_rfl) (by kernel_rfl) (by kernel_rfl) ?_
                    by_cases h37 : (c.v.maj : Int) = 0
                    · skip
                      refine s_dec (p := (c.v.maj : Int) = 0) true (by kernel_rfl) (fun _ => by kernel_rfl) (decide_eq_true (h37)) ?_
                      refine s_val (.bool true) (by kernel_rfl) (fun _ => by kernel_rfl) ?_
                      refine s_val (.bool true) (by kernel_rfl) (fun _ => by kernel_rfl) ?_
                      refine s_val (.pointer (some ⟨b1, 1, none⟩)) (by kernel_rfl) (fun _ => by kernel_rfl) ?_
                      refine s_load 0 ⟨b1, (coV c).cells, 26⟩ (off := 1) (.int .i64 c.parts) (by kernel_rfl) rfl (by kernel_rfl) (by kernel_rfl) (by kernel_rfl) ?_
                      by_cases h38 : (1 : Int) < c.parts
                      · skip
                        refine s_dec (p := (1 : Int) < c.parts) true (by kernel_rfl) (fun _ => by kernel_rfl) (decide_eq_true (h38)) ?_
                        refine s_val (.bool true) (by kernel_rfl) (fun _ => by kernel_rfl) ?_
                        refine s_skip (by kernel_rfl) ?_
                        refine s_skip (by kernel_rfl) ?_
                        refine s_skip (by kernel_rfl) ?_
                        refine s_skip (by kernel_rfl) ?_
                        refine s_val (.bool true) (by kernel_rfl) (fun _ => by kernel_rfl) ?_
                        refine s_val (.bool true) (by kernel_rfl) (fun _ => by kernel_rfl) ?_
                        refine s_val (.bool true) (by kernel_rfl) (fun _ => by kernel_rfl) ?_
                        refine s_val (.pointer (some ⟨b1, 1, none⟩)) (by kernel_rfl) (fun _ => by kernel_rfl) ?_
                        refine s_load 0 ⟨b1, (coV c).cells, 26⟩ (off := 1) (.int .i64 c.parts) (by kernel_rfl) rfl (by kernel_rfl) (by kernel_rfl) (by kernel_rfl) ?_
                        by_cases h39 : (2 : Int) < c.parts
                        · skip
                          refine s_dec (p := (2 : Int) < c.parts) true (by kernel_rfl) (fun _ => by kernel_rfl) (decide_eq_true (h39)) ?_
                          refine s_val (.bool true) (by kernel_rfl) (fun _ => by kernel_rfl) ?_
                          refine s_skip (by kernel_rfl) ?_
                          refine s_skip (by kernel_rfl) ?_
                          refine s_skip (by kernel_rfl) ?_
                          refine s_skip (by kernel_rfl) ?_
                          refine s_val (.bool true) (by kernel_rfl) (fun _ => by kernel_rfl) ?_
                          refine s_val (.bool true) (by kernel_rfl) (fun _ => by kernel_rfl) ?_
                          refine s_val (.bool true) (by kernel_rfl) (fun _ => by kernel_rfl) ?_
                          refine s_nil ?_
                          refine fin_seq ?_
                          refine ok_ret ?_
                          refine fin_ret (.bool true) Tryz.results16 (by kernel_rfl) ?_
                          exact fun w hO => ⟨by rw [Co.may_iff.2 ⟨by omega, by assumption, by assumption, by grind, by grind, by grind, by omega, by omega, by omega⟩], hO.below⟩
                        · skip
                          refine s_dec (p := (2 : Int) < c.parts) false (by kernel_rfl) (fun _ => by kernel_rfl) (decide_eq_false (h39)) ?_
                          refine s_val (.bool false) (by kernel_rfl) (fun _ => by kernel_rfl) ?_
                          refine s_val (.pointer (some ⟨b1, 2, none⟩)) (by kernel_rfl) (fun _ => by kernel_rfl) ?_
                          refine s_val (.pointer (some ⟨b1, 4, none⟩)) (by kernel_rfl) (fun _ => by kernel_rfl) ?_
                          refine s_load 0 ⟨b1, (coV c).cells, 26⟩ (off := 4) (.int .i64 c.v.pat) (by kernel_rfl) rfl (by kernel_rfl) (by kernel_rfl) (by kernel_rfl) ?_
                          by_cases h40 : (c.v.pat : Int) = 0
                          · skip
                            refine s_dec (p := (c.v.pat : Int) = 0) true (by kernel_rfl) (fun _ => by kernel_rfl) (decide_eq_true (h40)) ?_
                            refine s_val (.bool true) (by kernel_rfl) (fun _ => by kernel_rfl) ?_
                            refine s_val (.bool true) (by kernel_rfl) (fun _ => by kernel_rfl) ?_
                            refine s_val (.bool true) (by kernel_rfl) (fun _ => by kernel_rfl) ?_
                            refine s_nil ?_
                            refine fin_seq ?_
                            refine ok_ret ?_
                            refine fin_ret (.bool true) Tryz.results16 (by kernel_rfl) ?_
                            exact fun w hO => ⟨by rw [Co.may_iff.2 ⟨by omega, by assumption, by assumption, by grind, by grind, by grind, by omega, by omega, by omega⟩], hO.below⟩
                          · skip
                            refine s_dec (p := (c.v.pat : Int) = 0) false (by kernel_rfl) (fun _ => by kernel_rfl) (decide_eq_false (h40)) ?_
                            refine s_val (.bool false) (by kernel_rfl) (fun _ => by kernel_rfl) ?_
                            refine s_val (.bool false) (by kernel_rfl) (fun _ => by kernel_rfl) ?_
                            refine s_val (.bool false) (by kernel_rfl) (fun _ => by kernel_rfl) ?_
                            refine s_nil ?_
                            refine fin_seq ?_
                            refine ok_ret ?_
                            refine fin_ret (.bool false) Tryz.results16 (by kernel_rfl) ?_
                            exact fun w hO => ⟨by rw [show c.may = false from Bool.eq_false_iff.2 fun q0 => by have q1 := Co.may_iff.1 q0; grind], hO.below⟩
                      · skip
                        refine s_dec (p := (1 : Int) < c.parts) false (by kernel_rfl) (fun _ => by kernel_rfl) (decide_eq_false (h38)) ?_
                        refine s_val (.bool false) (by kernel_rfl) (fun _ => by kernel_rfl) ?_
                        refine s_val (.pointer (some ⟨b1, 2, none⟩)) (by kernel_rfl) (fun _ => by kernel_rfl) ?_
                        refine s_val (.pointer (some ⟨b1, 3, none⟩)) (by kernel_rfl) (fun _ => by kernel_rfl) ?_
                        refine s_load 0 ⟨b1, (coV c).cells, 26⟩ (off := 3) (.int .i64 c.v.min) (by kernel_rfl) rfl (by kernel_rfl) (by kernel_rfl) (by kernel_rfl) ?_
                        by_cases h41 : (c.v.min : Int) = 0
                        · skip
                          refine s_dec (p := (c.v.min : Int) = 0) true (by kernel_rfl) (fun _ => by kernel_rfl) (decide_eq_true (h41)) ?_
                          refine s_val (.bool true) (by kernel_rfl) (fun _ => by kernel_rfl) ?_
                          refine s_val (.bool true) (by kernel_rfl) (fun _ => by kernel_rfl) ?_
                          refine s_val (.bool true) (by kernel_rfl) (fun _ => by kernel_rfl) ?_
                          refine s_val (.pointer (some ⟨b1, 1, none⟩)) (by kernel_rfl) (fun _ => by kernel_rfl) ?_
                          refine s_load 0 ⟨b1, (coV c).cells, 26⟩ (off := 1) (.int .i64 c.parts) (by kernel_rfl) rfl (by kernel_rfl) (by kernel_rfl) (by kernel_rfl) ?_
                          by_cases h42 : (2 : Int) < c.parts
                          · skip
                            refine s_dec (p := (2 : Int) < c.parts) true (by kernel_rfl) (fun _ => by kernel_rfl) (decide_eq_true (h42)) ?_
                            refine s_val (.bool true) (by kernel_rfl) (fun _ => by kernel_rfl) ?_
                            refine s_skip (by kernel_rfl) ?_
                            refine s_skip (by kernel_rfl) ?_
                            refine s_skip (by kernel_rfl) ?_
                            refine s_skip (by kernel_rfl) ?_
                            refine s_val (.bool true) (by kernel_rfl) (fun _ => by kernel_rfl) ?_
                            refine s_val (.bool true) (by kernel_rfl) (fun _ => by kernel_rfl) ?_
                            refine s_val (.bool true) (by kernel_rfl) (fun _ => by kernel_rfl) ?_
                            refine s_nil ?_
                            refine fin_seq ?_
                            refine ok_ret ?_
                            refine fin_ret (.bool true) Tryz.results16 (by kernel_rfl) ?_
                            exact fun w hO => ⟨by rw [Co.may_iff.2 ⟨by omega, by assumption, by assumption, by grind, by grind, by grind, by omega, by omega, by omega⟩], hO.below⟩
                          · skip
                            refine s_dec (p := (2 : Int) < c.parts) false (by kernel_rfl) (fun _ => by kernel_rfl) (decide_eq_false (h42)) ?_
                            refine s_val (.bool false) (by kernel_rfl) (fun _ => by kernel_rfl) ?_
                            refine s_val (.pointer (some ⟨b1, 2, none⟩)) (by kernel_rfl) (fun _ => by kernel_rfl) ?_
                            refine s_val (.pointer (some ⟨b1, 4, none⟩)) (by kernel_rfl) (fun _ => by kernel_rfl) ?_
                            refine s_load 0 ⟨b1, (coV c).cells, 26⟩ (off := 4) (.int .i64 c.v.pat) (by kernel_rfl) rfl (by kernel_rfl) (by kernel_rfl) (by kernel_rfl) ?_
                            by_cases h43 : (c.v.pat : Int) = 0
                            · skip
                              refine s_dec (p := (c.v.pat : Int) = 0) true (by kernel_rfl) (fun _ => by kernel_rfl) (decide_eq_true (h43)) ?_
                              refine s_val (.bool true) (by kernel_rfl) (fun _ => by kernel_rfl) ?_
                              refine s_val (.bool true) (by kernel_rfl) (fun _ => by kernel_rfl) ?_
                              refine s_val (.bool true) (by kernel_rfl) (fun _ => by kernel_rfl) ?_
                              refine s_nil ?_
                              refine fin_seq ?_
                              refine ok_ret ?_
                              refine fin_ret (.bool true) Tryz.results16 (by kernel_rfl) ?_
                              exact fun w hO => ⟨by rw [Co.may_iff.2 ⟨by omega, by assumption, by assumption, by grind, by grind, by grind, by omega, by omega, by omega⟩], hO.below⟩
                            · skip
                              refine s_dec (p := (c.v.pat : Int) = 0) false (by kernel_rfl) (fun _ => by kernel_rfl) (decide_eq_false (h43)) ?_
                              refine s_val (.bool false) (by kernel_rfl) (fun _ => by kernel_rfl) ?_
                              refine s_val (.bool false) (by kernel_rfl) (fun _ => by kernel_rfl) ?_
                              refine s_val (.bool false) (by kernel_rfl) (fun _ => by kernel_rfl) ?_
                              refine s_nil ?_
                              refine fin_seq ?_
                              refine ok_ret ?_
                              refine fin_ret (.bool false) Tryz.results16 (by kernel_rfl) ?_
                              exact fun w hO => ⟨by rw [show c.may = false from Bool.eq_false_iff.2 fun q0 => by have q1 := Co.may_iff.1 q0; grind], hO.below⟩
                        · skip
                          refine s_dec (p := (c.v.min : Int) = 0) false (by kernel_rfl) (fun _ => by kernel_rfl) (decide_eq_false (h41)) ?_
                          refine s_val (.bool false) (by kernel_rfl) (fun _ => by kernel_rfl) ?_
                          refine s_val (.bool false) (by kernel_rfl) (fun _ => by kernel_rfl) ?_
                          refine s_val (.bool false) (by kernel_rfl) (fun _ => by kernel_rfl) ?_
                          refine s_skip (by kernel_rfl) ?_
                          refine s_skip (by kernel_rfl) ?_
                          refine s_skip (by kernel_rfl) ?_
                          refine s_skip (by kernel_rfl) ?_
                          refine s_skip (by kernel_rfl) ?_
                          refine s_skip (by kernel_rfl) ?_
                          refine s_skip (by kernel_rfl) ?_
                          refine s_skip (by kernel_rfl) ?_
                          refine s_skip (by kernel_rfl) ?_
                          refine s_val (.bool false) (by kernel_rfl) (fun _ => by kernel_rfl) ?_
                          refine s_val (.bool false) (by kernel_rfl) (fun _ => by kernel_rfl) ?_
                          refine s_nil ?_
                          refine fin_seq ?_
                          refine ok_ret ?_
                          refine fin_ret (.bool false) Tryz.results16 (by kernel_rfl) ?_
                          exact fun w hO => ⟨by rw [show c.may = false from Bool.eq_false_iff.2 fun q0 => by have q1 := Co.may_iff.1 q0; grind], hO.below⟩
                    · skip
                      refine s_dec (p := (c.v.maj : Int) = 0) false (by kernel_rfl) (fun _ => by kernel_rfl) (decide_eq_false (h37)) ?_
                      refine s_val (.bool false) (by kernel_rfl) (fun _ => by kernel_rfl) ?_
                      refine s_val (.bool false) (by kernel_rfl) (fun _ => by kernel_rfl) ?_
                      refine s_skip (by kernel_rfl) ?_
                      refine s_skip (by kernel_rfl) ?_
                      refine s_skip (by kernel_rfl) ?_
                      refine s_skip (by kernel_rfl) ?_
                      refine s_skip (by kernel_rfl) ?_
                      refine s_skip (by kernel_rfl) ?_
                      refine s_skip (by kernel_rfl) ?_
                      refine s_skip (by kernel_rfl) ?_
                      refine s_skip (by kernel_rfl) ?_
                      refine s_val (.bool false) (by kernel_rfl) (fun _ => by kernel_rfl) ?_
                      refine s_val (.bool false) (by kernel_rfl) (fun _ => by kernel_rfl) ?_
                      refine s_skip (by kernel_rfl) ?_
                      refine s_skip (by kernel_rfl) ?_
                      refine s_skip (by kernel_rfl) ?_
                      refine s_skip (by kernel_rfl) ?_
                      refine s_skip (by kernel_rfl) ?_
                      refine s_skip (by kernel_rfl) ?_
                      refine s_skip (by kernel_rfl) ?_
                      refine s_skip (by kernel_rfl) ?_
                      refine s_skip (by kernel_rfl) ?_
                      refine s_val (.bool false) (by kernel_rfl) (fun _ => by kernel_rfl) ?_
                      refine s_val (.bool false) (by kernel_rfl) (fun _ => by kernel_rfl) ?_
                      refine s_nil ?_
                      refine fin_seq ?_
                      refine ok_ret ?_
                      refine fin_ret (.bool false) Tryz.results16 (by kernel_rfl) ?_
                      exact fun w hO => ⟨by rw [show c.may = false from Bool.eq_false_iff.2 fun q0 => by have q1 := Co.may_iff.1 q0; grind], hO.below⟩
        · skip
          refine s_val (.bool true) (by kernel_rfl) (run_strneq (a := c.v.build) (b := ([])) rfl (by kernel_rfl) (by kernel_rfl) (decide_eq_false (h4))) ?_
          refine s_val (.bool true) (by kernel_rfl) (fun _ => by kernel_rfl) ?_
          refine s_nil ?_
          refine fin_seq ?_
          refine ok_true (by kernel_rfl) ?_
          refine ok_seq ?_
          refine ok_region ?_
          refine s_val (.bool false) (by kernel_rfl) (fun _ => by kernel_rfl) ?_
          refine s_nil ?_
          refine fin_seq ?_
          refine ok_ret ?_
          refine fin_seq_ret ?_
          refine fin_ret (.bool false) Tryz.results16 (by kernel_rfl) ?_
          exact fun w hO => ⟨by rw [show c.may = false from Bool.eq_false_iff.2 fun q0 => by have q1 := Co.may_iff.1 q0; grind], hO.below⟩
      | false =>
        refine s_val (.bool true) (by kernel_rfl) (fun _ => by kernel_rfl) ?_
        refine s_val (.bool true) (by kernel_rfl) (fun _ => by kernel_rfl) ?_
        refine s_val (.bool true) (by kernel_rfl) (fun _ => by kernel_rfl) ?_
        refine s_skip (by kernel_rfl) ?_
        refine s_skip (by kernel_rfl) ?_
        refine s_skip (by kernel_rfl) ?_
        refine s_skip (by kernel_rfl) ?_
        refine s_val (.bool true) (by kernel_rfl) (fun _ => by kernel_rfl) ?_
        refine s_nil ?_
        refine fin_seq ?_
        refine ok_true (by kernel_rfl) ?_
        refine ok_seq ?_
        refine ok_region ?_
        refine s_val (.bool false) (by kernel_rfl) (fun _ => by kernel_rfl) ?_
        refine s_nil ?_
        refine fin_seq ?_
        refine ok_ret ?_
        refine fin_seq_ret ?_
        refine fin_ret (.bool false) Tryz.results16 (by kernel_rfl) ?_
        exact fun w hO => ⟨by rw [show c.may = false from Bool.eq_false_iff.2 fun q0 => by have q1 := Co.may_iff.1 q0; grind], hO.below⟩
theorem rcsign_any (op : Int) (W : World) : Calls Tryz.prog 51 #[.int .i64 op] W fun e w' => e = .returned (.string (mkS (signL op))) ∧ Below W.heap.size W w' := by
  refine calls_ok (n := 20) Tryz.func51 rfl (by kernel_rfl) (by kernel_rfl) ?_
  refine ok_seq ?_
  refine ok_region ?_
  refine s_val (.string ⟨#[]⟩) (by kernel_rfl) (fun _ => by kernel_rfl) ?_
  refine s_nil ?_
  refine fin_seq ?_
  refine ok_seq ?_
  refine ok_seq ?_
  refine ok_region ?_
  refine s_val (.int .i64 op) (by kernel_rfl) (fun _ => by kernel_rfl) ?_
  refine s_nil ?_
  refine fin_seq ?_
  refine ok_block ?_
  refine ok_seq ?_
  refine ok_region ?_
  by_cases h1 : (op : Int) = 1
  · skip
    refine s_dec (p := (op : Int) = 1) true (by kernel_rfl) (fun _ => by kernel_rfl) (decide_eq_true (h1)) ?_
    refine s_val (.bool true) (by kernel_rfl) (fun _ => by kernel_rfl) ?_
    refine s_nil ?_
    refine fin_seq ?_
    refine ok_true (by kernel_rfl) ?_
    refine ok_seq ?_
    refine ok_region ?_
    refine s_val (.string ⟨#[61]⟩) (by kernel_rfl) (fun _ => by kernel_rfl) ?_
    refine s_nil ?_
    refine fin_seq ?_
    refine ok_ret ?_
    refine fin_block_ret ?_
    refine fin_seq_ret ?_
    refine fin_ret (.string ⟨#[61]⟩) Tryz.results51 (by kernel_rfl) ?_
    exact fun w hO => ⟨by unfold signL; simp [h1]; rfl, hO.below⟩
  · skip
    refine s_dec (p := (op : Int) = 1) false (by kernel_rfl) (fun _ => by kernel_rfl) (decide_eq_false (h1)) ?_
    refine s_val (.bool false) (by kernel_rfl) (fun _ => by kernel_rfl) ?_
    refine s_nil ?_
    refine fin_seq ?_
    refine ok_false (by kernel_rfl) ?_
    refine ok_seq ?_
    refine ok_region ?_
    by_cases h2 : (op : Int) = 2
    · skip
      refine s_dec (p := (op : Int) = 2) true (by kernel_rfl) (fun _ => by kernel_rfl) (decide_eq_true (h2)) ?_
      refine s_val (.bool true) (by kernel_rfl) (fun _ => by kernel_rfl) ?_
      refine s_nil ?_
      refine fin_seq ?_
      refine ok_true (by kernel_rfl) ?_
      refine ok_seq ?_
      refine ok_region ?_
      refine s_val (.string ⟨#[33, 61]⟩) (by kernel_rfl) (fun _ => by kernel_rfl) ?_
      refine s_nil ?_
      refine fin_seq ?_
      refine ok_ret ?_
      refine fin_block_ret ?_
      refine fin_seq_ret ?_
      refine fin_ret (.string ⟨#[33, 61]⟩) Tryz.results51 (by kernel_rfl) ?_
      exact fun w hO => ⟨by unfold signL; simp [h1, h2]; rfl, hO.below⟩
    · skip
      refine s_dec (p := (op : Int) = 2) false (by kernel_rfl) (fun _ => by kernel_rfl) (decide_eq_false (h2)) ?_
      refine s_val (.bool false) (by kernel_rfl) (fun _ => by kernel_rfl) ?_
      refine s_nil ?_
      refine fin_seq ?_
      refine ok_false (by kernel_rfl) ?_
      refine ok_seq ?_
      refine ok_region ?_
      by_cases h3 : (op : Int) = 3
      · skip
        refine s_dec (p := (op : Int) = 3) true (by kernel_rfl) (fun _ => by kernel_rfl) (decide_eq_true (h3)) ?_
        refine s_val (.bool true) (by kernel_rfl) (fun _ => by kernel_rfl) ?_
        refine s_nil ?_
        refine fin_seq ?_
        refine ok_true (by kernel_rfl) ?_
        refine ok_seq ?_
        refine ok_region ?_
        refine s_val (.string ⟨#[60]⟩) (by kernel_rfl) (fun _ => by kernel_rfl) ?_
        refine s_nil ?_
        refine fin_seq ?_
        refine ok_ret ?_
        refine fin_block_ret ?_
        refine fin_seq_ret ?_
        refine fin_ret (.string ⟨#[60]⟩) Tryz.results51 (by kernel_rfl) ?_
        exact fun w hO => ⟨by unfold signL; simp [h1, h2, h3]; rfl, hO.below⟩
      · skip
        refine s_dec (p := (op : Int) = 3) false (by kernel_rfl) (fun _ => by kernel_rfl) (decide_eq_false (h3)) ?_
        refine s_val (.bool false) (by kernel_rfl) (fun _ => by kernel_rfl) ?_
        refine s_nil ?_
        refine fin_seq ?_
        refine ok_false (by kernel_rfl) ?_
        refine ok_seq ?_
        refine ok_region ?_
        by_cases h4 : (op : Int) = 4
        · skip
          refine s_dec (p := (op : Int) = 4) true (by kernel_rfl) (fun _ => by kernel_rfl) (decide_eq_true (h4)) ?_
          refine s_val (.bool true) (by kernel_rfl) (fun _ => by kernel_rfl) ?_
          refine s_nil ?_
          refine fin_seq ?_
          refine ok_true (by kernel_rfl) ?_
          refine ok_seq ?_
          refine ok_region ?_
          refine s_val (.string ⟨#[60, 61]⟩) (by kernel_rfl) (fun _ => by kernel_rfl) ?_
          refine s_nil ?_
          refine fin_seq ?_
          refine ok_ret ?_
          refine fin_block_ret ?_
          refine fin_seq_ret ?_
          refine fin_ret (.string ⟨#[60, 61]⟩) Tryz.results51 (by kernel_rfl) ?_
          exact fun w hO => ⟨by unfold signL; simp [h1, h2, h3, h4]; rfl, hO.below⟩
        · skip
          refine s_dec (p := (op : Int) = 4) false (by kernel_rfl) (fun _ => by kernel_rfl) (decide_eq_false (h4)) ?_
          refine s_val (.bool false) (by kernel_rfl) (fun _ => by kernel_rfl) ?_
          refine s_nil ?_
          refine fin_seq ?_
          refine ok_false (by kernel_rfl) ?_
          refine ok_seq ?_
          refine ok_region ?_
          by_cases h5 : (op : Int) = 5
          · skip
            refine s_dec (p := (op : Int) = 5) true (by kernel_rfl) (fun _ => by kernel_rfl) (decide_eq_true (h5)) ?_
            refine s_val (.bool true) (by kernel_rfl) (fun _ => by kernel_rfl) ?_
            refine s_nil ?_
            refine fin_seq ?_
            refine ok_true (by kernel_rfl) ?_
            refine ok_seq ?_
            refine ok_region ?_
            refine s_val (.string ⟨#[62]⟩) (by kernel_rfl) (fun _ => by kernel_rfl) ?_
            refine s_nil ?_
            refine fin_seq ?_
            refine ok_ret ?_
            refine fin_block_ret ?_
            refine fin_seq_ret ?_
            refine fin_ret (.string ⟨#[62]⟩) Tryz.results51 (by kernel_rfl) ?_
            exact fun w hO => ⟨by unfold signL; simp [h1, h2, h3, h4, h5]; rfl, hO.below⟩
          · skip
            refine s_dec (p := (op : Int) = 5) false (by kernel_rfl) (fun _ => by kernel_rfl) (decide_eq_false (h5)) ?_
            refine s_val (.bool false) (by kernel_rfl) (fun _ => by kernel_rfl) ?_
            refine s_nil ?_
            refine fin_seq ?_
            refine ok_false (by kernel_rfl) ?_
            refine ok_seq ?_
            refine ok_region ?_
            by_cases h6 : (op : Int) = 6
            · skip
              refine s_dec (p := (op : Int) = 6) true (by kernel_rfl) (fun _ => by kernel_rfl) (decide_eq_true (h6)) ?_
              refine s_val (.bool true) (by kernel_rfl) (fun _ => by kernel_rfl) ?_
              refine s_nil ?_
              refine fin_seq ?_
              refine ok_true (by kernel_rfl) ?_
              refine ok_seq ?_
              refine ok_region ?_
              refine s_val (.string ⟨#[62, 61]⟩) (by kernel_rfl) (fun _ => by kernel_rfl) ?_
              refine s_nil ?_
              refine fin_seq ?_
              refine ok_ret ?_
              refine fin_block_ret ?_
              refine fin_seq_ret ?_
              refine fin_ret (.string ⟨#[62, 61]⟩) Tryz.results51 (by kernel_rfl) ?_
              exact fun w hO => ⟨by unfold signL; simp [h1, h2, h3, h4, h5, h6]; rfl, hO.below⟩
            · skip
              refine s_dec (p := (op : Int) = 6) false (by kernel_rfl) (fun _ => by kernel_rfl) (decide_eq_false (h6)) ?_
              refine s_val (.bool false) (by kernel_rfl) (fun _ => by kernel_rfl) ?_
              refine s_nil ?_
              refine fin_seq ?_
              refine ok_false (by kernel_rfl) ?_
              refine ok_seq ?_
              refine ok_region ?_
              by_cases h7 : (op : Int) = 7
              · skip
                refine s_dec (p := (op : Int) = 7) true (by kernel_rfl) (fun _ => by kernel_rfl) (decide_eq_true (h7)) ?_
                refine s_val (.bool true) (by kernel_rfl) (fun _ => by kernel_rfl) ?_
                refine s_nil ?_
                refine fin_seq ?_
                refine ok_true (by kernel_rfl) ?_
                refine ok_seq ?_
                refine ok_region ?_
                refine s_val (.string ⟨#[94]⟩) (by kernel_rfl) (fun _ => by kernel_rfl) ?_
                refine s_nil ?_
                refine fin_seq ?_
                refine ok_ret ?_
                refine fin_block_ret ?_
                refine fin_seq_ret ?_
                refine fin_ret (.string ⟨#[94]⟩) Tryz.results51 (by kernel_rfl) ?_
                exact fun w hO => ⟨by unfold signL; simp [h1, h2, h3, h4, h5, h6, h7]; rfl, hO.below⟩
              · skip
                refine s_dec (p := (op : Int) = 7) false (by kernel_rfl) (fun _ => by kernel_rfl) (decide_eq_false (h7)) ?_
                refine s_val (.bool false) (by kernel_rfl) (fun _ => by kernel_rfl) ?_
                refine s_nil ?_
                refine fin_seq ?_
                refine ok_false (by kernel_rfl) ?_
                refine ok_seq ?_
                refine ok_region ?_
                by_cases h8 : (op : Int) = 8
                · skip
                  refine s_dec (p := (op : Int) = 8) true (by kernel_rfl) (fun _ => by kernel_rfl) (decide_eq_true (h8)) ?_
                  refine s_val (.bool true) (by kernel_rfl) (fun _ => by kernel_rfl) ?_
                  refine s_nil ?_
                  refine fin_seq ?_
                  refine ok_true (by kernel_rfl) ?_
                  refine ok_seq ?_
                  refine ok_region ?_
                  refine s_val (.string ⟨#[126]⟩) (by kernel_rfl) (fun _ => by kernel_rfl) ?_
                  refine s_nil ?_
                  refine fin_seq ?_
                  refine ok_ret ?_
                  refine fin_block_ret ?_
                  refine fin_seq_ret ?_
                  refine fin_ret (.string ⟨#[126]⟩) Tryz.results51 (by kernel_rfl) ?_
                  exact fun w hO => ⟨by unfold signL; simp [h1, h2, h3, h4, h5, h6, h7, h8]; rfl, hO.below⟩
                · skip
                  refine s_dec (p := (op : Int) = 8) false (by kernel_rfl) (fun _ => by kernel_rfl) (decide_eq_false (h8)) ?_
                  refine s_val (.bool false) (by kernel_rfl) (fun _ => by kernel_rfl) ?_
                  refine s_nil ?_
                  refine fin_seq ?_
                  refine ok_false (by kernel_rfl) ?_
                  refine ok_skip ?_
                  refine fin_block ?_
                  refine fin_seq ?_
                  refine ok_seq ?_
                  refine ok_region ?_
                  refine s_val (.string ⟨#[]⟩) (by kernel_rfl) (fun _ => by kernel_rfl) ?_
                  refine s_nil ?_
                  refine fin_seq ?_
                  refine ok_ret ?_
                  refine fin_ret (.string ⟨#[]⟩) Tryz.results51 (by kernel_rfl) ?_
                  exact fun w hO => ⟨by unfold signL; simp [h1, h2, h3, h4, h5, h6, h7, h8]; rfl, hO.below⟩
theorem rchigh_any (v : Ver) (z0 : Int) (k : Nat) (W : World) (hv : v.short) (hz : z0 = k) (hk : k < 3) : Calls Tryz.prog 94 #[verV v, .int .i64 z0] W fun e w' => e = .returned (cutV (highC v k)) ∧ Below W.heap.size W w' := by
  have hk0 : highC v k = highZ v z0 := by unfold highZ; rw [hz, if_neg (by omega), Int.toNat_natCast]
  refine calls_ok (n := 21) Tryz.func94 rfl (by kernel_rfl) (by kernel_rfl) ?_
  refine ok_seq ?_
  refine ok_region ?_
  refine s_box (verV v) (by kernel_rfl) rfl (by kernel_rfl) (fun b1 => ?_)
  refine s_alloc_at (.agg #[.int .i64 0, .int .i64 0, .int .i64 0, .int .i64 0, .string ⟨#[]⟩, .string ⟨#[]⟩, .bool false]) (by kernel_rfl) rfl (by kernel_rfl) (fun b2 => ?_)
  refine s_nil ?_
  refine fin_seq ?_
  refine ok_seq ?_
  refine ok_block ?_
  refine ok_loop (fun L f m => ∃ (z : Int) (j : Nat → Value), (-1 ≤ z ∧ z ≤ 2 ∧ highC v k = highZ v z) ∧ L = [⟨b2, #[.int .i64 0, .int .i64 0, .int .i64 0, .int .i64 0, .string ⟨#[]⟩, .string ⟨#[]⟩, .bool false], 48⟩, ⟨b1, (verV v).cells, 24⟩] ∧ f = upds j [(1, .int .i64 z), (2, .pointer (some ⟨b1, 0, none⟩)), (4, .pointer (some ⟨b2, 0, none⟩))] ∧ m = (z + 1).toNat) ((z0 + 1).toNat) ⟨z0, _, ⟨by omega, by omega, hk0⟩, rfl, upds_self _ ⟨by kernel_rfl, by kernel_rfl, by kernel_rfl, trivial⟩, rfl⟩ ?_
  rintro L f m ⟨z, j, hrel, rfl, rfl, rfl⟩
  refine ok_seq ?_
  refine ok_seq ?_
  refine ok_region ?_
  refine s_val (.int .i64 z) (by kernel_rfl) (fun _ => by kernel_rfl) ?_
  by_cases h1 : (0 : Int) ≤ z
  · skip
    refine s_dec (p := (0 : Int) ≤ z) true (by kernel_rfl) (fun _ => by kernel_rfl) (decide_eq_true (h1)) ?_
    refine s_nil ?_
    refine fin_seq ?_
    refine ok_true (by kernel_rfl) ?_
    refine ok_skip ?_
    refine fin_seq ?_
    refine ok_seq ?_
    refine ok_block ?_
    refine ok_seq ?_
    refine ok_region ?_
    refine s_load 1 ⟨b1, (verV v).cells, 24⟩ (off := 0) (verV v) (by kernel_rfl) rfl (by kernel_rfl) (by kernel_rfl) (by kernel_rfl) ?_
    refine s_val (.int .i64 z) (by kernel_rfl) (fun _ => by kernel_rfl) ?_
    refine s_call (k := 130) (args := #[verV v, .int .i64 z]) (.tuple #[verV (bumpV v z), .bool (bumpOk v z)]) (by kernel_rfl) (fun _ => by kernel_rfl) (fun w _ => rbump_any v z w hv.1 hv.2) ?_
    refine s_val (.tuple #[verV (bumpV v z), .bool (bumpOk v z)]) (by kernel_rfl) (fun _ => by kernel_rfl) ?_
    refine s_val (verV (bumpV v z)) (by kernel_rfl) (fun _ => by kernel_rfl) ?_
    refine s_val (.bool (bumpOk v z)) (by kernel_rfl) (fun _ => by kernel_rfl) ?_
    refine s_alloc_at (.agg #[.int .i64 0, .int .i64 0, .int .i64 0, .string ⟨#[]⟩, .string ⟨#[]⟩]) (by kernel_rfl) rfl (by kernel_rfl) (fun b3 => ?_)
    refine s_store_at 0 ⟨b3, #[.int .i64 0, .int .i64 0, .int .i64 0, .string ⟨#[]⟩, .string ⟨#[]⟩], 24⟩ (off := 0) (verV (bumpV v z)) (by kernel_rfl) rfl rfl (by kernel_rfl) (by kernel_rfl) (by kernel_rfl) (by kernel_rfl) (by kernel_rfl) ?_
    refine s_val (.bool (bumpOk v z)) (by kernel_rfl) (fun _ => by kernel_rfl) ?_
    refine s_nil ?_
    refine fin_seq ?_
    refine ok_seq ?_
    refine ok_region ?_
    refine s_val (.bool (bumpOk v z)) (by kernel_rfl) (fun _ => by kernel_rfl) ?_
    refine s_nil ?_
    refine fin_seq ?_
    cases h2 : bumpOk v z with
    | true =>
      refine ok_true (by kernel_rfl) ?_
      refine ok_seq ?_
      refine ok_region ?_
      refine s_load 0 ⟨b3, (verV (bumpV v z)).cells, 24⟩ (off := 0) (verV (bumpV v z)) (by kernel_rfl) rfl (by kernel_rfl) (by kernel_rfl) (by kernel_rfl) ?_
      refine s_call (k := 57) (args := #[verV (bumpV v z)]) (cutV ⟨0, coreV (bumpV v z), false⟩) (by kernel_rfl) (fun _ => by kernel_rfl) (fun w _ => rbefore_any (bumpV v z) w (bump_short v z)) ?_
      refine s_store_at 1 ⟨b2, #[.int .i64 0, .int .i64 0, .int .i64 0, .int .i64 0, .string ⟨#[]⟩, .string ⟨#[]⟩, .bool false], 48⟩ (off := 0) (cutV ⟨0, coreV (bumpV v z), false⟩) (by kernel_rfl) rfl rfl (by kernel_rfl) (by kernel_rfl) (by kernel_rfl) (by kernel_rfl) (by kernel_rfl) ?_
      refine s_nil ?_
      refine fin_seq ?_
      refine ok_ret ?_
      refine fin_block_ret ?_
      refine fin_seq_ret ?_
      refine fin_round_ret ?_
      refine fin_block_ret ?_
      refine fin_seq_ret ?_
      refine fin_cell 1 ⟨b2, (cutV ⟨0, coreV (bumpV v z), false⟩).cells, 48⟩ (off := 0) (cutV ⟨0, coreV (bumpV v z), false⟩) Tryz.results94 (by kernel_rfl) (by kernel_rfl) (by kernel_rfl) ?_
      exact fun w hO => ⟨by rw [hrel.2.2, highZ_hit (by omega) (by assumption)]; rw [bump_core], hO.below⟩
    | false =>
      refine ok_false (by kernel_rfl) ?_
      refine ok_skip ?_
      refine fin_block ?_
      refine fin_seq ?_
      refine ok_region ?_
      refine s_val (.int .i64 z) (by kernel_rfl) (fun _ => by kernel_rfl) ?_
      refine s_sum (k := .i64) ((z : Int) - 1) (by kernel_rfl) (fun _ => by kernel_rfl) (IntWalk.i64_in _ (by omega)) ?_
      refine s_val (.int .i64 ((z : Int) - 1)) (by kernel_rfl) (fun _ => by kernel_rfl) ?_
      refine s_nil ?_
      refine fin_take (fun w hO => Own.sub [_] hO) ?_
      exact fin_round (m' := (z - 1 + 1).toNat) (by omega) ⟨z - 1, _, ⟨by omega, by omega, by rw [hrel.2.2, highZ_next (by omega) (by assumption)]⟩, rfl, upds_self _ ⟨by kernel_rfl, by kernel_rfl, by kernel_rfl, trivial⟩, rfl⟩
  · skip
    refine s_dec (p := (0 : Int) ≤ z) false (by kernel_rfl) (fun _ => by kernel_rfl) (decide_eq_false (h1)) ?_
    refine s_nil ?_
    refine fin_seq ?_
    refine ok_false (by kernel_rfl) ?_
    refine ok_exit ?_
    refine fin_seq_exit ?_
    refine fin_round_exit ?_
    refine fin_block_exit ?_
    refine fin_seq ?_
    refine ok_seq ?_
    refine ok_region ?_
    refine s_call (k := 96) (args := #[]) (cutV (endC 1)) (by kernel_rfl) (fun _ => by kernel_rfl) (fun w _ => rlast_any w) ?_
    refine s_store_at 0 ⟨b2, #[.int .i64 0, .int .i64 0, .int .i64 0, .int .i64 0, .string ⟨#[]⟩, .string ⟨#[]⟩, .bool false], 48⟩ (off := 0) (cutV (endC 1)) (by kernel_rfl) rfl rfl (by kernel_rfl) (by kernel_rfl) (by kernel_rfl) (by kernel_rfl) (by kernel_rfl) ?_
    refine s_nil ?_
    refine fin_seq ?_
    refine ok_ret ?_
    refine fin_cell 0 ⟨b2, (cutV (endC 1)).cells, 48⟩ (off := 0) (cutV (endC 1)) Tryz.results94 (by kernel_rfl) (by kernel_rfl) (by kernel_rfl) ?_
    exact fun w hO => ⟨by rw [hrel.2.2]; unfold highZ; rw [if_pos (by omega)], hO.below⟩
theorem rcturns_any (c : Co) (W : World) (hc : c.short) : Calls Tryz.prog 97 #[coV c] W fun e w' => e = .returned (.int .i64 ((turnsK c : Nat) : Int)) ∧ Below W.heap.size W w' := by
  refine calls_ok (n := 21) Tryz.func97 rfl (by kernel_rfl) (by kernel_rfl) ?_
  refine ok_seq ?_
  refine ok_region ?_
  refine s_box (coV c) (by kernel_rfl) rfl (by kernel_rfl) (fun b1 => ?_)
  refine s_val (.int .i64 0) (by kernel_rfl) (fun _ => by kernel_rfl) ?_
  refine s_nil ?_
  refine fin_seq ?_
  refine ok_seq ?_
  refine ok_seq ?_
  refine ok_region ?_
  refine s_val (.pointer (some ⟨b1, 2, none⟩)) (by kernel_rfl) (fun _ => by kernel_rfl) ?_
  refine s_val (.pointer (some ⟨b1, 2, none⟩)) (by kernel_rfl) (fun _ => by kernel_rfl) ?_
  refine s_load 0 ⟨b1, (coV c).cells, 26⟩ (off := 2) (.int .i64 c.v.maj) (by kernel_rfl) rfl (by kernel_rfl) (by kernel_rfl) (by kernel_rfl) ?_
  by_cases h1 : (0 : Int) < c.v.maj
  · skip
    refine s_dec (p := (0 : Int) < c.v.maj) true (by kernel_rfl) (fun _ => by kernel_rfl) (decide_eq_true (h1)) ?_
    refine s_val (.bool true) (by kernel_rfl) (fun _ => by kernel_rfl) ?_
    refine s_skip (by kernel_rfl) ?_
    refine s_skip (by kernel_rfl) ?_
    refine s_skip (by kernel_rfl) ?_
    refine s_val (.bool true) (by kernel_rfl) (fun _ => by kernel_rfl) ?_
    refine s_nil ?_
    refine fin_seq ?_
    refine ok_true (by kernel_rfl) ?_
    refine ok_seq ?_
    refine ok_region ?_
    refine s_val (.int .i64 0) (by kernel_rfl) (fun _ => by kernel_rfl) ?_
    refine s_nil ?_
    refine fin_seq ?_
    refine ok_ret ?_
    refine fin_seq_ret ?_
    refine fin_ret (.int .i64 0) Tryz.results97 (by kernel_rfl) ?_
    exact fun w hO => ⟨by rw [show turnsK c = 0 from by unfold turnsK; grind]; rfl, hO.below⟩
  · skip
    refine s_dec (p := (0 : Int) < c.v.maj) false (by kernel_rfl) (fun _ => by kernel_rfl) (decide_eq_false (h1)) ?_
    refine s_val (.bool false) (by kernel_rfl) (fun _ => by kernel_rfl) ?_
    refine s_val (.pointer (some ⟨b1, 1, none⟩)) (by kernel_rfl) (fun _ => by kernel_rfl) ?_
    refine s_load 0 ⟨b1, (coV c).cells, 26⟩ (off := 1) (.int .i64 c.parts) (by kernel_rfl) rfl (by kernel_rfl) (by kernel_rfl) (by kernel_rfl) ?_
    by_cases h2 : (c.parts : Int) = 1
    · skip
      refine s_dec (p := (c.parts : Int) = 1) true (by kernel_rfl) (fun _ => by kernel_rfl) (decide_eq_true (h2)) ?_
      refine s_val (.bool true) (by kernel_rfl) (fun _ => by kernel_rfl) ?_
      refine s_nil ?_
      refine fin_seq ?_
      refine ok_true (by kernel_rfl) ?_
      refine ok_seq ?_
      refine ok_region ?_
      refine s_val (.int .i64 0) (by kernel_rfl) (fun _ => by kernel_rfl) ?_
      refine s_nil ?_
      refine fin_seq ?_
      refine ok_ret ?_
      refine fin_seq_ret ?_
      refine fin_ret (.int .i64 0) Tryz.results97 (by kernel_rfl) ?_
      exact fun w hO => ⟨by rw [show turnsK c = 0 from by unfold turnsK; grind]; rfl, hO.below⟩
    · skip
      refine s_dec (p := (c.parts : Int) = 1) false (by kernel_rfl) (fun _ => by kernel_rfl) (decide_eq_false (h2)) ?_
      refine s_val (.bool false) (by kernel_rfl) (fun _ => by kernel_rfl) ?_
      refine s_nil ?_
      refine fin_seq ?_
      refine ok_false (by kernel_rfl) ?_
      refine ok_skip ?_
      refine fin_seq ?_
      refine ok_seq ?_
      refine ok_seq ?_
      refine ok_region ?_
      refine s_val (.pointer (some ⟨b1, 2, none⟩)) (by kernel_rfl) (fun _ => by kernel_rfl) ?_
      refine s_val (.pointer (some ⟨b1, 3, none⟩)) (by kernel_rfl) (fun _ => by kernel_rfl) ?_
      refine s_load 0 ⟨b1, (coV c).cells, 26⟩ (off := 3) (.int .i64 c.v.min) (by kernel_rfl) rfl (by kernel_rfl) (by kernel_rfl) (by kernel_rfl) ?_
      by_cases h3 : (0 : Int) < c.v.min
      · skip
        refine s_dec (p := (0 : Int) < c.v.min) true (by kernel_rfl) (fun _ => by kernel_rfl) (decide_eq_true (h3)) ?_
        refine s_val (.bool true) (by kernel_rfl) (fun _ => by kernel_rfl) ?_
        refine s_skip (by kernel_rfl) ?_
        refine s_skip (by kernel_rfl) ?_
        refine s_skip (by kernel_rfl) ?_
        refine s_val (.bool true) (by kernel_rfl) (fun _ => by kernel_rfl) ?_
        refine s_nil ?_
        refine fin_seq ?_
        refine ok_true (by kernel_rfl) ?_
        refine ok_seq ?_
        refine ok_region ?_
        refine s_val (.int .i64 1) (by kernel_rfl) (fun _ => by kernel_rfl) ?_
        refine s_nil ?_
        refine fin_seq ?_
        refine ok_ret ?_
        refine fin_seq_ret ?_
        refine fin_ret (.int .i64 1) Tryz.results97 (by kernel_rfl) ?_
        exact fun w hO => ⟨by rw [show turnsK c = 1 from by unfold turnsK; grind]; rfl, hO.below⟩
      · skip
        refine s_dec (p := (0 : Int) < c.v.min) false (by kernel_rfl) (fun _ => by kernel_rfl) (decide_eq_false (h3)) ?_
        refine s_val (.bool false) (by kernel_rfl) (fun _ => by kernel_rfl) ?_
        refine s_val (.pointer (some ⟨b1, 1, none⟩)) (by kernel_rfl) (fun _ => by kernel_rfl) ?_
        refine s_load 0 ⟨b1, (coV c).cells, 26⟩ (off := 1) (.int .i64 c.parts) (by kernel_rfl) rfl (by kernel_rfl) (by kernel_rfl) (by kernel_rfl) ?_
        by_cases h4 : (c.parts : Int) = 2
        · skip
          refine s_dec (p := (c.parts : Int) = 2) true (by kernel_rfl) (fun _ => by kernel_rfl) (decide_eq_true (h4)) ?_
          refine s_val (.bool true) (by kernel_rfl) (fun _ => by kernel_rfl) ?_
          refine s_nil ?_
          refine fin_seq ?_
          refine ok_true (by kernel_rfl) ?_
          refine ok_seq ?_
          refine ok_region ?_
          refine s_val (.int .i64 1) (by kernel_rfl) (fun _ => by kernel_rfl) ?_
          refine s_nil ?_
          refine fin_seq ?_
          refine ok_ret ?_
          refine fin_seq_ret ?_
          refine fin_ret (.int .i64 1) Tryz.results97 (by kernel_rfl) ?_
          exact fun w hO => ⟨by rw [show turnsK c = 1 from by unfold turnsK; grind]; rfl, hO.below⟩
        · skip
          refine s_dec (p := (c.parts : Int) = 2) false (by kernel_rfl) (fun _ => by kernel_rfl) (decide_eq_false (h4)) ?_
          refine s_val (.bool false) (by kernel_rfl) (fun _ => by kernel_rfl) ?_
          refine s_nil ?_
          refine fin_seq ?_
          refine ok_false (by kernel_rfl) ?_
          refine ok_skip ?_
          refine fin_seq ?_
          refine ok_seq ?_
          refine ok_region ?_
          refine s_val (.int .i64 2) (by kernel_rfl) (fun _ => by kernel_rfl) ?_
          refine s_nil ?_
          refine fin_seq ?_
          refine ok_ret ?_
          refine fin_ret (.int .i64 2) Tryz.results97 (by kernel_rfl) ?_
          exact fun w hO => ⟨by rw [show turnsK c = 2 from by unfold turnsK; grind]; rfl, hO.below⟩
set_option maxHeartbeats 4000000 in
theorem rcspan_any (c : Co) (W : World) (hc : c.short) (hm : c.may = true) : Calls Tryz.prog 55 #[coV c] W fun e w' => e = .returned (.tuple #[cutV c.span.1, cutV c.span.2]) ∧ Below W.heap.size W w' := by
  obtain ⟨ho, _, _, h9, hn, _⟩ := Co.facts hm
  refine calls_ok (n := 77) Tryz.func55 rfl (by kernel_rfl) (by kernel_rfl) ?_
  refine ok_seq ?_
  refine ok_region ?_
  refine s_box (coV c) (by kernel_rfl) rfl (by kernel_rfl) (fun b1 => ?_)
  refine s_alloc_at (.agg #[.int .i64 0, .int .i64 0, .int .i64 0, .int .i64 0, .string ⟨#[]⟩, .string ⟨#[]⟩, .bool false]) (by kernel_rfl) rfl (by kernel_rfl) (fun b2 => ?_)
  refine s_alloc_at (.agg #[.int .i64 0, .int .i64 0, .int .i64 0, .int .i64 0, .string ⟨#[]⟩, .string ⟨#[]⟩, .bool false]) (by kernel_rfl) rfl (by kernel_rfl) (fun b3 => ?_)
  refine s_nil ?_
  refine fin_seq ?_
  refine ok_seq ?_
  refine ok_join (fun L f => ∃ (p4 : Nat) (j : Nat → Value), L = [⟨p4, (cutV c.low).cells, 48⟩, ⟨b3, #[.int .i64 0, .int .i64 0, .int .i64 0, .int .i64 0, .string ⟨#[]⟩, .string ⟨#[]⟩, .bool false], 48⟩, ⟨b2, #[.int .i64 0, .int .i64 0, .int .i64 0, .int .i64 0, .string ⟨#[]⟩, .string ⟨#[]⟩, .bool false], 48⟩, ⟨b1, (coV c).cells, 26⟩] ∧ f = upds j [(1, .pointer (some ⟨b1, 0, none⟩)), (2, .pointer (some ⟨b2, 0, none⟩)), (3, .pointer (some ⟨b3, 0, none⟩)), (4, .pointer (some ⟨p4, 0, none⟩)), (5, .int .i64 ((c.parts : Int) - 1))]) ?_ ?_
  · skip
    refine ok_anyh (by kernel_rfl) ?_
    refine h_take 0 [] _ (.pointer (some ⟨b1, 2, none⟩)) rfl (by kernel_rfl) (by kernel_rfl) (by kernel_rfl) pq_join (by kernel_rfl) (fun _ _ => by kernel_rfl) ?_
    refine h_load 1 [] _ 2 ⟨b1, (coV c).cells, 26⟩ (off := 2) (.agg #[.int .i64 c.v.maj, .int .i64 c.v.min, .int .i64 c.v.pat, .string (mkS c.v.pre), .string (mkS c.v.build)]) rfl (by kernel_rfl) (by kernel_rfl) (by kernel_rfl) pq_join (by kernel_rfl) rfl (by kernel_rfl) (by kernel_rfl) (by kernel_rfl) ?_
    refine h_take 3 [] _ (.pointer (some ⟨b1, 1, none⟩)) rfl (by kernel_rfl) (by kernel_rfl) (by kernel_rfl) pq_join (by kernel_rfl) (fun _ _ => by kernel_rfl) ?_
    refine h_load 4 [] _ 2 ⟨b1, (coV c).cells, 26⟩ (off := 1) (.int .i64 c.parts) rfl (by kernel_rfl) (by kernel_rfl) (by kernel_rfl) pq_join (by kernel_rfl) rfl (by kernel_rfl) (by kernel_rfl) (by kernel_rfl) ?_
    refine hl_sum (k := .i64) 5 _ ((c.parts : Int) - 1) rfl (by kernel_rfl) (by kernel_rfl) (by kernel_rfl) pq_join (fun w hO => Own.sub [] hO) (by kernel_rfl) (fun _ => by kernel_rfl) (IntWalk.i64_in _ (by omega)) ?_
    refine h_two 2 6 (by kernel_rfl) ?_ ?_
    · skip
      refine hs_call [] _ (k := 57) (args := #[.agg #[.int .i64 c.v.maj, .int .i64 c.v.min, .int .i64 c.v.pat, .string (mkS c.v.pre), .string (mkS c.v.build)]]) (cutV c.low) rfl (by kernel_rfl) (fun _ => by kernel_rfl) (fun w _ => rbefore_any c.v w hc) ?_
      refine h_one 6 (by kernel_rfl) ?_
      refine hs_alloc [] _ (.agg #[.int .i64 0, .int .i64 0, .int .i64 0, .int .i64 0, .string ⟨#[]⟩, .string ⟨#[]⟩, .bool false]) rfl (by kernel_rfl) rfl (by kernel_rfl) (fun b4 => ?_)
      refine h_one 7 (by kernel_rfl) ?_
      refine hs_store [⟨b4, #[.int .i64 0, .int .i64 0, .int .i64 0, .int .i64 0, .string ⟨#[]⟩, .string ⟨#[]⟩, .bool false], 48⟩] _ 0 ⟨b4, #[.int .i64 0, .int .i64 0, .int .i64 0, .int .i64 0, .string ⟨#[]⟩, .string ⟨#[]⟩, .bool false], 48⟩ (off := 0) (cutV c.low) rfl (by kernel_rfl) rfl rfl (by kernel_rfl) (by kernel_rfl) (by kernel_rfl) (by kernel_rfl) (by kernel_rfl) ?_
      refine h_take 8 [⟨b4, (cutV c.low).cells, 48⟩] _ (.int .i64 ((c.parts : Int) - 1)) rfl (by kernel_rfl) (by kernel_rfl) (by kernel_rfl) pq_join (by kernel_rfl) (fun _ _ => by kernel_rfl) ?_
      refine h_done (by kernel_rfl) ?_
      exact fin_join ⟨b4, _, rfl, upds_self _ ⟨by kernel_rfl, by kernel_rfl, by kernel_rfl, by kernel_rfl, by kernel_rfl, trivial⟩⟩
    · skip
      refine hs_alloc [] _ (.agg #[.int .i64 0, .int .i64 0, .int .i64 0, .int .i64 0, .string ⟨#[]⟩, .string ⟨#[]⟩, .bool false]) rfl (by kernel_rfl) rfl (by kernel_rfl) (fun b4 => ?_)
      refine h_one 2 (by kernel_rfl) ?_
      refine hs_call [⟨b4, #[.int .i64 0, .int .i64 0, .int .i64 0, .int .i64 0, .string ⟨#[]⟩, .string ⟨#[]⟩, .bool false], 48⟩] _ (k := 57) (args := #[.agg #[.int .i64 c.v.maj, .int .i64 c.v.min, .int .i64 c.v.pat, .string (mkS c.v.pre), .string (mkS c.v.build)]]) (cutV c.low) rfl (by kernel_rfl) (fun _ => by kernel_rfl) (fun w _ => rbefore_any c.v w hc) ?_
      refine h_one 7 (by kernel_rfl) ?_
      refine hs_store [⟨b4, #[.int .i64 0, .int .i64 0, .int .i64 0, .int .i64 0, .string ⟨#[]⟩, .string ⟨#[]⟩, .bool false], 48⟩] _ 0 ⟨b4, #[.int .i64 0, .int .i64 0, .int .i64 0, .int .i64 0, .string ⟨#[]⟩, .string ⟨#[]⟩, .bool false], 48⟩ (off := 0) (cutV c.low) rfl (by kernel_rfl) rfl rfl (by kernel_rfl) (by kernel_rfl) (by kernel_rfl) (by kernel_rfl) (by kernel_rfl) ?_
      refine h_take 8 [⟨b4, (cutV c.low).cells, 48⟩] _ (.int .i64 ((c.parts : Int) - 1)) rfl (by kernel_rfl) (by kernel_rfl) (by kernel_rfl) pq_join (by kernel_rfl) (fun _ _ => by kernel_rfl) ?_
      refine h_done (by kernel_rfl) ?_
      exact fin_join ⟨b4, _, rfl, upds_self _ ⟨by kernel_rfl, by kernel_rfl, by kernel_rfl, by kernel_rfl, by kernel_rfl, trivial⟩⟩
  · rintro L f ⟨p4, j, rfl, rfl⟩
    refine fin_seq ?_
    refine ok_seq ?_
    refine ok_region ?_
    refine s_val (.pointer (some ⟨b1, 2, none⟩)) (by kernel_rfl) (fun _ => by kernel_rfl) ?_
    refine s_load 3 ⟨b1, (coV c).cells, 26⟩ (off := 2) (.agg #[.int .i64 c.v.maj, .int .i64 c.v.min, .int .i64 c.v.pat, .string (mkS c.v.pre), .string (mkS c.v.build)]) (by kernel_rfl) rfl (by kernel_rfl) (by kernel_rfl) (by kernel_rfl) ?_
    refine s_call (k := 93) (args := #[.agg #[.int .i64 c.v.maj, .int .i64 c.v.min, .int .i64 c.v.pat, .string (mkS c.v.pre), .string (mkS c.v.build)]]) (cutV ⟨0, coreV c.v, true⟩) (by kernel_rfl) (fun _ => by kernel_rfl) (fun w _ => rbehindC_any c.v w hc) ?_
    refine s_alloc_at (.agg #[.int .i64 0, .int .i64 0, .int .i64 0, .int .i64 0, .string ⟨#[]⟩, .string ⟨#[]⟩, .bool false]) (by kernel_rfl) rfl (by kernel_rfl) (fun b5 => ?_)
    refine s_store_at 0 ⟨b5, #[.int .i64 0, .int .i64 0, .int .i64 0, .int .i64 0, .string ⟨#[]⟩, .string ⟨#[]⟩, .bool false], 48⟩ (off := 0) (cutV ⟨0, coreV c.v, true⟩) (by kernel_rfl) rfl rfl (by kernel_rfl) (by kernel_rfl) (by kernel_rfl) (by kernel_rfl) (by kernel_rfl) ?_
    refine s_take (L' := [⟨b3, #[.int .i64 0, .int .i64 0, .int .i64 0, .int .i64 0, .string ⟨#[]⟩, .string ⟨#[]⟩, .bool false], 48⟩, ⟨b2, #[.int .i64 0, .int .i64 0, .int .i64 0, .int .i64 0, .string ⟨#[]⟩, .string ⟨#[]⟩, .bool false], 48⟩, ⟨b5, (cutV ⟨0, coreV c.v, true⟩).cells, 48⟩, ⟨p4, (cutV c.low).cells, 48⟩, ⟨b1, (coV c).cells, 26⟩]) (fun w hO => hO.perm ((List.perm_append_comm (l₁ := [_, _]) (l₂ := [_, _])).append_right [_])) ?_
    refine s_nil ?_
    refine fin_seq ?_
    refine ok_seq ?_
    refine ok_seq ?_
    refine ok_join (fun L f => ∃ (j : Nat → Value), L = [⟨b3, #[.int .i64 0, .int .i64 0, .int .i64 0, .int .i64 0, .string ⟨#[]⟩, .string ⟨#[]⟩, .bool false], 48⟩, ⟨b2, #[.int .i64 0, .int .i64 0, .int .i64 0, .int .i64 0, .string ⟨#[]⟩, .string ⟨#[]⟩, .bool false], 48⟩, ⟨b5, (cutV ⟨0, coreV c.v, true⟩).cells, 48⟩, ⟨p4, (cutV c.low).cells, 48⟩, ⟨b1, (coV c).cells, 26⟩] ∧ f = upds j [(1, .pointer (some ⟨b1, 0, none⟩)), (2, .pointer (some ⟨b2, 0, none⟩)), (3, .pointer (some ⟨b3, 0, none⟩)), (4, .pointer (some ⟨p4, 0, none⟩)), (5, .int .i64 ((c.parts : Int) - 1)), (6, .pointer (some ⟨b5, 0, none⟩)), (23, .bool (decide (c.parts < 3 ∧ 0 < c.parts)))]) ?_ ?_
    · skip
      refine ok_region ?_
      refine s_val (.pointer (some ⟨b1, 1, none⟩)) (by kernel_rfl) (fun _ => by kernel_rfl) ?_
      refine s_load 4 ⟨b1, (coV c).cells, 26⟩ (off := 1) (.int .i64 c.parts) (by kernel_rfl) rfl (by kernel_rfl) (by kernel_rfl) (by kernel_rfl) ?_
      by_cases h1 : (c.parts : Int) < 3
      · skip
        refine s_dec (p := (c.parts : Int) < 3) true (by kernel_rfl) (fun _ => by kernel_rfl) (decide_eq_true (h1)) ?_
        refine s_val (.bool true) (by kernel_rfl) (fun _ => by kernel_rfl) ?_
        refine s_val (.pointer (some ⟨b1, 1, none⟩)) (by kernel_rfl) (fun _ => by kernel_rfl) ?_
        refine s_load 4 ⟨b1, (coV c).cells, 26⟩ (off := 1) (.int .i64 c.parts) (by kernel_rfl) rfl (by kernel_rfl) (by kernel_rfl) (by kernel_rfl) ?_
        by_cases h2 : (0 : Int) < c.parts
        · skip
          refine s_dec (p := (0 : Int) < c.parts) true (by kernel_rfl) (fun _ => by kernel_rfl) (decide_eq_true (h2)) ?_
          refine s_val (.bool true) (by kernel_rfl) (fun _ => by kernel_rfl) ?_
          refine s_nil ?_
          exact fin_join ⟨_, rfl, by rw [decide_eq_true (show (c.parts < 3 ∧ 0 < c.parts) by omega)]; exact upds_self _ ⟨by kernel_rfl, by kernel_rfl, by kernel_rfl, by kernel_rfl, by kernel_rfl, by kernel_rfl, by kernel_rfl, trivial⟩⟩
        · skip
          refine s_dec (p := (0 : Int) < c.parts) false (by kernel_rfl) (fun _ => by kernel_rfl) (decide_eq_false (h2)) ?_
          refine s_val (.bool false) (by kernel_rfl) (fun _ => by kernel_rfl) ?_
          refine s_nil ?_
          exact fin_join ⟨_, rfl, by rw [decide_eq_false (show ¬ (c.parts < 3 ∧ 0 < c.parts) by omega)]; exact upds_self _ ⟨by kernel_rfl, by kernel_rfl, by kernel_rfl, by kernel_rfl, by kernel_rfl, by kernel_rfl, by kernel_rfl, trivial⟩⟩
      · skip
        refine s_dec (p := (c.parts : Int) < 3) false (by kernel_rfl) (fun _ => by kernel_rfl) (decide_eq_false (h1)) ?_
        refine s_val (.bool false) (by kernel_rfl) (fun _ => by kernel_rfl) ?_
        refine s_skip (by kernel_rfl) ?_
        refine s_skip (by kernel_rfl) ?_
        refine s_skip (by kernel_rfl) ?_
        refine s_val (.bool false) (by kernel_rfl) (fun _ => by kernel_rfl) ?_
        refine s_nil ?_
        exact fin_join ⟨_, rfl, by rw [decide_eq_false (show ¬ (c.parts < 3 ∧ 0 < c.parts) by omega)]; exact upds_self _ ⟨by kernel_rfl, by kernel_rfl, by kernel_rfl, by kernel_rfl, by kernel_rfl, by kernel_rfl, by kernel_rfl, trivial⟩⟩
    · rintro L f ⟨j, rfl, rfl⟩
      refine fin_seq ?_
      refine ok_join (fun L f => ∃ (j : Nat → Value), L = [⟨b3, #[.int .i64 0, .int .i64 0, .int .i64 0, .int .i64 0, .string ⟨#[]⟩, .string ⟨#[]⟩, .bool false], 48⟩, ⟨b2, #[.int .i64 0, .int .i64 0, .int .i64 0, .int .i64 0, .string ⟨#[]⟩, .string ⟨#[]⟩, .bool false], 48⟩, ⟨b5, (cutV c.aft).cells, 48⟩, ⟨p4, (cutV c.low).cells, 48⟩, ⟨b1, (coV c).cells, 26⟩] ∧ f = upds j [(1, .pointer (some ⟨b1, 0, none⟩)), (2, .pointer (some ⟨b2, 0, none⟩)), (3, .pointer (some ⟨b3, 0, none⟩)), (4, .pointer (some ⟨p4, 0, none⟩)), (5, .int .i64 ((c.parts : Int) - 1)), (6, .pointer (some ⟨b5, 0, none⟩))]) ?_ ?_
      · skip
        cases h3 : decide (c.parts < 3 ∧ 0 < c.parts) with
        | true =>
          have hpp := of_decide_eq_true h3
          refine ok_true (by kernel_rfl) ?_
          refine ok_region ?_
          refine s_val (.pointer (some ⟨b1, 2, none⟩)) (by kernel_rfl) (fun _ => by kernel_rfl) ?_
          refine s_load 4 ⟨b1, (coV c).cells, 26⟩ (off := 2) (.agg #[.int .i64 c.v.maj, .int .i64 c.v.min, .int .i64 c.v.pat, .string (mkS c.v.pre), .string (mkS c.v.build)]) (by kernel_rfl) rfl (by kernel_rfl) (by kernel_rfl) (by kernel_rfl) ?_
          refine s_val (.int .i64 ((c.parts : Int) - 1)) (by kernel_rfl) (fun _ => by kernel_rfl) ?_
          refine s_call (k := 94) (args := #[.agg #[.int .i64 c.v.maj, .int .i64 c.v.min, .int .i64 c.v.pat, .string (mkS c.v.pre), .string (mkS c.v.build)], .int .i64 ((c.parts : Int) - 1)]) (cutV (highC c.v (c.parts - 1).toNat)) (by kernel_rfl) (fun _ => by kernel_rfl) (fun w _ => rchigh_any c.v ((c.parts : Int) - 1) (c.parts - 1).toNat w hc (by omega) (by omega)) ?_
          refine s_store_at 2 ⟨b5, (cutV ⟨0, coreV c.v, true⟩).cells, 48⟩ (off := 0) (cutV (highC c.v (c.parts - 1).toNat)) (by kernel_rfl) rfl rfl (by kernel_rfl) (by kernel_rfl) (by kernel_rfl) (by kernel_rfl) (by kernel_rfl) ?_
          refine s_nil ?_
          exact fin_join ⟨_, by rw [show c.aft = _ from if_pos (hpp)]; kernel_rfl, upds_self _ ⟨by kernel_rfl, by kernel_rfl, by kernel_rfl, by kernel_rfl, by kernel_rfl, by kernel_rfl, trivial⟩⟩
        | false =>
          have hpp := of_decide_eq_false h3
          refine ok_false (by kernel_rfl) ?_
          refine ok_skip ?_
          exact fin_join ⟨_, by rw [show c.aft = _ from if_neg (hpp)], upds_self _ ⟨by kernel_rfl, by kernel_rfl, by kernel_rfl, by kernel_rfl, by kernel_rfl, by kernel_rfl, trivial⟩⟩
      · rintro L f ⟨j, rfl, rfl⟩
        refine fin_seq ?_
        refine ok_seq ?_
        refine ok_seq ?_
        refine ok_region ?_
        refine s_val (.pointer (some ⟨b1, 0, none⟩)) (by kernel_rfl) (fun _ => by kernel_rfl) ?_
        refine s_load 4 ⟨b1, (coV c).cells, 26⟩ (off := 0) (.int .i64 c.op) (by kernel_rfl) rfl (by kernel_rfl) (by kernel_rfl) (by kernel_rfl) ?_
        refine s_nil ?_
        refine fin_seq ?_
        refine ok_block ?_
        refine ok_seq ?_
        refine ok_seq ?_
        refine ok_region ?_
        by_cases h4 : (c.op : Int) = 1
        · skip
          refine s_dec (p := (c.op : Int) = 1) true (by kernel_rfl) (fun _ => by kernel_rfl) (decide_eq_true (h4)) ?_
          refine s_val (.bool true) (by kernel_rfl) (fun _ => by kernel_rfl) ?_
          refine s_nil ?_
          refine fin_seq ?_
          refine ok_true (by kernel_rfl) ?_
          refine ok_skip ?_
          refine fin_seq ?_
          refine ok_true (by kernel_rfl) ?_
          refine ok_seq ?_
          refine ok_anyhL ([⟨b5, (cutV c.aft).cells, 48⟩, ⟨p4, (cutV c.low).cells, 48⟩, ⟨b1, (coV c).cells, 26⟩]) (by kernel_rfl) (fun w hO => Own.sub [⟨b3, #[.int .i64 0, .int .i64 0, .int .i64 0, .int .i64 0, .string ⟨#[]⟩, .string ⟨#[]⟩, .bool false], 48⟩, ⟨b2, #[.int .i64 0, .int .i64 0, .int .i64 0, .int .i64 0, .string ⟨#[]⟩, .string ⟨#[]⟩, .bool false], 48⟩] hO) ?_
          refine h_load 0 [⟨b3, #[.int .i64 0, .int .i64 0, .int .i64 0, .int .i64 0, .string ⟨#[]⟩, .string ⟨#[]⟩, .bool false], 48⟩, ⟨b2, #[.int .i64 0, .int .i64 0, .int .i64 0, .int .i64 0, .string ⟨#[]⟩, .string ⟨#[]⟩, .bool false], 48⟩] _ 1 ⟨p4, (cutV c.low).cells, 48⟩ (off := 0) (cutV c.low) rfl (by kernel_rfl) (by kernel_rfl) (by kernel_rfl) (pq_seq (pq_block (pq_seq pq_body))) (by kernel_rfl) rfl (by kernel_rfl) (by kernel_rfl) (by kernel_rfl) ?_
          refine h_load 1 [⟨b3, #[.int .i64 0, .int .i64 0, .int .i64 0, .int .i64 0, .string ⟨#[]⟩, .string ⟨#[]⟩, .bool false], 48⟩, ⟨b2, #[.int .i64 0, .int .i64 0, .int .i64 0, .int .i64 0, .string ⟨#[]⟩, .string ⟨#[]⟩, .bool false], 48⟩] _ 0 ⟨b5, (cutV c.aft).cells, 48⟩ (off := 0) (cutV c.aft) rfl (by kernel_rfl) (by kernel_rfl) (by kernel_rfl) (pq_seq (pq_block (pq_seq pq_body))) (by kernel_rfl) rfl (by kernel_rfl) (by kernel_rfl) (by kernel_rfl) ?_
          refine h_one 2 (by kernel_rfl) ?_
          refine hs_store [⟨b3, #[.int .i64 0, .int .i64 0, .int .i64 0, .int .i64 0, .string ⟨#[]⟩, .string ⟨#[]⟩, .bool false], 48⟩, ⟨b2, #[.int .i64 0, .int .i64 0, .int .i64 0, .int .i64 0, .string ⟨#[]⟩, .string ⟨#[]⟩, .bool false], 48⟩] _ 1 ⟨b2, #[.int .i64 0, .int .i64 0, .int .i64 0, .int .i64 0, .string ⟨#[]⟩, .string ⟨#[]⟩, .bool false], 48⟩ (off := 0) (cutV c.low) rfl (by kernel_rfl) rfl rfl (by kernel_rfl) (by kernel_rfl) (by kernel_rfl) (by kernel_rfl) (by kernel_rfl) ?_
          refine h_one 3 (by kernel_rfl) ?_
          refine hs_store [⟨b3, #[.int .i64 0, .int .i64 0, .int .i64 0, .int .i64 0, .string ⟨#[]⟩, .string ⟨#[]⟩, .bool false], 48⟩, ⟨b2, (cutV c.low).cells, 48⟩] _ 0 ⟨b3, #[.int .i64 0, .int .i64 0, .int .i64 0, .int .i64 0, .string ⟨#[]⟩, .string ⟨#[]⟩, .bool false], 48⟩ (off := 0) (cutV c.aft) rfl (by kernel_rfl) rfl rfl (by kernel_rfl) (by kernel_rfl) (by kernel_rfl) (by kernel_rfl) (by kernel_rfl) ?_
          refine h_done (by kernel_rfl) ?_
          refine fin_seq ?_
          refine ok_ret ?_
          refine fin_block_ret ?_
          refine fin_seq_ret ?_
          refine fin_cc 1 0 ⟨b2, (cutV c.low).cells, 48⟩ ⟨b3, (cutV c.aft).cells, 48⟩ (off := 0) (oft := 0) (cutV c.low) (cutV c.aft) Tryz.results55 (by kernel_rfl) (by kernel_rfl) (by kernel_rfl) (by kernel_rfl) (by kernel_rfl) (by kernel_rfl) ?_
          exact fun w hO => ⟨by rw [show c.span = (c.low, c.aft) from by unfold Co.span; simp [h4]], hO.below⟩
        · skip
          refine s_dec (p := (c.op : Int) = 1) false (by kernel_rfl) (fun _ => by kernel_rfl) (decide_eq_false (h4)) ?_
          refine s_val (.bool false) (by kernel_rfl) (fun _ => by kernel_rfl) ?_
          refine s_nil ?_
          refine fin_seq ?_
          refine ok_false (by kernel_rfl) ?_
          refine ok_region ?_
          by_cases h5 : (c.op : Int) = 2
          · skip
            refine s_dec (p := (c.op : Int) = 2) true (by kernel_rfl) (fun _ => by kernel_rfl) (decide_eq_true (h5)) ?_
            refine s_val (.bool true) (by kernel_rfl) (fun _ => by kernel_rfl) ?_
            refine s_nil ?_
            refine fin_seq ?_
            refine ok_true (by kernel_rfl) ?_
            refine ok_seq ?_
            refine ok_anyhL ([⟨b5, (cutV c.aft).cells, 48⟩, ⟨p4, (cutV c.low).cells, 48⟩, ⟨b1, (coV c).cells, 26⟩]) (by kernel_rfl) (fun w hO => Own.sub [⟨b3, #[.int .i64 0, .int .i64 0, .int .i64 0, .int .i64 0, .string ⟨#[]⟩, .string ⟨#[]⟩, .bool false], 48⟩, ⟨b2, #[.int .i64 0, .int .i64 0, .int .i64 0, .int .i64 0, .string ⟨#[]⟩, .string ⟨#[]⟩, .bool false], 48⟩] hO) ?_
            refine h_load 0 [⟨b3, #[.int .i64 0, .int .i64 0, .int .i64 0, .int .i64 0, .string ⟨#[]⟩, .string ⟨#[]⟩, .bool false], 48⟩, ⟨b2, #[.int .i64 0, .int .i64 0, .int .i64 0, .int .i64 0, .string ⟨#[]⟩, .string ⟨#[]⟩, .bool false], 48⟩] _ 1 ⟨p4, (cutV c.low).cells, 48⟩ (off := 0) (cutV c.low) rfl (by kernel_rfl) (by kernel_rfl) (by kernel_rfl) (pq_seq (pq_block (pq_seq pq_body))) (by kernel_rfl) rfl (by kernel_rfl) (by kernel_rfl) (by kernel_rfl) ?_
            refine h_load 1 [⟨b3, #[.int .i64 0, .int .i64 0, .int .i64 0, .int .i64 0, .string ⟨#[]⟩, .string ⟨#[]⟩, .bool false], 48⟩, ⟨b2, #[.int .i64 0, .int .i64 0, .int .i64 0, .int .i64 0, .string ⟨#[]⟩, .string ⟨#[]⟩, .bool false], 48⟩] _ 0 ⟨b5, (cutV c.aft).cells, 48⟩ (off := 0) (cutV c.aft) rfl (by kernel_rfl) (by kernel_rfl) (by kernel_rfl) (pq_seq (pq_block (pq_seq pq_body))) (by kernel_rfl) rfl (by kernel_rfl) (by kernel_rfl) (by kernel_rfl) ?_
            refine h_one 2 (by kernel_rfl) ?_
            refine hs_store [⟨b3, #[.int .i64 0, .int .i64 0, .int .i64 0, .int .i64 0, .string ⟨#[]⟩, .string ⟨#[]⟩, .bool false], 48⟩, ⟨b2, #[.int .i64 0, .int .i64 0, .int .i64 0, .int .i64 0, .string ⟨#[]⟩, .string ⟨#[]⟩, .bool false], 48⟩] _ 1 ⟨b2, #[.int .i64 0, .int .i64 0, .int .i64 0, .int .i64 0, .string ⟨#[]⟩, .string ⟨#[]⟩, .bool false], 48⟩ (off := 0) (cutV c.low) rfl (by kernel_rfl) rfl rfl (by kernel_rfl) (by kernel_rfl) (by kernel_rfl) (by kernel_rfl) (by kernel_rfl) ?_
            refine h_one 3 (by kernel_rfl) ?_
            refine hs_store [⟨b3, #[.int .i64 0, .int .i64 0, .int .i64 0, .int .i64 0, .string ⟨#[]⟩, .string ⟨#[]⟩, .bool false], 48⟩, ⟨b2, (cutV c.low).cells, 48⟩] _ 0 ⟨b3, #[.int .i64 0, .int .i64 0, .int .i64 0, .int .i64 0, .string ⟨#[]⟩, .string ⟨#[]⟩, .bool false], 48⟩ (off := 0) (cutV c.aft) rfl (by kernel_rfl) rfl rfl (by kernel_rfl) (by kernel_rfl) (by kernel_rfl) (by kernel_rfl) (by kernel_rfl) ?_
            refine h_done (by kernel_rfl) ?_
            refine fin_seq ?_
            refine ok_ret ?_
            refine fin_block_ret ?_
            refine fin_seq_ret ?_
            refine fin_cc 1 0 ⟨b2, (cutV c.low).cells, 48⟩ ⟨b3, (cutV c.aft).cells, 48⟩ (off := 0) (oft := 0) (cutV c.low) (cutV c.aft) Tryz.results55 (by kernel_rfl) (by kernel_rfl) (by kernel_rfl) (by kernel_rfl) (by kernel_rfl) (by kernel_rfl) ?_
            exact fun w hO => ⟨by rw [show c.span = (c.low, c.aft) from by unfold Co.span; simp [h4, h5]], hO.below⟩
          · skip
            refine s_dec (p := (c.op : Int) = 2) false (by kernel_rfl) (fun _ => by kernel_rfl) (decide_eq_false (h5)) ?_
            refine s_val (.bool false) (by kernel_rfl) (fun _ => by kernel_rfl) ?_
            refine s_nil ?_
            refine fin_seq ?_
            refine ok_false (by kernel_rfl) ?_
            refine ok_seq ?_
            refine ok_region ?_
            by_cases h6 : (c.op : Int) = 3
            · skip
              refine s_dec (p := (c.op : Int) = 3) true (by kernel_rfl) (fun _ => by kernel_rfl) (decide_eq_true (h6)) ?_
              refine s_val (.bool true) (by kernel_rfl) (fun _ => by kernel_rfl) ?_
              refine s_nil ?_
              refine fin_seq ?_
              refine ok_true (by kernel_rfl) ?_
              refine ok_seq ?_
              refine ok_anyhL ([⟨b5, (cutV c.aft).cells, 48⟩, ⟨p4, (cutV c.low).cells, 48⟩, ⟨b1, (coV c).cells, 26⟩]) (by kernel_rfl) (fun w hO => Own.sub [⟨b3, #[.int .i64 0, .int .i64 0, .int .i64 0, .int .i64 0, .string ⟨#[]⟩, .string ⟨#[]⟩, .bool false], 48⟩, ⟨b2, #[.int .i64 0, .int .i64 0, .int .i64 0, .int .i64 0, .string ⟨#[]⟩, .string ⟨#[]⟩, .bool false], 48⟩] hO) ?_
              refine h_load 1 [⟨b3, #[.int .i64 0, .int .i64 0, .int .i64 0, .int .i64 0, .string ⟨#[]⟩, .string ⟨#[]⟩, .bool false], 48⟩, ⟨b2, #[.int .i64 0, .int .i64 0, .int .i64 0, .int .i64 0, .string ⟨#[]⟩, .string ⟨#[]⟩, .bool false], 48⟩] _ 1 ⟨p4, (cutV c.low).cells, 48⟩ (off := 0) (cutV c.low) rfl (by kernel_rfl) (by kernel_rfl) (by kernel_rfl) (pq_seq (pq_block (pq_seq pq_body))) (by kernel_rfl) rfl (by kernel_rfl) (by kernel_rfl) (by kernel_rfl) ?_
              refine h_one 0 (by kernel_rfl) ?_
              refine hs_call [⟨b3, #[.int .i64 0, .int .i64 0, .int .i64 0, .int .i64 0, .string ⟨#[]⟩, .string ⟨#[]⟩, .bool false], 48⟩, ⟨b2, #[.int .i64 0, .int .i64 0, .int .i64 0, .int .i64 0, .string ⟨#[]⟩, .string ⟨#[]⟩, .bool false], 48⟩] _ (k := 95) (args := #[]) (cutV (endC (-1))) rfl (by kernel_rfl) (fun _ => by kernel_rfl) (fun w _ => rfirst_any w) ?_
              refine h_one 2 (by kernel_rfl) ?_
              refine hs_store [⟨b3, #[.int .i64 0, .int .i64 0, .int .i64 0, .int .i64 0, .string ⟨#[]⟩, .string ⟨#[]⟩, .bool false], 48⟩, ⟨b2, #[.int .i64 0, .int .i64 0, .int .i64 0, .int .i64 0, .string ⟨#[]⟩, .string ⟨#[]⟩, .bool false], 48⟩] _ 1 ⟨b2, #[.int .i64 0, .int .i64 0, .int .i64 0, .int .i64 0, .string ⟨#[]⟩, .string ⟨#[]⟩, .bool false], 48⟩ (off := 0) (cutV (endC (-1))) rfl (by kernel_rfl) rfl rfl (by kernel_rfl) (by kernel_rfl) (by kernel_rfl) (by kernel_rfl) (by kernel_rfl) ?_
              refine h_one 3 (by kernel_rfl) ?_
              refine hs_store [⟨b3, #[.int .i64 0, .int .i64 0, .int .i64 0, .int .i64 0, .string ⟨#[]⟩, .string ⟨#[]⟩, .bool false], 48⟩, ⟨b2, (cutV (endC (-1))).cells, 48⟩] _ 0 ⟨b3, #[.int .i64 0, .int .i64 0, .int .i64 0, .int .i64 0, .string ⟨#[]⟩, .string ⟨#[]⟩, .bool false], 48⟩ (off := 0) (cutV c.low) rfl (by kernel_rfl) rfl rfl (by kernel_rfl) (by kernel_rfl) (by kernel_rfl) (by kernel_rfl) (by kernel_rfl) ?_
              refine h_done (by kernel_rfl) ?_
              refine fin_seq ?_
              refine ok_ret ?_
              refine fin_block_ret ?_
              refine fin_seq_ret ?_
              refine fin_cc 1 0 ⟨b2, (cutV (endC (-1))).cells, 48⟩ ⟨b3, (cutV c.low).cells, 48⟩ (off := 0) (oft := 0) (cutV (endC (-1))) (cutV c.low) Tryz.results55 (by kernel_rfl) (by kernel_rfl) (by kernel_rfl) (by kernel_rfl) (by kernel_rfl) (by kernel_rfl) ?_
              exact fun w hO => ⟨by rw [show c.span = ((endC (-1)), c.low) from by unfold Co.span; simp [h4, h5, h6]], hO.below⟩
            · skip
              refine s_dec (p := (c.op : Int) = 3) false (by kernel_rfl) (fun _ => by kernel_rfl) (decide_eq_false (h6)) ?_
              refine s_val (.bool false) (by kernel_rfl) (fun _ => by kernel_rfl) ?_
              refine s_nil ?_
              refine fin_seq ?_
              refine ok_false (by kernel_rfl) ?_
              refine ok_seq ?_
              refine ok_region ?_
              by_cases h7 : (c.op : Int) = 4
              · skip
                refine s_dec (p := (c.op : Int) = 4) true (by kernel_rfl) (fun _ => by kernel_rfl) (decide_eq_true (h7)) ?_
                refine s_val (.bool true) (by kernel_rfl) (fun _ => by kernel_rfl) ?_
                refine s_nil ?_
                refine fin_seq ?_
                refine ok_true (by kernel_rfl) ?_
                refine ok_seq ?_
                refine ok_anyhL ([⟨b5, (cutV c.aft).cells, 48⟩, ⟨p4, (cutV c.low).cells, 48⟩, ⟨b1, (coV c).cells, 26⟩]) (by kernel_rfl) (fun w hO => Own.sub [⟨b3, #[.int .i64 0, .int .i64 0, .int .i64 0, .int .i64 0, .string ⟨#[]⟩, .string ⟨#[]⟩, .bool false], 48⟩, ⟨b2, #[.int .i64 0, .int .i64 0, .int .i64 0, .int .i64 0, .string ⟨#[]⟩, .string ⟨#[]⟩, .bool false], 48⟩] hO) ?_
                refine h_load 1 [⟨b3, #[.int .i64 0, .int .i64 0, .int .i64 0, .int .i64 0, .string ⟨#[]⟩, .string ⟨#[]⟩, .bool false], 48⟩, ⟨b2, #[.int .i64 0, .int .i64 0, .int .i64 0, .int .i64 0, .string ⟨#[]⟩, .string ⟨#[]⟩, .bool false], 48⟩] _ 0 ⟨b5, (cutV c.aft).cells, 48⟩ (off := 0) (cutV c.aft) rfl (by kernel_rfl) (by kernel_rfl) (by kernel_rfl) (pq_seq (pq_block (pq_seq pq_body))) (by kernel_rfl) rfl (by kernel_rfl) (by kernel_rfl) (by kernel_rfl) ?_
                refine h_one 0 (by kernel_rfl) ?_
                refine hs_call [⟨b3, #[.int .i64 0, .int .i64 0, .int .i64 0, .int .i64 0, .string ⟨#[]⟩, .string ⟨#[]⟩, .bool false], 48⟩, ⟨b2, #[.int .i64 0, .int .i64 0, .int .i64 0, .int .i64 0, .string ⟨#[]⟩, .string ⟨#[]⟩, .bool false], 48⟩] _ (k := 95) (args := #[]) (cutV (endC (-1))) rfl (by kernel_rfl) (fun _ => by kernel_rfl) (fun w _ => rfirst_any w) ?_
                refine h_one 2 (by kernel_rfl) ?_
                refine hs_store [⟨b3, #[.int .i64 0, .int .i64 0, .int .i64 0, .int .i64 0, .string ⟨#[]⟩, .string ⟨#[]⟩, .bool false], 48⟩, ⟨b2, #[.int .i64 0, .int .i64 0, .int .i64 0, .int .i64 0, .string ⟨#[]⟩, .string ⟨#[]⟩, .bool false], 48⟩] _ 1 ⟨b2, #[.int .i64 0, .int .i64 0, .int .i64 0, .int .i64 0, .string ⟨#[]⟩, .string ⟨#[]⟩, .bool false], 48⟩ (off := 0) (cutV (endC (-1))) rfl (by kernel_rfl) rfl rfl (by kernel_rfl) (by kernel_rfl) (by kernel_rfl) (by kernel_rfl) (by kernel_rfl) ?_
                refine h_one 3 (by kernel_rfl) ?_
                refine hs_store [⟨b3, #[.int .i64 0, .int .i64 0, .int .i64 0, .int .i64 0, .string ⟨#[]⟩, .string ⟨#[]⟩, .bool false], 48⟩, ⟨b2, (cutV (endC (-1))).cells, 48⟩] _ 0 ⟨b3, #[.int .i64 0, .int .i64 0, .int .i64 0, .int .i64 0, .string ⟨#[]⟩, .string ⟨#[]⟩, .bool false], 48⟩ (off := 0) (cutV c.aft) rfl (by kernel_rfl) rfl rfl (by kernel_rfl) (by kernel_rfl) (by kernel_rfl) (by kernel_rfl) (by kernel_rfl) ?_
                refine h_done (by kernel_rfl) ?_
                refine fin_seq ?_
                refine ok_ret ?_
                refine fin_block_ret ?_
                refine fin_seq_ret ?_
                refine fin_cc 1 0 ⟨b2, (cutV (endC (-1))).cells, 48⟩ ⟨b3, (cutV c.aft).cells, 48⟩ (off := 0) (oft := 0) (cutV (endC (-1))) (cutV c.aft) Tryz.results55 (by kernel_rfl) (by kernel_rfl) (by kernel_rfl) (by kernel_rfl) (by kernel_rfl) (by kernel_rfl) ?_
                exact fun w hO => ⟨by rw [show c.span = ((endC (-1)), c.aft) from by unfold Co.span; simp [h4, h5, h6, h7]], hO.below⟩
              · skip
                refine s_dec (p := (c.op : Int) = 4) false (by kernel_rfl) (fun _ => by kernel_rfl) (decide_eq_false (h7)) ?_
                refine s_val (.bool false) (by kernel_rfl) (fun _ => by kernel_rfl) ?_
                refine s_nil ?_
                refine fin_seq ?_
                refine ok_false (by kernel_rfl) ?_
                refine ok_seq ?_
                refine ok_region ?_
                by_cases h8 : (c.op : Int) = 5
                · skip
                  refine s_dec (p := (c.op : Int) = 5) true (by kernel_rfl) (fun _ => by kernel_rfl) (decide_eq_true (h8)) ?_
                  refine s_val (.bool true) (by kernel_rfl) (fun _ => by kernel_rfl) ?_
                  refine s_nil ?_
                  refine fin_seq ?_
                  refine ok_true (by kernel_rfl) ?_
                  refine ok_seq ?_
                  refine ok_drawt 2 (by kernel_rfl) (by kernel_rfl) (by kernel_rfl) ?_
                  simp only [List.take_succ_cons, List.take_zero, List.drop_succ_cons, List.drop_zero]
                  refine q_load 2 ⟨b5, (cutV c.aft).cells, 48⟩ (off := 0) (cutV c.aft) (by kernel_rfl) rfl (by kernel_rfl) (by kernel_rfl) (by kernel_rfl) ?_
                  refine q_call (k := 96) (args := #[]) (cutV (endC 1)) (by kernel_rfl) (fun _ => by kernel_rfl) (fun w _ => rlast_any w) ?_
                  refine q_nil ?_
                  refine s_store_at 1 ⟨b2, #[.int .i64 0, .int .i64 0, .int .i64 0, .int .i64 0, .string ⟨#[]⟩, .string ⟨#[]⟩, .bool false], 48⟩ (off := 0) (cutV c.aft) (by kernel_rfl) rfl rfl (by kernel_rfl) (by kernel_rfl) (by kernel_rfl) (by kernel_rfl) (by kernel_rfl) ?_
                  refine s_store_at 0 ⟨b3, #[.int .i64 0, .int .i64 0, .int .i64 0, .int .i64 0, .string ⟨#[]⟩, .string ⟨#[]⟩, .bool false], 48⟩ (off := 0) (cutV (endC 1)) (by kernel_rfl) rfl rfl (by kernel_rfl) (by kernel_rfl) (by kernel_rfl) (by kernel_rfl) (by kernel_rfl) ?_
                  refine s_nil ?_
                  refine fin_seq ?_
                  refine ok_ret ?_
                  refine fin_block_ret ?_
                  refine fin_seq_ret ?_
                  refine fin_cc 1 0 ⟨b2, (cutV c.aft).cells, 48⟩ ⟨b3, (cutV (endC 1)).cells, 48⟩ (off := 0) (oft := 0) (cutV c.aft) (cutV (endC 1)) Tryz.results55 (by kernel_rfl) (by kernel_rfl) (by kernel_rfl) (by kernel_rfl) (by kernel_rfl) (by kernel_rfl) ?_
                  exact fun w hO => ⟨by rw [show c.span = (c.aft, (endC 1)) from by unfold Co.span; simp [h4, h5, h6, h7, h8]], hO.below⟩
                · skip
                  refine s_dec (p := (c.op : Int) = 5) false (by kernel_rfl) (fun _ => by kernel_rfl) (decide_eq_false (h8)) ?_
                  refine s_val (.bool false) (by kernel_rfl) (fun _ => by kernel_rfl) ?_
                  refine s_nil ?_
                  refine fin_seq ?_
                  refine ok_false (by kernel_rfl) ?_
                  refine ok_seq ?_
                  refine ok_region ?_
                  by_cases h9 : (c.op : Int) = 6
                  · skip
                    refine s_dec (p := (c.op : Int) = 6) true (by kernel_rfl) (fun _ => by kernel_rfl) (decide_eq_true (h9)) ?_
                    refine s_val (.bool true) (by kernel_rfl) (fun _ => by kernel_rfl) ?_
                    refine s_nil ?_
                    refine fin_seq ?_
                    refine ok_true (by kernel_rfl) ?_
                    refine ok_seq ?_
                    refine ok_drawt 2 (by kernel_rfl) (by kernel_rfl) (by kernel_rfl) ?_
                    simp only [List.take_succ_cons, List.take_zero, List.drop_succ_cons, List.drop_zero]
                    refine q_load 3 ⟨p4, (cutV c.low).cells, 48⟩ (off := 0) (cutV c.low) (by kernel_rfl) rfl (by kernel_rfl) (by kernel_rfl) (by kernel_rfl) ?_
                    refine q_call (k := 96) (args := #[]) (cutV (endC 1)) (by kernel_rfl) (fun _ => by kernel_rfl) (fun w _ => rlast_any w) ?_
                    refine q_nil ?_
                    refine s_store_at 1 ⟨b2, #[.int .i64 0, .int .i64 0, .int .i64 0, .int .i64 0, .string ⟨#[]⟩, .string ⟨#[]⟩, .bool false], 48⟩ (off := 0) (cutV c.low) (by kernel_rfl) rfl rfl (by kernel_rfl) (by kernel_rfl) (by kernel_rfl) (by kernel_rfl) (by kernel_rfl) ?_
                    refine s_store_at 0 ⟨b3, #[.int .i64 0, .int .i64 0, .int .i64 0, .int .i64 0, .string ⟨#[]⟩, .string ⟨#[]⟩, .bool false], 48⟩ (off := 0) (cutV (endC 1)) (by kernel_rfl) rfl rfl (by kernel_rfl) (by kernel_rfl) (by kernel_rfl) (by kernel_rfl) (by kernel_rfl) ?_
                    refine s_nil ?_
                    refine fin_seq ?_
                    refine ok_ret ?_
                    refine fin_block_ret ?_
                    refine fin_seq_ret ?_
                    refine fin_cc 1 0 ⟨b2, (cutV c.low).cells, 48⟩ ⟨b3, (cutV (endC 1)).cells, 48⟩ (off := 0) (oft := 0) (cutV c.low) (cutV (endC 1)) Tryz.results55 (by kernel_rfl) (by kernel_rfl) (by kernel_rfl) (by kernel_rfl) (by kernel_rfl) (by kernel_rfl) ?_
                    exact fun w hO => ⟨by rw [show c.span = (c.low, (endC 1)) from by unfold Co.span; simp [h4, h5, h6, h7, h8, h9]], hO.below⟩
                  · skip
                    refine s_dec (p := (c.op : Int) = 6) false (by kernel_rfl) (fun _ => by kernel_rfl) (decide_eq_false (h9)) ?_
                    refine s_val (.bool false) (by kernel_rfl) (fun _ => by kernel_rfl) ?_
                    refine s_nil ?_
                    refine fin_seq ?_
                    refine ok_false (by kernel_rfl) ?_
                    refine ok_seq ?_
                    refine ok_region ?_
                    by_cases h10 : (c.op : Int) = 7
                    · skip
                      refine s_dec (p := (c.op : Int) = 7) true (by kernel_rfl) (fun _ => by kernel_rfl) (decide_eq_true (h10)) ?_
                      refine s_val (.bool true) (by kernel_rfl) (fun _ => by kernel_rfl) ?_
                      refine s_nil ?_
                      refine fin_seq ?_
                      refine ok_true (by kernel_rfl) ?_
                      refine ok_seq ?_
                      refine ok_anyhL ([⟨b5, (cutV c.aft).cells, 48⟩, ⟨p4, (cutV c.low).cells, 48⟩, ⟨b1, (coV c).cells, 26⟩]) (by kernel_rfl) (fun w hO => Own.sub [⟨b3, #[.int .i64 0, .int .i64 0, .int .i64 0, .int .i64 0, .string ⟨#[]⟩, .string ⟨#[]⟩, .bool false], 48⟩, ⟨b2, #[.int .i64 0, .int .i64 0, .int .i64 0, .int .i64 0, .string ⟨#[]⟩, .string ⟨#[]⟩, .bool false], 48⟩] hO) ?_
                      refine h_load 0 [⟨b3, #[.int .i64 0, .int .i64 0, .int .i64 0, .int .i64 0, .string ⟨#[]⟩, .string ⟨#[]⟩, .bool false], 48⟩, ⟨b2, #[.int .i64 0, .int .i64 0, .int .i64 0, .int .i64 0, .string ⟨#[]⟩, .string ⟨#[]⟩, .bool false], 48⟩] _ 1 ⟨p4, (cutV c.low).cells, 48⟩ (off := 0) (cutV c.low) rfl (by kernel_rfl) (by kernel_rfl) (by kernel_rfl) (pq_seq (pq_block (pq_seq pq_body))) (by kernel_rfl) rfl (by kernel_rfl) (by kernel_rfl) (by kernel_rfl) ?_
                      refine h_take 1 [⟨b3, #[.int .i64 0, .int .i64 0, .int .i64 0, .int .i64 0, .string ⟨#[]⟩, .string ⟨#[]⟩, .bool false], 48⟩, ⟨b2, #[.int .i64 0, .int .i64 0, .int .i64 0, .int .i64 0, .string ⟨#[]⟩, .string ⟨#[]⟩, .bool false], 48⟩] _ (.pointer (some ⟨b1, 2, none⟩)) rfl (by kernel_rfl) (by kernel_rfl) (by kernel_rfl) (pq_seq (pq_block (pq_seq pq_body))) (by kernel_rfl) (fun _ _ => by kernel_rfl) ?_
                      refine h_load 2 [⟨b3, #[.int .i64 0, .int .i64 0, .int .i64 0, .int .i64 0, .string ⟨#[]⟩, .string ⟨#[]⟩, .bool false], 48⟩, ⟨b2, #[.int .i64 0, .int .i64 0, .int .i64 0, .int .i64 0, .string ⟨#[]⟩, .string ⟨#[]⟩, .bool false], 48⟩] _ 2 ⟨b1, (coV c).cells, 26⟩ (off := 2) (.agg #[.int .i64 c.v.maj, .int .i64 c.v.min, .int .i64 c.v.pat, .string (mkS c.v.pre), .string (mkS c.v.build)]) rfl (by kernel_rfl) (by kernel_rfl) (by kernel_rfl) (pq_seq (pq_block (pq_seq pq_body))) (by kernel_rfl) rfl (by kernel_rfl) (by kernel_rfl) (by kernel_rfl) ?_
                      refine h_load 3 [⟨b3, #[.int .i64 0, .int .i64 0, .int .i64 0, .int .i64 0, .string ⟨#[]⟩, .string ⟨#[]⟩, .bool false], 48⟩, ⟨b2, #[.int .i64 0, .int .i64 0, .int .i64 0, .int .i64 0, .string ⟨#[]⟩, .string ⟨#[]⟩, .bool false], 48⟩] _ 2 ⟨b1, (coV c).cells, 26⟩ (off := 0) (coV c) rfl (by kernel_rfl) (by kernel_rfl) (by kernel_rfl) (pq_seq (pq_block (pq_seq pq_body))) (by kernel_rfl) rfl (by kernel_rfl) (by kernel_rfl) (by kernel_rfl) ?_
                      refine h_one 4 (by kernel_rfl) ?_
                      refine hs_call [⟨b3, #[.int .i64 0, .int .i64 0, .int .i64 0, .int .i64 0, .string ⟨#[]⟩, .string ⟨#[]⟩, .bool false], 48⟩, ⟨b2, #[.int .i64 0, .int .i64 0, .int .i64 0, .int .i64 0, .string ⟨#[]⟩, .string ⟨#[]⟩, .bool false], 48⟩] _ (k := 97) (args := #[coV c]) (.int .i64 ((turnsK c : Nat) : Int)) rfl (by kernel_rfl) (fun _ => by kernel_rfl) (fun w _ => rcturns_any c w hc) ?_
                      refine h_one 5 (by kernel_rfl) ?_
                      refine hs_call [⟨b3, #[.int .i64 0, .int .i64 0, .int .i64 0, .int .i64 0, .string ⟨#[]⟩, .string ⟨#[]⟩, .bool false], 48⟩, ⟨b2, #[.int .i64 0, .int .i64 0, .int .i64 0, .int .i64 0, .string ⟨#[]⟩, .string ⟨#[]⟩, .bool false], 48⟩] _ (k := 94) (args := #[.agg #[.int .i64 c.v.maj, .int .i64 c.v.min, .int .i64 c.v.pat, .string (mkS c.v.pre), .string (mkS c.v.build)], .int .i64 ((turnsK c : Nat) : Int)]) (cutV (highC c.v (turnsK c))) rfl (by kernel_rfl) (fun _ => by kernel_rfl) (fun w _ => rchigh_any c.v (((turnsK c : Nat) : Int)) (turnsK c) w hc (by omega) (turns_lt c)) ?_
                      refine h_one 6 (by kernel_rfl) ?_
                      refine hs_store [⟨b3, #[.int .i64 0, .int .i64 0, .int .i64 0, .int .i64 0, .string ⟨#[]⟩, .string ⟨#[]⟩, .bool false], 48⟩, ⟨b2, #[.int .i64 0, .int .i64 0, .int .i64 0, .int .i64 0, .string ⟨#[]⟩, .string ⟨#[]⟩, .bool false], 48⟩] _ 1 ⟨b2, #[.int .i64 0, .int .i64 0, .int .i64 0, .int .i64 0, .string ⟨#[]⟩, .string ⟨#[]⟩, .bool false], 48⟩ (off := 0) (cutV c.low) rfl (by kernel_rfl) rfl rfl (by kernel_rfl) (by kernel_rfl) (by kernel_rfl) (by kernel_rfl) (by kernel_rfl) ?_
                      refine h_one 7 (by kernel_rfl) ?_
                      refine hs_store [⟨b3, #[.int .i64 0, .int .i64 0, .int .i64 0, .int .i64 0, .string ⟨#[]⟩, .string ⟨#[]⟩, .bool false], 48⟩, ⟨b2, (cutV c.low).cells, 48⟩] _ 0 ⟨b3, #[.int .i64 0, .int .i64 0, .int .i64 0, .int .i64 0, .string ⟨#[]⟩, .string ⟨#[]⟩, .bool false], 48⟩ (off := 0) (cutV (highC c.v (turnsK c))) rfl (by kernel_rfl) rfl rfl (by kernel_rfl) (by kernel_rfl) (by kernel_rfl) (by kernel_rfl) (by kernel_rfl) ?_
                      refine h_done (by kernel_rfl) ?_
                      refine fin_seq ?_
                      refine ok_ret ?_
                      refine fin_block_ret ?_
                      refine fin_seq_ret ?_
                      refine fin_cc 1 0 ⟨b2, (cutV c.low).cells, 48⟩ ⟨b3, (cutV (highC c.v (turnsK c))).cells, 48⟩ (off := 0) (oft := 0) (cutV c.low) (cutV (highC c.v (turnsK c))) Tryz.results55 (by kernel_rfl) (by kernel_rfl) (by kernel_rfl) (by kernel_rfl) (by kernel_rfl) (by kernel_rfl) ?_
                      exact fun w hO => ⟨by rw [show c.span = (c.low, (highC c.v (turnsK c))) from by unfold Co.span; simp [h4, h5, h6, h7, h8, h9, h10]], hO.below⟩
                    · skip
                      refine s_dec (p := (c.op : Int) = 7) false (by kernel_rfl) (fun _ => by kernel_rfl) (decide_eq_false (h10)) ?_
                      refine s_val (.bool false) (by kernel_rfl) (fun _ => by kernel_rfl) ?_
                      refine s_nil ?_
                      refine fin_seq ?_
                      refine ok_false (by kernel_rfl) ?_
                      refine ok_seq ?_
                      refine ok_region ?_
                      by_cases h11 : (c.op : Int) = 8
                      · skip
                        refine s_dec (p := (c.op : Int) = 8) true (by kernel_rfl) (fun _ => by kernel_rfl) (decide_eq_true (h11)) ?_
                        refine s_val (.bool true) (by kernel_rfl) (fun _ => by kernel_rfl) ?_
                        refine s_nil ?_
                        refine fin_seq ?_
                        refine ok_true (by kernel_rfl) ?_
                        refine ok_seq ?_
                        refine ok_anyhL ([⟨b5, (cutV c.aft).cells, 48⟩, ⟨p4, (cutV c.low).cells, 48⟩, ⟨b1, (coV c).cells, 26⟩]) (by kernel_rfl) (fun w hO => Own.sub [⟨b3, #[.int .i64 0, .int .i64 0, .int .i64 0, .int .i64 0, .string ⟨#[]⟩, .string ⟨#[]⟩, .bool false], 48⟩, ⟨b2, #[.int .i64 0, .int .i64 0, .int .i64 0, .int .i64 0, .string ⟨#[]⟩, .string ⟨#[]⟩, .bool false], 48⟩] hO) ?_
                        refine h_load 0 [⟨b3, #[.int .i64 0, .int .i64 0, .int .i64 0, .int .i64 0, .string ⟨#[]⟩, .string ⟨#[]⟩, .bool false], 48⟩, ⟨b2, #[.int .i64 0, .int .i64 0, .int .i64 0, .int .i64 0, .string ⟨#[]⟩, .string ⟨#[]⟩, .bool false], 48⟩] _ 1 ⟨p4, (cutV c.low).cells, 48⟩ (off := 0) (cutV c.low) rfl (by kernel_rfl) (by kernel_rfl) (by kernel_rfl) (pq_seq (pq_block (pq_seq pq_body))) (by kernel_rfl) rfl (by kernel_rfl) (by kernel_rfl) (by kernel_rfl) ?_
                        refine h_take 1 [⟨b3, #[.int .i64 0, .int .i64 0, .int .i64 0, .int .i64 0, .string ⟨#[]⟩, .string ⟨#[]⟩, .bool false], 48⟩, ⟨b2, #[.int .i64 0, .int .i64 0, .int .i64 0, .int .i64 0, .string ⟨#[]⟩, .string ⟨#[]⟩, .bool false], 48⟩] _ (.pointer (some ⟨b1, 2, none⟩)) rfl (by kernel_rfl) (by kernel_rfl) (by kernel_rfl) (pq_seq (pq_block (pq_seq pq_body))) (by kernel_rfl) (fun _ _ => by kernel_rfl) ?_
                        refine h_load 2 [⟨b3, #[.int .i64 0, .int .i64 0, .int .i64 0, .int .i64 0, .string ⟨#[]⟩, .string ⟨#[]⟩, .bool false], 48⟩, ⟨b2, #[.int .i64 0, .int .i64 0, .int .i64 0, .int .i64 0, .string ⟨#[]⟩, .string ⟨#[]⟩, .bool false], 48⟩] _ 2 ⟨b1, (coV c).cells, 26⟩ (off := 2) (.agg #[.int .i64 c.v.maj, .int .i64 c.v.min, .int .i64 c.v.pat, .string (mkS c.v.pre), .string (mkS c.v.build)]) rfl (by kernel_rfl) (by kernel_rfl) (by kernel_rfl) (pq_seq (pq_block (pq_seq pq_body))) (by kernel_rfl) rfl (by kernel_rfl) (by kernel_rfl) (by kernel_rfl) ?_
                        refine h_take 3 [⟨b3, #[.int .i64 0, .int .i64 0, .int .i64 0, .int .i64 0, .string ⟨#[]⟩, .string ⟨#[]⟩, .bool false], 48⟩, ⟨b2, #[.int .i64 0, .int .i64 0, .int .i64 0, .int .i64 0, .string ⟨#[]⟩, .string ⟨#[]⟩, .bool false], 48⟩] _ (.int .i64 ((c.parts : Int) - 1)) rfl (by kernel_rfl) (by kernel_rfl) (by kernel_rfl) (pq_seq (pq_block (pq_seq pq_body))) (by kernel_rfl) (fun _ _ => by kernel_rfl) ?_
                        refine h_take 4 [⟨b3, #[.int .i64 0, .int .i64 0, .int .i64 0, .int .i64 0, .string ⟨#[]⟩, .string ⟨#[]⟩, .bool false], 48⟩, ⟨b2, #[.int .i64 0, .int .i64 0, .int .i64 0, .int .i64 0, .string ⟨#[]⟩, .string ⟨#[]⟩, .bool false], 48⟩] _ (.int .i64 (min ((c.parts : Int) - 1) (1 : Int))) rfl (by kernel_rfl) (by kernel_rfl) (by kernel_rfl) (pq_seq (pq_block (pq_seq pq_body))) (by kernel_rfl) (fun w _ => run_min2 (k := .i64) (q := .i64) (i := (c.parts : Int) - 1) (j := 1) rfl (by kernel_rfl) (by kernel_rfl) w) ?_
                        refine h_one 5 (by kernel_rfl) ?_
                        refine hs_call [⟨b3, #[.int .i64 0, .int .i64 0, .int .i64 0, .int .i64 0, .string ⟨#[]⟩, .string ⟨#[]⟩, .bool false], 48⟩, ⟨b2, #[.int .i64 0, .int .i64 0, .int .i64 0, .int .i64 0, .string ⟨#[]⟩, .string ⟨#[]⟩, .bool false], 48⟩] _ (k := 94) (args := #[.agg #[.int .i64 c.v.maj, .int .i64 c.v.min, .int .i64 c.v.pat, .string (mkS c.v.pre), .string (mkS c.v.build)], .int .i64 (min ((c.parts : Int) - 1) (1 : Int))]) (cutV (highC c.v (min (c.parts - 1) 1).toNat)) rfl (by kernel_rfl) (fun _ => by kernel_rfl) (fun w _ => rchigh_any c.v (min ((c.parts : Int) - 1) (1 : Int)) (min (c.parts - 1) 1).toNat w hc (by omega) (by omega)) ?_
                        refine h_one 6 (by kernel_rfl) ?_
                        refine hs_store [⟨b3, #[.int .i64 0, .int .i64 0, .int .i64 0, .int .i64 0, .string ⟨#[]⟩, .string ⟨#[]⟩, .bool false], 48⟩, ⟨b2, #[.int .i64 0, .int .i64 0, .int .i64 0, .int .i64 0, .string ⟨#[]⟩, .string ⟨#[]⟩, .bool false], 48⟩] _ 1 ⟨b2, #[.int .i64 0, .int .i64 0, .int .i64 0, .int .i64 0, .string ⟨#[]⟩, .string ⟨#[]⟩, .bool false], 48⟩ (off := 0) (cutV c.low) rfl (by kernel_rfl) rfl rfl (by kernel_rfl) (by kernel_rfl) (by kernel_rfl) (by kernel_rfl) (by kernel_rfl) ?_
                        refine h_one 7 (by kernel_rfl) ?_
                        refine hs_store [⟨b3, #[.int .i64 0, .int .i64 0, .int .i64 0, .int .i64 0, .string ⟨#[]⟩, .string ⟨#[]⟩, .bool false], 48⟩, ⟨b2, (cutV c.low).cells, 48⟩] _ 0 ⟨b3, #[.int .i64 0, .int .i64 0, .int .i64 0, .int .i64 0, .string ⟨#[]⟩, .string ⟨#[]⟩, .bool false], 48⟩ (off := 0) (cutV (highC c.v (min (c.parts - 1) 1).toNat)) rfl (by kernel_rfl) rfl rfl (by kernel_rfl) (by kernel_rfl) (by kernel_rfl) (by kernel_rfl) (by kernel_rfl) ?_
                        refine h_done (by kernel_rfl) ?_
                        refine fin_seq ?_
                        refine ok_ret ?_
                        refine fin_block_ret ?_
                        refine fin_seq_ret ?_
                        refine fin_cc 1 0 ⟨b2, (cutV c.low).cells, 48⟩ ⟨b3, (cutV (highC c.v (min (c.parts - 1) 1).toNat)).cells, 48⟩ (off := 0) (oft := 0) (cutV c.low) (cutV (highC c.v (min (c.parts - 1) 1).toNat)) Tryz.results55 (by kernel_rfl) (by kernel_rfl) (by kernel_rfl) (by kernel_rfl) (by kernel_rfl) (by kernel_rfl) ?_
                        exact fun w hO => ⟨by rw [show c.span = (c.low, (highC c.v (min (c.parts - 1) 1).toNat)) from by unfold Co.span; simp [h4, h5, h6, h7, h8, h9, h10, h11]], hO.below⟩
                      · skip
                        refine s_dec (p := (c.op : Int) = 8) false (by kernel_rfl) (fun _ => by kernel_rfl) (decide_eq_false (h11)) ?_
                        refine s_val (.bool false) (by kernel_rfl) (fun _ => by kernel_rfl) ?_
                        refine s_nil ?_
                        refine fin_seq ?_
                        refine ok_false (by kernel_rfl) ?_
                        refine ok_skip ?_
                        refine fin_block ?_
                        refine fin_seq ?_
                        refine ok_seq ?_
                        refine ok_seq ?_
                        refine ok_region ?_
                        refine s_val (.pointer (some ⟨b1, 1, none⟩)) (by kernel_rfl) (fun _ => by kernel_rfl) ?_
                        refine s_load 4 ⟨b1, (coV c).cells, 26⟩ (off := 1) (.int .i64 c.parts) (by kernel_rfl) rfl (by kernel_rfl) (by kernel_rfl) (by kernel_rfl) ?_
                        by_cases h12 : (c.parts : Int) = 0
                        · skip
                          refine s_dec (p := (c.parts : Int) = 0) true (by kernel_rfl) (fun _ => by kernel_rfl) (decide_eq_true (h12)) ?_
                          refine s_nil ?_
                          refine fin_seq ?_
                          refine ok_true (by kernel_rfl) ?_
                          refine ok_seq ?_
                          refine ok_region ?_
                          refine s_call (k := 95) (args := #[]) (cutV (endC (-1))) (by kernel_rfl) (fun _ => by kernel_rfl) (fun w _ => rfirst_any w) ?_
                          refine s_call (k := 96) (args := #[]) (cutV (endC 1)) (by kernel_rfl) (fun _ => by kernel_rfl) (fun w _ => rlast_any w) ?_
                          refine s_store_at 1 ⟨b2, #[.int .i64 0, .int .i64 0, .int .i64 0, .int .i64 0, .string ⟨#[]⟩, .string ⟨#[]⟩, .bool false], 48⟩ (off := 0) (cutV (endC (-1))) (by kernel_rfl) rfl rfl (by kernel_rfl) (by kernel_rfl) (by kernel_rfl) (by kernel_rfl) (by kernel_rfl) ?_
                          refine s_store_at 0 ⟨b3, #[.int .i64 0, .int .i64 0, .int .i64 0, .int .i64 0, .string ⟨#[]⟩, .string ⟨#[]⟩, .bool false], 48⟩ (off := 0) (cutV (endC 1)) (by kernel_rfl) rfl rfl (by kernel_rfl) (by kernel_rfl) (by kernel_rfl) (by kernel_rfl) (by kernel_rfl) ?_
                          refine s_nil ?_
                          refine fin_seq ?_
                          refine ok_ret ?_
                          refine fin_seq_ret ?_
                          refine fin_cc 1 0 ⟨b2, (cutV (endC (-1))).cells, 48⟩ ⟨b3, (cutV (endC 1)).cells, 48⟩ (off := 0) (oft := 0) (cutV (endC (-1))) (cutV (endC 1)) Tryz.results55 (by kernel_rfl) (by kernel_rfl) (by kernel_rfl) (by kernel_rfl) (by kernel_rfl) (by kernel_rfl) ?_
                          exact fun w hO => ⟨by rw [show c.span = ((endC (-1)), (endC 1)) from by unfold Co.span; simp [h4, h5, h6, h7, h8, h9, h10, h11, h12]], hO.below⟩
                        · skip
                          refine s_dec (p := (c.parts : Int) = 0) false (by kernel_rfl) (fun _ => by kernel_rfl) (decide_eq_false (h12)) ?_
                          refine s_nil ?_
                          refine fin_seq ?_
                          refine ok_false (by kernel_rfl) ?_
                          refine ok_skip ?_
                          refine fin_seq ?_
                          refine ok_seq ?_
                          refine ok_anyhL ([⟨b5, (cutV c.aft).cells, 48⟩, ⟨p4, (cutV c.low).cells, 48⟩, ⟨b1, (coV c).cells, 26⟩]) (by kernel_rfl) (fun w hO => Own.sub [⟨b3, #[.int .i64 0, .int .i64 0, .int .i64 0, .int .i64 0, .string ⟨#[]⟩, .string ⟨#[]⟩, .bool false], 48⟩, ⟨b2, #[.int .i64 0, .int .i64 0, .int .i64 0, .int .i64 0, .string ⟨#[]⟩, .string ⟨#[]⟩, .bool false], 48⟩] hO) ?_
                          refine h_load 0 [⟨b3, #[.int .i64 0, .int .i64 0, .int .i64 0, .int .i64 0, .string ⟨#[]⟩, .string ⟨#[]⟩, .bool false], 48⟩, ⟨b2, #[.int .i64 0, .int .i64 0, .int .i64 0, .int .i64 0, .string ⟨#[]⟩, .string ⟨#[]⟩, .bool false], 48⟩] _ 1 ⟨p4, (cutV c.low).cells, 48⟩ (off := 0) (cutV c.low) rfl (by kernel_rfl) (by kernel_rfl) (by kernel_rfl) (pq_seq pq_body) (by kernel_rfl) rfl (by kernel_rfl) (by kernel_rfl) (by kernel_rfl) ?_
                          refine h_take 1 [⟨b3, #[.int .i64 0, .int .i64 0, .int .i64 0, .int .i64 0, .string ⟨#[]⟩, .string ⟨#[]⟩, .bool false], 48⟩, ⟨b2, #[.int .i64 0, .int .i64 0, .int .i64 0, .int .i64 0, .string ⟨#[]⟩, .string ⟨#[]⟩, .bool false], 48⟩] _ (.pointer (some ⟨b1, 2, none⟩)) rfl (by kernel_rfl) (by kernel_rfl) (by kernel_rfl) (pq_seq pq_body) (by kernel_rfl) (fun _ _ => by kernel_rfl) ?_
                          refine h_load 2 [⟨b3, #[.int .i64 0, .int .i64 0, .int .i64 0, .int .i64 0, .string ⟨#[]⟩, .string ⟨#[]⟩, .bool false], 48⟩, ⟨b2, #[.int .i64 0, .int .i64 0, .int .i64 0, .int .i64 0, .string ⟨#[]⟩, .string ⟨#[]⟩, .bool false], 48⟩] _ 2 ⟨b1, (coV c).cells, 26⟩ (off := 2) (.agg #[.int .i64 c.v.maj, .int .i64 c.v.min, .int .i64 c.v.pat, .string (mkS c.v.pre), .string (mkS c.v.build)]) rfl (by kernel_rfl) (by kernel_rfl) (by kernel_rfl) (pq_seq pq_body) (by kernel_rfl) rfl (by kernel_rfl) (by kernel_rfl) (by kernel_rfl) ?_
                          refine h_take 3 [⟨b3, #[.int .i64 0, .int .i64 0, .int .i64 0, .int .i64 0, .string ⟨#[]⟩, .string ⟨#[]⟩, .bool false], 48⟩, ⟨b2, #[.int .i64 0, .int .i64 0, .int .i64 0, .int .i64 0, .string ⟨#[]⟩, .string ⟨#[]⟩, .bool false], 48⟩] _ (.int .i64 ((c.parts : Int) - 1)) rfl (by kernel_rfl) (by kernel_rfl) (by kernel_rfl) (pq_seq pq_body) (by kernel_rfl) (fun _ _ => by kernel_rfl) ?_
                          refine h_one 4 (by kernel_rfl) ?_
                          refine hs_call [⟨b3, #[.int .i64 0, .int .i64 0, .int .i64 0, .int .i64 0, .string ⟨#[]⟩, .string ⟨#[]⟩, .bool false], 48⟩, ⟨b2, #[.int .i64 0, .int .i64 0, .int .i64 0, .int .i64 0, .string ⟨#[]⟩, .string ⟨#[]⟩, .bool false], 48⟩] _ (k := 94) (args := #[.agg #[.int .i64 c.v.maj, .int .i64 c.v.min, .int .i64 c.v.pat, .string (mkS c.v.pre), .string (mkS c.v.build)], .int .i64 ((c.parts : Int) - 1)]) (cutV (highC c.v (c.parts - 1).toNat)) rfl (by kernel_rfl) (fun _ => by kernel_rfl) (fun w _ => rchigh_any c.v ((c.parts : Int) - 1) (c.parts - 1).toNat w hc (by omega) (by omega)) ?_
                          refine h_one 5 (by kernel_rfl) ?_
                          refine hs_store [⟨b3, #[.int .i64 0, .int .i64 0, .int .i64 0, .int .i64 0, .string ⟨#[]⟩, .string ⟨#[]⟩, .bool false], 48⟩, ⟨b2, #[.int .i64 0, .int .i64 0, .int .i64 0, .int .i64 0, .string ⟨#[]⟩, .string ⟨#[]⟩, .bool false], 48⟩] _ 1 ⟨b2, #[.int .i64 0, .int .i64 0, .int .i64 0, .int .i64 0, .string ⟨#[]⟩, .string ⟨#[]⟩, .bool false], 48⟩ (off := 0) (cutV c.low) rfl (by kernel_rfl) rfl rfl (by kernel_rfl) (by kernel_rfl) (by kernel_rfl) (by kernel_rfl) (by kernel_rfl) ?_
                          refine h_one 6 (by kernel_rfl) ?_
                          refine hs_store [⟨b3, #[.int .i64 0, .int .i64 0, .int .i64 0, .int .i64 0, .string ⟨#[]⟩, .string ⟨#[]⟩, .bool false], 48⟩, ⟨b2, (cutV c.low).cells, 48⟩] _ 0 ⟨b3, #[.int .i64 0, .int .i64 0, .int .i64 0, .int .i64 0, .string ⟨#[]⟩, .string ⟨#[]⟩, .bool false], 48⟩ (off := 0) (cutV (highC c.v (c.parts - 1).toNat)) rfl (by kernel_rfl) rfl rfl (by kernel_rfl) (by kernel_rfl) (by kernel_rfl) (by kernel_rfl) (by kernel_rfl) ?_
                          refine h_done (by kernel_rfl) ?_
                          refine fin_seq ?_
                          refine ok_ret ?_
                          refine fin_cc 1 0 ⟨b2, (cutV c.low).cells, 48⟩ ⟨b3, (cutV (highC c.v (c.parts - 1).toNat)).cells, 48⟩ (off := 0) (oft := 0) (cutV c.low) (cutV (highC c.v (c.parts - 1).toNat)) Tryz.results55 (by kernel_rfl) (by kernel_rfl) (by kernel_rfl) (by kernel_rfl) (by kernel_rfl) (by kernel_rfl) ?_
                          exact fun w hO => ⟨by rw [show c.span = (c.low, (highC c.v (c.parts - 1).toNat)) from by unfold Co.span; simp [h4, h5, h6, h7, h8, h9, h10, h11, h12]], hO.below⟩
end Go.Proofs.YtjabcbagggicaaaGreatDoor
end

section
/-
  linchpinref6: Zone, Region: what they return for comparators whose strings have at most a million bytes; nothing that was there is changed.
-/
namespace Go.Proofs.YtjabcbagggicaaaGreatDoor
open Go.RowKit
set_option maxRecDepth 100000
set_option linter.unusedVariables false
set_option linter.unusedSimpArgs false
set_option maxHeartbeats 2000000

theorem slit6 (s : Sp) (b : Nat) (cur : Array Value) (h : cur.toList = spanC s) : SlS (.slice (some ⟨b, 0, none⟩) 1 1) [s] [⟨b, cur, 50⟩] := by
  have e : ([s] : List Sp).flatMap spanC = spanC s := List.append_nil _
  have hc : cur.toList.length = 14 := by rw [h]; rfl
  refine ⟨by rw [e]; rfl, .inr ⟨b, 1, cur, rfl, rfl, Nat.le_refl _, by decide, by rw [← Array.length_toList, hc], ?_⟩⟩
  rw [e, h]
  exact List.take_of_length_le (Nat.le_refl 14)
theorem high_short (v : Ver) (k : Nat) : (highC v k).short := by
  induction k with
  | zero =>
    unfold highC
    split
    · exact bump_short v 0
    · exact ⟨Nat.zero_le _, Nat.zero_le _⟩
  | succ k ih =>
    unfold highC
    split
    · exact bump_short v _
    · exact ih
theorem span_short {c : Co} (h : c.short) : c.span.1.short ∧ c.span.2.short := by
  have hl : c.low.short := core_short h
  have he : ∀ e : Int, (endC e).short := fun e => ⟨Nat.zero_le _, Nat.zero_le _⟩
  have ha : c.aft.short := by
    unfold Co.aft
    split
    · exact high_short _ _
    · exact core_short h
  have hh := fun k => high_short c.v k
  unfold Co.span
  repeat' split
  all_goals exact ⟨by first | exact hl | exact ha | exact he _ | exact hh _, by first | exact hl | exact ha | exact he _ | exact hh _⟩
theorem oneRow_cases (lo hi : Cu) : oneRow lo hi = if cmpC lo hi < 0 then [⟨lo, hi⟩] else [] := by
  unfold oneRow addL
  by_cases h : cmpC lo hi < 0
  · rw [if_pos (sp_may_of h), if_pos h]; rfl
  · rw [if_neg (fun q => h (sp_lt q)), if_neg h]
theorem rcZone_any (c : Co) (W : World) (hc : c.short) : Calls Tryz.prog 22 #[coV c] W fun e w' => ∃ v' ob', e = .returned v' ∧ SlS v' c.zone ob' ∧ Own [] W w' ob' := by
  have hl1 : ({ c.v with pre := [48] } : Ver).short := ⟨by show ([48] : List UInt8).length ≤ _; decide, hc.2⟩
  have hb1 : ({ c.v with pre := [] } : Ver).short := ⟨Nat.zero_le _, hc.2⟩
  refine calls_ok (n := 25) Tryz.func22 rfl (by kernel_rfl) (by kernel_rfl) ?_
  refine ok_seq ?_
  refine ok_region ?_
  refine s_box (coV c) (by kernel_rfl) rfl (by kernel_rfl) (fun b1 => ?_)
  refine s_val (.slice none 0 0) (by kernel_rfl) (fun _ => by kernel_rfl) ?_
  refine s_nil ?_
  refine fin_seq ?_
  refine ok_seq ?_
  refine ok_seq ?_
  refine ok_region ?_
  refine s_load 0 ⟨b1, (coV c).cells, 26⟩ (off := 0) (coV c) (by kernel_rfl) rfl (by kernel_rfl) (by kernel_rfl) (by kernel_rfl) ?_
  refine s_call (k := 16) (args := #[coV c]) (.bool c.may) (by kernel_rfl) (fun _ => by kernel_rfl) (fun w _ => rcMay_any c w hc) ?_
  cases h1 : c.may with
  | true =>
    refine s_val (.bool false) (by kernel_rfl) (fun _ => by kernel_rfl) ?_
    refine s_val (.bool false) (by kernel_rfl) (fun _ => by kernel_rfl) ?_
    refine s_val (.pointer (some ⟨b1, 2, none⟩)) (by kernel_rfl) (fun _ => by kernel_rfl) ?_
    refine s_val (.pointer (some ⟨b1, 5, none⟩)) (by kernel_rfl) (fun _ => by kernel_rfl) ?_
    refine s_load 0 ⟨b1, (coV c).cells, 26⟩ (off := 5) (.string (mkS c.v.pre)) (by kernel_rfl) rfl (by kernel_rfl) (by kernel_rfl) (by kernel_rfl) ?_
    by_cases h2 : (c.v.pre : List UInt8) = []
    · skip
      refine s_val (.bool true) (by kernel_rfl) (run_streql (a := c.v.pre) (b := ([])) rfl (by kernel_rfl) (by kernel_rfl) (decide_eq_true (h2))) ?_
      refine s_val (.bool true) (by kernel_rfl) (fun _ => by kernel_rfl) ?_
      refine s_nil ?_
      refine fin_seq ?_
      refine ok_true (by kernel_rfl) ?_
      refine ok_seq ?_
      refine ok_region ?_
      refine s_val (.slice none 0 0) (by kernel_rfl) (fun _ => by kernel_rfl) ?_
      refine s_nil ?_
      refine fin_seq ?_
      refine ok_ret ?_
      refine fin_seq_ret ?_
      refine fin_ret (.slice none 0 0) Tryz.results22 (by kernel_rfl) ?_
      exact fun w hO => ⟨_, [], rfl, by rw [show c.zone = [] from by unfold Co.zone; simp [h1, h2]]; exact Sl.nil _ _, own_nil hO⟩
    · skip
      refine s_val (.bool false) (by kernel_rfl) (run_streql (a := c.v.pre) (b := ([])) rfl (by kernel_rfl) (by kernel_rfl) (decide_eq_false (h2))) ?_
      refine s_val (.bool false) (by kernel_rfl) (fun _ => by kernel_rfl) ?_
      refine s_nil ?_
      refine fin_seq ?_
      refine ok_false (by kernel_rfl) ?_
      refine ok_skip ?_
      refine fin_seq ?_
      refine ok_seq ?_
      refine ok_region ?_
      refine s_val (.pointer (some ⟨b1, 2, none⟩)) (by kernel_rfl) (fun _ => by kernel_rfl) ?_
      refine s_load 0 ⟨b1, (coV c).cells, 26⟩ (off := 2) (.agg #[.int .i64 c.v.maj, .int .i64 c.v.min, .int .i64 c.v.pat, .string (mkS c.v.pre), .string (mkS c.v.build)]) (by kernel_rfl) rfl (by kernel_rfl) (by kernel_rfl) (by kernel_rfl) ?_
      refine s_alloc_at (.agg #[.int .i64 0, .int .i64 0, .int .i64 0, .string ⟨#[]⟩, .string ⟨#[]⟩]) (by kernel_rfl) rfl (by kernel_rfl) (fun b2 => ?_)
      refine s_store_at 0 ⟨b2, #[.int .i64 0, .int .i64 0, .int .i64 0, .string ⟨#[]⟩, .string ⟨#[]⟩], 24⟩ (off := 0) (.agg #[.int .i64 c.v.maj, .int .i64 c.v.min, .int .i64 c.v.pat, .string (mkS c.v.pre), .string (mkS c.v.build)]) (by kernel_rfl) rfl rfl (by kernel_rfl) (by kernel_rfl) (by kernel_rfl) (by kernel_rfl) (by kernel_rfl) ?_
      refine s_nil ?_
      refine fin_seq ?_
      refine ok_seq ?_
      refine ok_region ?_
      refine s_val (.pointer (some ⟨b2, 3, none⟩)) (by kernel_rfl) (fun _ => by kernel_rfl) ?_
      refine s_store_at 0 ⟨b2, #[.int .i64 c.v.maj, .int .i64 c.v.min, .int .i64 c.v.pat, .string (mkS c.v.pre), .string (mkS c.v.build)], 24⟩ (off := 3) (.string ⟨#[]⟩) (by kernel_rfl) rfl rfl (by kernel_rfl) (by kernel_rfl) (by kernel_rfl) (by kernel_rfl) (by kernel_rfl) ?_
      refine s_nil ?_
      refine fin_seq ?_
      refine ok_seq ?_
      refine ok_region ?_
      refine s_load 0 ⟨b2, #[.int .i64 c.v.maj, .int .i64 c.v.min, .int .i64 c.v.pat, .string ⟨#[]⟩, .string (mkS c.v.build)], 24⟩ (off := 0) (.agg #[.int .i64 c.v.maj, .int .i64 c.v.min, .int .i64 c.v.pat, .string ⟨#[]⟩, .string (mkS c.v.build)]) (by kernel_rfl) rfl (by kernel_rfl) (by kernel_rfl) (by kernel_rfl) ?_
      refine s_alloc_at (.agg #[.int .i64 0, .int .i64 0, .int .i64 0, .string ⟨#[]⟩, .string ⟨#[]⟩]) (by kernel_rfl) rfl (by kernel_rfl) (fun b3 => ?_)
      refine s_store_at 0 ⟨b3, #[.int .i64 0, .int .i64 0, .int .i64 0, .string ⟨#[]⟩, .string ⟨#[]⟩], 24⟩ (off := 0) (.agg #[.int .i64 c.v.maj, .int .i64 c.v.min, .int .i64 c.v.pat, .string ⟨#[]⟩, .string (mkS c.v.build)]) (by kernel_rfl) rfl rfl (by kernel_rfl) (by kernel_rfl) (by kernel_rfl) (by kernel_rfl) (by kernel_rfl) ?_
      refine s_nil ?_
      refine fin_seq ?_
      refine ok_seq ?_
      refine ok_region ?_
      refine s_val (.pointer (some ⟨b3, 3, none⟩)) (by kernel_rfl) (fun _ => by kernel_rfl) ?_
      refine s_store_at 0 ⟨b3, #[.int .i64 c.v.maj, .int .i64 c.v.min, .int .i64 c.v.pat, .string ⟨#[]⟩, .string (mkS c.v.build)], 24⟩ (off := 3) (.string ⟨#[48]⟩) (by kernel_rfl) rfl rfl (by kernel_rfl) (by kernel_rfl) (by kernel_rfl) (by kernel_rfl) (by kernel_rfl) ?_
      refine s_nil ?_
      refine fin_seq ?_
      refine ok_seq ?_
      refine ok_anyh (by kernel_rfl) ?_
      refine h_load 0 [] _ 0 ⟨b3, #[.int .i64 c.v.maj, .int .i64 c.v.min, .int .i64 c.v.pat, .string ⟨#[48]⟩, .string (mkS c.v.build)], 24⟩ (off := 0) (.agg #[.int .i64 c.v.maj, .int .i64 c.v.min, .int .i64 c.v.pat, .string ⟨#[48]⟩, .string (mkS c.v.build)]) rfl (by kernel_rfl) (by kernel_rfl) (by kernel_rfl) (pq_seq pq_body) (by kernel_rfl) rfl (by kernel_rfl) (by kernel_rfl) (by kernel_rfl) ?_
      refine h_load 2 [] _ 1 ⟨b2, #[.int .i64 c.v.maj, .int .i64 c.v.min, .int .i64 c.v.pat, .string ⟨#[]⟩, .string (mkS c.v.build)], 24⟩ (off := 0) (.agg #[.int .i64 c.v.maj, .int .i64 c.v.min, .int .i64 c.v.pat, .string ⟨#[]⟩, .string (mkS c.v.build)]) rfl (by kernel_rfl) (by kernel_rfl) (by kernel_rfl) (pq_seq pq_body) (by kernel_rfl) rfl (by kernel_rfl) (by kernel_rfl) (by kernel_rfl) ?_
      refine h_one 1 (by kernel_rfl) ?_
      refine hs_call [] _ (k := 57) (args := #[.agg #[.int .i64 c.v.maj, .int .i64 c.v.min, .int .i64 c.v.pat, .string ⟨#[48]⟩, .string (mkS c.v.build)]]) (cutV ⟨0, coreV (({ c.v with pre := [48] } : Ver)), false⟩) rfl (by kernel_rfl) (fun _ => by kernel_rfl) (fun w _ => rbefore_any (({ c.v with pre := [48] } : Ver)) w hl1) ?_
      refine h_one 3 (by kernel_rfl) ?_
      refine hs_call [] _ (k := 57) (args := #[.agg #[.int .i64 c.v.maj, .int .i64 c.v.min, .int .i64 c.v.pat, .string ⟨#[]⟩, .string (mkS c.v.build)]]) (cutV ⟨0, coreV (({ c.v with pre := [] } : Ver)), false⟩) rfl (by kernel_rfl) (fun _ => by kernel_rfl) (fun w _ => rbefore_any (({ c.v with pre := [] } : Ver)) w hb1) ?_
      refine h_take 4 [] _ (.agg #[.int .i64 0, .int .i64 ((coreV (({ c.v with pre := [48] } : Ver))).maj), .int .i64 ((coreV (({ c.v with pre := [48] } : Ver))).min), .int .i64 ((coreV (({ c.v with pre := [48] } : Ver))).pat), .string (mkS (coreV (({ c.v with pre := [48] } : Ver))).pre), .string (mkS (coreV (({ c.v with pre := [48] } : Ver))).build), .bool false, .int .i64 0, .int .i64 ((coreV (({ c.v with pre := [] } : Ver))).maj), .int .i64 ((coreV (({ c.v with pre := [] } : Ver))).min), .int .i64 ((coreV (({ c.v with pre := [] } : Ver))).pat), .string (mkS (coreV (({ c.v with pre := [] } : Ver))).pre), .string (mkS (coreV (({ c.v with pre := [] } : Ver))).build), .bool false]) rfl (by kernel_rfl) (by kernel_rfl) (by kernel_rfl) (pq_seq pq_body) (by kernel_rfl) (fun _ _ => by kernel_rfl) ?_
      refine h_one 5 (by kernel_rfl) ?_
      refine hl_lit _ 50 #[.int .i64 0, .int .i64 ((coreV (({ c.v with pre := [48] } : Ver))).maj), .int .i64 ((coreV (({ c.v with pre := [48] } : Ver))).min), .int .i64 ((coreV (({ c.v with pre := [48] } : Ver))).pat), .string (mkS (coreV (({ c.v with pre := [48] } : Ver))).pre), .string (mkS (coreV (({ c.v with pre := [48] } : Ver))).build), .bool false, .int .i64 0, .int .i64 ((coreV (({ c.v with pre := [] } : Ver))).maj), .int .i64 ((coreV (({ c.v with pre := [] } : Ver))).min), .int .i64 ((coreV (({ c.v with pre := [] } : Ver))).pat), .string (mkS (coreV (({ c.v with pre := [] } : Ver))).pre), .string (mkS (coreV (({ c.v with pre := [] } : Ver))).build), .bool false] rfl (by kernel_rfl) rfl (fun w hO => Own.sub [] hO) (fun _ => by kernel_rfl) (fun b4 => ?_)
      refine h_take 6 [⟨b4, #[.int .i64 0, .int .i64 ((coreV (({ c.v with pre := [48] } : Ver))).maj), .int .i64 ((coreV (({ c.v with pre := [48] } : Ver))).min), .int .i64 ((coreV (({ c.v with pre := [48] } : Ver))).pat), .string (mkS (coreV (({ c.v with pre := [48] } : Ver))).pre), .string (mkS (coreV (({ c.v with pre := [48] } : Ver))).build), .bool false, .int .i64 0, .int .i64 ((coreV (({ c.v with pre := [] } : Ver))).maj), .int .i64 ((coreV (({ c.v with pre := [] } : Ver))).min), .int .i64 ((coreV (({ c.v with pre := [] } : Ver))).pat), .string (mkS (coreV (({ c.v with pre := [] } : Ver))).pre), .string (mkS (coreV (({ c.v with pre := [] } : Ver))).build), .bool false], 50⟩] _ (.slice (some ⟨b4, 0, none⟩) 1 1) rfl (by kernel_rfl) (by kernel_rfl) (by kernel_rfl) (pq_seq pq_body) (by kernel_rfl) (fun _ _ => by kernel_rfl) ?_
      refine h_done (by kernel_rfl) ?_
      refine fin_seq ?_
      refine ok_ret ?_
      refine fin_ret (.slice (some ⟨b4, 0, none⟩) 1 1) Tryz.results22 (by kernel_rfl) ?_
      exact fun w hO => ⟨_, _, rfl, by rw [zone_row (by assumption) (by assumption)]; exact slit6 ⟨⟨0, leastP c.v, false⟩, ⟨0, bareV c.v, false⟩⟩ b4 _ (by kernel_rfl), hO.sublist (List.cons_sublist_cons.2 (List.nil_sublist _))⟩
  | false =>
    refine s_val (.bool true) (by kernel_rfl) (fun _ => by kernel_rfl) ?_
    refine s_val (.bool true) (by kernel_rfl) (fun _ => by kernel_rfl) ?_
    refine s_skip (by kernel_rfl) ?_
    refine s_skip (by kernel_rfl) ?_
    refine s_skip (by kernel_rfl) ?_
    refine s_skip (by kernel_rfl) ?_
    refine s_val (.bool true) (by kernel_rfl) (fun _ => by kernel_rfl) ?_
    refine s_nil ?_
    refine fin_seq ?_
    refine ok_true (by kernel_rfl) ?_
    refine ok_seq ?_
    refine ok_region ?_
    refine s_val (.slice none 0 0) (by kernel_rfl) (fun _ => by kernel_rfl) ?_
    refine s_nil ?_
    refine fin_seq ?_
    refine ok_ret ?_
    refine fin_seq_ret ?_
    refine fin_ret (.slice none 0 0) Tryz.results22 (by kernel_rfl) ?_
    exact fun w hO => ⟨_, [], rfl, by rw [show c.zone = [] from by unfold Co.zone; simp [h1]]; exact Sl.nil _ _, own_nil hO⟩
theorem rcRegion_any (c : Co) (W : World) (hc : c.short) : Calls Tryz.prog 20 #[coV c] W fun e w' => ∃ v' ob', e = .returned v' ∧ SlS v' c.region ob' ∧ Own [] W w' ob' := by
  have hs1 := (span_short hc).1
  have hs2 := (span_short hc).2
  refine calls_ok (n := 28) Tryz.func20 rfl (by kernel_rfl) (by kernel_rfl) ?_
  refine ok_seq ?_
  refine ok_region ?_
  refine s_box (coV c) (by kernel_rfl) rfl (by kernel_rfl) (fun b1 => ?_)
  refine s_val (.slice none 0 0) (by kernel_rfl) (fun _ => by kernel_rfl) ?_
  refine s_nil ?_
  refine fin_seq ?_
  refine ok_seq ?_
  refine ok_seq ?_
  refine ok_region ?_
  refine s_load 0 ⟨b1, (coV c).cells, 26⟩ (off := 0) (coV c) (by kernel_rfl) rfl (by kernel_rfl) (by kernel_rfl) (by kernel_rfl) ?_
  refine s_call (k := 16) (args := #[coV c]) (.bool c.may) (by kernel_rfl) (fun _ => by kernel_rfl) (fun w _ => rcMay_any c w hc) ?_
  cases h1 : c.may with
  | true =>
    refine s_val (.bool false) (by kernel_rfl) (fun _ => by kernel_rfl) ?_
    refine s_nil ?_
    refine fin_seq ?_
    refine ok_false (by kernel_rfl) ?_
    refine ok_skip ?_
    refine fin_seq ?_
    refine ok_seq ?_
    refine ok_region ?_
    refine s_val (.slice none 0 0) (by kernel_rfl) (fun _ => by kernel_rfl) ?_
    refine s_nil ?_
    refine fin_seq ?_
    refine ok_seq ?_
    refine ok_region ?_
    refine s_load 0 ⟨b1, (coV c).cells, 26⟩ (off := 0) (coV c) (by kernel_rfl) rfl (by kernel_rfl) (by kernel_rfl) (by kernel_rfl) ?_
    refine s_call (k := 55) (args := #[coV c]) (.tuple #[cutV c.span.1, cutV c.span.2]) (by kernel_rfl) (fun _ => by kernel_rfl) (fun w _ => rcspan_any c w hc h1) ?_
    refine s_val (.tuple #[cutV c.span.1, cutV c.span.2]) (by kernel_rfl) (fun _ => by kernel_rfl) ?_
    refine s_val (cutV c.span.1) (by kernel_rfl) (fun _ => by kernel_rfl) ?_
    refine s_val (cutV c.span.2) (by kernel_rfl) (fun _ => by kernel_rfl) ?_
    refine s_alloc_at (.agg #[.int .i64 0, .int .i64 0, .int .i64 0, .int .i64 0, .string ⟨#[]⟩, .string ⟨#[]⟩, .bool false]) (by kernel_rfl) rfl (by kernel_rfl) (fun b2 => ?_)
    refine s_alloc_at (.agg #[.int .i64 0, .int .i64 0, .int .i64 0, .int .i64 0, .string ⟨#[]⟩, .string ⟨#[]⟩, .bool false]) (by kernel_rfl) rfl (by kernel_rfl) (fun b3 => ?_)
    refine s_store_at 1 ⟨b2, #[.int .i64 0, .int .i64 0, .int .i64 0, .int .i64 0, .string ⟨#[]⟩, .string ⟨#[]⟩, .bool false], 48⟩ (off := 0) (cutV c.span.1) (by kernel_rfl) rfl rfl (by kernel_rfl) (by kernel_rfl) (by kernel_rfl) (by kernel_rfl) (by kernel_rfl) ?_
    refine s_store_at 0 ⟨b3, #[.int .i64 0, .int .i64 0, .int .i64 0, .int .i64 0, .string ⟨#[]⟩, .string ⟨#[]⟩, .bool false], 48⟩ (off := 0) (cutV c.span.2) (by kernel_rfl) rfl rfl (by kernel_rfl) (by kernel_rfl) (by kernel_rfl) (by kernel_rfl) (by kernel_rfl) ?_
    refine s_nil ?_
    refine fin_seq ?_
    refine ok_seq ?_
    refine ok_seq ?_
    refine ok_region ?_
    refine s_load 1 ⟨b2, (cutV c.span.1).cells, 48⟩ (off := 0) (cutV c.span.1) (by kernel_rfl) rfl (by kernel_rfl) (by kernel_rfl) (by kernel_rfl) ?_
    refine s_load 0 ⟨b3, (cutV c.span.2).cells, 48⟩ (off := 0) (cutV c.span.2) (by kernel_rfl) rfl (by kernel_rfl) (by kernel_rfl) (by kernel_rfl) ?_
    refine s_call (k := 56) (args := #[cutV c.span.1, cutV c.span.2]) (.int .i64 (cmpC c.span.1 c.span.2)) (by kernel_rfl) (fun _ => by kernel_rfl) (fun w _ => rcmpC_any c.span.1 c.span.2 w hs1 hs2) ?_
    by_cases h2 : (cmpC c.span.1 c.span.2 : Int) < 0
    · skip
      refine s_dec (p := (cmpC c.span.1 c.span.2 : Int) < 0) true (by kernel_rfl) (fun _ => by kernel_rfl) (decide_eq_true (h2)) ?_
      refine s_nil ?_
      refine fin_seq ?_
      refine ok_true (by kernel_rfl) ?_
      refine ok_region ?_
      refine s_load 1 ⟨b2, (cutV c.span.1).cells, 48⟩ (off := 0) (cutV c.span.1) (by kernel_rfl) rfl (by kernel_rfl) (by kernel_rfl) (by kernel_rfl) ?_
      refine s_load 0 ⟨b3, (cutV c.span.2).cells, 48⟩ (off := 0) (cutV c.span.2) (by kernel_rfl) rfl (by kernel_rfl) (by kernel_rfl) (by kernel_rfl) ?_
      refine s_val (.agg #[.int .i64 c.span.1.e, .int .i64 c.span.1.v.maj, .int .i64 c.span.1.v.min, .int .i64 c.span.1.v.pat, .string (mkS c.span.1.v.pre), .string (mkS c.span.1.v.build), .bool c.span.1.aft, .int .i64 c.span.2.e, .int .i64 c.span.2.v.maj, .int .i64 c.span.2.v.min, .int .i64 c.span.2.v.pat, .string (mkS c.span.2.v.pre), .string (mkS c.span.2.v.build), .bool c.span.2.aft]) (by kernel_rfl) (fun _ => by kernel_rfl) ?_
      refine s_lit 50 #[.int .i64 c.span.1.e, .int .i64 c.span.1.v.maj, .int .i64 c.span.1.v.min, .int .i64 c.span.1.v.pat, .string (mkS c.span.1.v.pre), .string (mkS c.span.1.v.build), .bool c.span.1.aft, .int .i64 c.span.2.e, .int .i64 c.span.2.v.maj, .int .i64 c.span.2.v.min, .int .i64 c.span.2.v.pat, .string (mkS c.span.2.v.pre), .string (mkS c.span.2.v.build), .bool c.span.2.aft] (by kernel_rfl) rfl (fun _ => by kernel_rfl) (fun b4 => ?_)
      refine s_val (.slice (some ⟨b4, 0, none⟩) 1 1) (by kernel_rfl) (fun _ => by kernel_rfl) ?_
      refine s_nil ?_
      refine fin_seq ?_
      refine ok_seq ?_
      refine ok_seq ?_
      refine ok_region ?_
      refine s_val (.pointer (some ⟨b1, 0, none⟩)) (by kernel_rfl) (fun _ => by kernel_rfl) ?_
      refine s_load 3 ⟨b1, (coV c).cells, 26⟩ (off := 0) (.int .i64 c.op) (by kernel_rfl) rfl (by kernel_rfl) (by kernel_rfl) (by kernel_rfl) ?_
      by_cases h3 : (c.op : Int) = 2
      · skip
        refine s_dec (p := (c.op : Int) = 2) true (by kernel_rfl) (fun _ => by kernel_rfl) (decide_eq_true (h3)) ?_
        refine s_nil ?_
        refine fin_seq ?_
        refine ok_true (by kernel_rfl) ?_
        refine ok_seq ?_
        refine ok_region ?_
        refine s_val (.slice (some ⟨b4, 0, none⟩) 1 1) (by kernel_rfl) (fun _ => by kernel_rfl) ?_
        refine s_callo (k := 31) (args := #[.slice (some ⟨b4, 0, none⟩) 1 1]) (fun v' L' => ∃ ob', L' = ob' ++ ([⟨b4, #[.int .i64 c.span.1.e, .int .i64 c.span.1.v.maj, .int .i64 c.span.1.v.min, .int .i64 c.span.1.v.pat, .string (mkS c.span.1.v.pre), .string (mkS c.span.1.v.build), .bool c.span.1.aft, .int .i64 c.span.2.e, .int .i64 c.span.2.v.maj, .int .i64 c.span.2.v.min, .int .i64 c.span.2.v.pat, .string (mkS c.span.2.v.pre), .string (mkS c.span.2.v.build), .bool c.span.2.aft], 50⟩, ⟨b3, (cutV c.span.2).cells, 48⟩, ⟨b2, (cutV c.span.1).cells, 48⟩, ⟨b1, (coV c).cells, 26⟩]) ∧ SlS v' (notL [⟨c.span.1, c.span.2⟩]) ob') (by kernel_rfl) (fun _ => by kernel_rfl) (fun w hO => (rnot_any (some ⟨b4, 0, none⟩) 1 [⟨c.span.1, c.span.2⟩] w (Sl.reads (slit6 ⟨c.span.1, c.span.2⟩ b4 #[.int .i64 c.span.1.e, .int .i64 c.span.1.v.maj, .int .i64 c.span.1.v.min, .int .i64 c.span.1.v.pat, .string (mkS c.span.1.v.pre), .string (mkS c.span.1.v.build), .bool c.span.1.aft, .int .i64 c.span.2.e, .int .i64 c.span.2.v.maj, .int .i64 c.span.2.v.min, .int .i64 c.span.2.v.pat, .string (mkS c.span.2.v.pre), .string (mkS c.span.2.v.build), .bool c.span.2.aft] (by kernel_rfl)) rfl hO (fun x hx => by rw [List.mem_singleton.1 hx]; exact List.mem_cons_self)) (by show 1 ≤ _; decide) (fun s hs => by rw [List.mem_singleton.1 hs]; exact ⟨hs1, hs2⟩)).mono fun e w' ⟨v', ob', k1, k2, k3⟩ => ⟨v', _, k1, ⟨ob', rfl, by rw [if_pos (show rowMay [⟨c.span.1, c.span.2⟩] = true from sp_may_of (by assumption))] at k2; exact k2⟩, Own.joinN hO k3⟩) (fun v1 L1 hv1 => ?_)
        obtain ⟨o1, rfl, hr1⟩ := hv1
        refine s_val (v1) (by kernel_rfl) (fun _ => by kernel_rfl) ?_
        refine s_nil ?_
        refine fin_seq ?_
        refine ok_ret ?_
        refine fin_seq_ret ?_
        refine fin_ret (v1) Tryz.results20 (by kernel_rfl) ?_
        exact fun w hO => ⟨_, o1, rfl, by rw [show c.region = notL [⟨c.span.1, c.span.2⟩] from by unfold Co.region; rw [if_pos (by assumption), if_pos h3, oneRow_cases, if_pos h2]]; exact hr1, hO.sublist (List.sublist_append_left _ _)⟩
      · skip
        refine s_dec (p := (c.op : Int) = 2) false (by kernel_rfl) (fun _ => by kernel_rfl) (decide_eq_false (h3)) ?_
        refine s_nil ?_
        refine fin_seq ?_
        refine ok_false (by kernel_rfl) ?_
        refine ok_skip ?_
        refine fin_seq ?_
        refine ok_seq ?_
        refine ok_region ?_
        refine s_val (.slice (some ⟨b4, 0, none⟩) 1 1) (by kernel_rfl) (fun _ => by kernel_rfl) ?_
        refine s_val (.slice (some ⟨b4, 0, none⟩) 1 1) (by kernel_rfl) (fun _ => by kernel_rfl) ?_
        refine s_nil ?_
        refine fin_seq ?_
        refine ok_ret ?_
        refine fin_ret (.slice (some ⟨b4, 0, none⟩) 1 1) Tryz.results20 (by kernel_rfl) ?_
        exact fun w hO => ⟨_, _, rfl, by rw [show c.region = [⟨c.span.1, c.span.2⟩] from by unfold Co.region; rw [if_pos (by assumption), if_neg h3, oneRow_cases, if_pos h2]]; exact slit6 ⟨c.span.1, c.span.2⟩ b4 _ (by kernel_rfl), hO.sublist (List.cons_sublist_cons.2 (List.nil_sublist _))⟩
    · skip
      refine s_dec (p := (cmpC c.span.1 c.span.2 : Int) < 0) false (by kernel_rfl) (fun _ => by kernel_rfl) (decide_eq_false (h2)) ?_
      refine s_nil ?_
      refine fin_seq ?_
      refine ok_false (by kernel_rfl) ?_
      refine ok_skip ?_
      refine fin_seq ?_
      refine ok_seq ?_
      refine ok_seq ?_
      refine ok_region ?_
      refine s_val (.pointer (some ⟨b1, 0, none⟩)) (by kernel_rfl) (fun _ => by kernel_rfl) ?_
      refine s_load 2 ⟨b1, (coV c).cells, 26⟩ (off := 0) (.int .i64 c.op) (by kernel_rfl) rfl (by kernel_rfl) (by kernel_rfl) (by kernel_rfl) ?_
      by_cases h4 : (c.op : Int) = 2
      · skip
        refine s_dec (p := (c.op : Int) = 2) true (by kernel_rfl) (fun _ => by kernel_rfl) (decide_eq_true (h4)) ?_
        refine s_nil ?_
        refine fin_seq ?_
        refine ok_true (by kernel_rfl) ?_
        refine ok_seq ?_
        refine ok_region ?_
        refine s_val (.slice none 0 0) (by kernel_rfl) (fun _ => by kernel_rfl) ?_
        refine s_callo (k := 31) (args := #[.slice none 0 0]) (fun v' L' => ∃ ob', L' = ob' ++ ([⟨b3, (cutV c.span.2).cells, 48⟩, ⟨b2, (cutV c.span.1).cells, 48⟩, ⟨b1, (coV c).cells, 26⟩]) ∧ SlS v' (notL []) ob') (by kernel_rfl) (fun _ => by kernel_rfl) (fun w hO => (rnot_any none 0 [] w (fun h0 => absurd h0 (Nat.lt_irrefl 0)) (by show 0 ≤ _; decide) (fun s hs => by simp at hs)).mono fun e w' ⟨v', ob', k1, k2, k3⟩ => ⟨v', _, k1, ⟨ob', rfl, by rw [if_pos (show rowMay [] = true from rfl)] at k2; exact k2⟩, Own.joinN hO k3⟩) (fun v1 L1 hv1 => ?_)
        obtain ⟨o1, rfl, hr1⟩ := hv1
        refine s_val (v1) (by kernel_rfl) (fun _ => by kernel_rfl) ?_
        refine s_nil ?_
        refine fin_seq ?_
        refine ok_ret ?_
        refine fin_seq_ret ?_
        refine fin_ret (v1) Tryz.results20 (by kernel_rfl) ?_
        exact fun w hO => ⟨_, o1, rfl, by rw [show c.region = notL [] from by unfold Co.region; rw [if_pos (by assumption), if_pos h4, oneRow_cases, if_neg h2]]; exact hr1, hO.sublist (List.sublist_append_left _ _)⟩
      · skip
        refine s_dec (p := (c.op : Int) = 2) false (by kernel_rfl) (fun _ => by kernel_rfl) (decide_eq_false (h4)) ?_
        refine s_nil ?_
        refine fin_seq ?_
        refine ok_false (by kernel_rfl) ?_
        refine ok_skip ?_
        refine fin_seq ?_
        refine ok_seq ?_
        refine ok_region ?_
        refine s_val (.slice none 0 0) (by kernel_rfl) (fun _ => by kernel_rfl) ?_
        refine s_val (.slice none 0 0) (by kernel_rfl) (fun _ => by kernel_rfl) ?_
        refine s_nil ?_
        refine fin_seq ?_
        refine ok_ret ?_
        refine fin_ret (.slice none 0 0) Tryz.results20 (by kernel_rfl) ?_
        exact fun w hO => ⟨_, [], rfl, by rw [show c.region = [] from by unfold Co.region; rw [if_pos (by assumption), if_neg h4, oneRow_cases, if_neg h2]]; exact Sl.nil _ _, own_nil hO⟩
  | false =>
    refine s_val (.bool true) (by kernel_rfl) (fun _ => by kernel_rfl) ?_
    refine s_nil ?_
    refine fin_seq ?_
    refine ok_true (by kernel_rfl) ?_
    refine ok_seq ?_
    refine ok_region ?_
    refine s_val (.slice none 0 0) (by kernel_rfl) (fun _ => by kernel_rfl) ?_
    refine s_nil ?_
    refine fin_seq ?_
    refine ok_ret ?_
    refine fin_seq_ret ?_
    refine fin_ret (.slice none 0 0) Tryz.results20 (by kernel_rfl) ?_
    exact fun w hO => ⟨_, [], rfl, by rw [show c.region = [] from by unfold Co.region; simp [h1]]; exact Sl.nil _ _, own_nil hO⟩
end Go.Proofs.YtjabcbagggicaaaGreatDoor
end

section
/-
  The document's own answer for chapter 2 (linchpinref2): place, three, Numbers and Print. Conditions: strings of at most a million bytes.
-/
namespace Go.Proofs.YtjabcbagggicaaaGreatDoor
open Go.RowKit

def triV (l : List (List UInt8)) : Ver := if l.length = 3 then ⟨numD (tg l 0), numD (tg l 1), numD (tg l 2), [], []⟩ else Ver.zero
def triB (l : List (List UInt8)) : Bool := decide (l.length = 3) && (numI (tg l 0) && numI (tg l 1) && numI (tg l 2))
theorem rdigits_mk (n : Int) (h : numOkI n = true) (w : World) :
    Calls Tryz.prog 85 #[.int .i64 n] w fun e w' => e = .returned (.string (mkS (Lib.itoa n))) ∧ Below w.heap.size w w' := by
  unfold numOkI at h; simp at h
  exact rdigits_any n (by omega) (by omega) w
end Go.Proofs.YtjabcbagggicaaaGreatDoor
end

section
/-
  linchpinref6: told, Print, split, numbers, pre, Parse: what they return for strings of at most a million bytes; nothing that was there is changed.
-/
namespace Go.Proofs.YtjabcbagggicaaaGreatDoor
open Go.RowKit
set_option maxRecDepth 100000
set_option linter.unusedVariables false
set_option linter.unusedSimpArgs false
set_option maxHeartbeats 2000000

theorem signL_len (op : Int) : (signL op).length ≤ 2 := by
  unfold signL
  repeat' split
  all_goals decide
theorem join_len (b : UInt8) (m : Nat) : ∀ (l : List (List UInt8)), (∀ x ∈ l, x.length ≤ m) → (joinL b l).length ≤ l.length * (m + 1)
  | [], _ => by simp [joinL]
  | [x], h => by
    have := h x (List.mem_singleton.2 rfl)
    simp [joinL]; omega
  | x :: y :: r, h => by
    have h1 := h x (List.mem_cons_self ..)
    have h2 := join_len b m (y :: r) fun z hz => h z (List.mem_cons_of_mem _ hz)
    rw [joinL, List.length_append, List.length_cons]
    simp only [List.length_cons, Nat.add_mul] at h2 ⊢
    omega
theorem nums_len9 {v : Ver} (hv : v.may = true) {n : Nat} : ∀ x ∈ numsN v n, x.length ≤ 21 := fun x hx => by
  obtain ⟨k, hk, rfl⟩ := nums_mem hv hx
  have := itoa_len hk
  omega
theorem numsN_le (v : Ver) (n : Nat) : (numsN v n).length ≤ 3 := by unfold numsN; rw [List.length_take]; simp; omega
theorem njoin_len {v : Ver} (hv : v.may = true) (n : Nat) : (joinL 46 (numsN v n)).length ≤ 100 := by
  have h := join_len 46 21 (numsN v n) (nums_len9 hv)
  have := numsN_le v n
  omega
theorem sjoin_len {v : Ver} (hv : v.may = true) (n : Nat) : (joinL 46 (numsN v n ++ [[42]])).length ≤ 200 := by
  have h := join_len 46 21 (numsN v n ++ [[42]]) (fun x hx => by
    rcases List.mem_append.1 hx with hx | hx
    · exact nums_len9 hv x hx
    · rw [List.mem_singleton.1 hx]; decide)
  have := numsN_le v n
  rw [List.length_append] at h
  simp at h; omega
def toldC (v : Ver) : Array Value := #[.string (mkS (Lib.itoa v.maj)), .string (mkS (Lib.itoa v.min)), .string (mkS (Lib.itoa v.pat))]
theorem told_take (v : Ver) {n : Nat} (h : n ≤ 3) : (toldC v).toList.take (n * 1) = strV (numsN v n) := by
  rw [Nat.mul_one]
  unfold strV numsN
  rw [List.map_take]; rfl
theorem told_slt (v : Ver) {n : Nat} (h : n ≤ 3) (g : Nat) : SlT (.slice (some ⟨g, 0, none⟩) n 3) (numsN v n) [⟨g, toldC v, 9⟩] := by
  have e := numsN_len v h
  refine ⟨by rw [strV_length, e]; omega, .inr ⟨g, 3, toldC v, by rw [e], rfl, by rw [e]; exact h, by decide, rfl, ?_⟩⟩
  rw [e]; exact told_take v h
theorem strInfo : (Tryz.prog.info? 9).map (fun i => (i.zero.map (·.cells.size), i.size, i.bytes)) = some (some 1, 1, 16) := by kernel_rfl
theorem str_info : ∃ i z, Tryz.prog.info? 9 = some i ∧ i.zero = some z ∧ i.size = 1 ∧ z.cells.size = 1 ∧ i.bytes = 16 := by
  have h := strInfo
  cases hi : Tryz.prog.info? 9 with
  | none => rw [hi] at h; cases h
  | some i =>
    rw [hi] at h
    simp only [Option.map_some, Option.some.injEq, Prod.mk.injEq] at h
    cases hz : i.zero with
    | none => rw [hz] at h; simp at h
    | some z => rw [hz] at h; simp at h; exact ⟨i, z, rfl, hz, h.2.1, h.1, h.2.2⟩
theorem parts_nat {c : Co} (h : c.may = true) : ((c.parts.toNat : Nat) : Int) = c.parts ∧ c.parts.toNat ≤ 3 := by
  obtain ⟨_, _, _, h9, hn, _⟩ := Co.facts h
  by_cases e : c.op = 9
  · have := h9 e; omega
  · have := hn e; omega
theorem star_text {c : Co} (h9 : c.op = 9) : joinL 46 (numsN c.v c.parts.toNat ++ [[42]]) = c.text := by
  unfold Co.text Co.rest
  rw [h9, if_pos rfl]; rfl
theorem text_pre {c : Co} (h9 : ¬ c.op = 9) (hp : ¬ c.v.pre = []) : signL c.op ++ joinL 46 (numsN c.v c.parts.toNat) ++ [45] ++ c.v.pre = c.text := by
  unfold Co.text Co.rest tailS
  rw [if_neg h9]
  cases hq : c.v.pre with
  | nil => exact absurd hq hp
  | cons a r => simp
theorem text_bare {c : Co} (h9 : ¬ c.op = 9) (hp : c.v.pre = []) : signL c.op ++ joinL 46 (numsN c.v c.parts.toNat) = c.text := by
  unfold Co.text Co.rest tailS
  rw [if_neg h9, hp]; simp
theorem rctold_any (c : Co) (W : World) (hc : c.short) (hm : c.may = true) : Calls Tryz.prog 49 #[coV c] W fun e w' => ∃ v' ob', e = .returned v' ∧ (∃ g, v' = .slice (some ⟨g, 0, none⟩) c.parts.toNat 3 ∧ ob' = [⟨g, toldC c.v, 9⟩]) ∧ Own [] W w' ob' := by
  obtain ⟨m1, m2, m3⟩ := may_nums (Co.facts hm).2.1
  have hpn := parts_nat hm
  refine calls_ok (n := 21) Tryz.func49 rfl (by kernel_rfl) (by kernel_rfl) ?_
  refine ok_seq ?_
  refine ok_region ?_
  refine s_box (coV c) (by kernel_rfl) rfl (by kernel_rfl) (fun b1 => ?_)
  refine s_val (.slice none 0 0) (by kernel_rfl) (fun _ => by kernel_rfl) ?_
  refine s_nil ?_
  refine fin_seq ?_
  refine ok_seq ?_
  refine ok_anyh (by kernel_rfl) ?_
  refine h_take 0 [] _ (.pointer (some ⟨b1, 2, none⟩)) rfl (by kernel_rfl) (by kernel_rfl) (by kernel_rfl) (pq_seq pq_body) (by kernel_rfl) (fun _ _ => by kernel_rfl) ?_
  refine h_take 1 [] _ (.pointer (some ⟨b1, 2, none⟩)) rfl (by kernel_rfl) (by kernel_rfl) (by kernel_rfl) (pq_seq pq_body) (by kernel_rfl) (fun _ _ => by kernel_rfl) ?_
  refine h_load 2 [] _ 0 ⟨b1, (coV c).cells, 26⟩ (off := 2) (.int .i64 c.v.maj) rfl (by kernel_rfl) (by kernel_rfl) (by kernel_rfl) (pq_seq pq_body) (by kernel_rfl) rfl (by kernel_rfl) (by kernel_rfl) (by kernel_rfl) ?_
  refine h_take 4 [] _ (.pointer (some ⟨b1, 2, none⟩)) rfl (by kernel_rfl) (by kernel_rfl) (by kernel_rfl) (pq_seq pq_body) (by kernel_rfl) (fun _ _ => by kernel_rfl) ?_
  refine h_take 5 [] _ (.pointer (some ⟨b1, 3, none⟩)) rfl (by kernel_rfl) (by kernel_rfl) (by kernel_rfl) (pq_seq pq_body) (by kernel_rfl) (fun _ _ => by kernel_rfl) ?_
  refine h_load 6 [] _ 0 ⟨b1, (coV c).cells, 26⟩ (off := 3) (.int .i64 c.v.min) rfl (by kernel_rfl) (by kernel_rfl) (by kernel_rfl) (pq_seq pq_body) (by kernel_rfl) rfl (by kernel_rfl) (by kernel_rfl) (by kernel_rfl) ?_
  refine h_take 8 [] _ (.pointer (some ⟨b1, 2, none⟩)) rfl (by kernel_rfl) (by kernel_rfl) (by kernel_rfl) (pq_seq pq_body) (by kernel_rfl) (fun _ _ => by kernel_rfl) ?_
  refine h_take 9 [] _ (.pointer (some ⟨b1, 4, none⟩)) rfl (by kernel_rfl) (by kernel_rfl) (by kernel_rfl) (pq_seq pq_body) (by kernel_rfl) (fun _ _ => by kernel_rfl) ?_
  refine h_load 10 [] _ 0 ⟨b1, (coV c).cells, 26⟩ (off := 4) (.int .i64 c.v.pat) rfl (by kernel_rfl) (by kernel_rfl) (by kernel_rfl) (pq_seq pq_body) (by kernel_rfl) rfl (by kernel_rfl) (by kernel_rfl) (by kernel_rfl) ?_
  refine h_one 3 (by kernel_rfl) ?_
  refine hs_call [] _ (k := 85) (args := #[.int .i64 c.v.maj]) (.string (mkS (Lib.itoa c.v.maj))) rfl (by kernel_rfl) (fun _ => by kernel_rfl) (fun w _ => rdigits_mk c.v.maj m1 w) ?_
  refine h_one 7 (by kernel_rfl) ?_
  refine hs_call [] _ (k := 85) (args := #[.int .i64 c.v.min]) (.string (mkS (Lib.itoa c.v.min))) rfl (by kernel_rfl) (fun _ => by kernel_rfl) (fun w _ => rdigits_mk c.v.min m2 w) ?_
  refine h_one 11 (by kernel_rfl) ?_
  refine hs_call [] _ (k := 85) (args := #[.int .i64 c.v.pat]) (.string (mkS (Lib.itoa c.v.pat))) rfl (by kernel_rfl) (fun _ => by kernel_rfl) (fun w _ => rdigits_mk c.v.pat m3 w) ?_
  refine h_one 12 (by kernel_rfl) ?_
  refine hl_lit _ 9 #[.string (mkS (Lib.itoa c.v.maj)), .string (mkS (Lib.itoa c.v.min)), .string (mkS (Lib.itoa c.v.pat))] rfl (by kernel_rfl) rfl (fun w hO => Own.sub [] hO) (fun _ => by kernel_rfl) (fun b2 => ?_)
  refine h_take 13 [⟨b2, #[.string (mkS (Lib.itoa c.v.maj)), .string (mkS (Lib.itoa c.v.min)), .string (mkS (Lib.itoa c.v.pat))], 9⟩] _ (.slice (some ⟨b2, 0, none⟩) 3 3) rfl (by kernel_rfl) (by kernel_rfl) (by kernel_rfl) (pq_seq pq_body) (by kernel_rfl) (fun _ _ => by kernel_rfl) ?_
  refine h_done (by kernel_rfl) ?_
  refine fin_seq ?_
  refine ok_seq ?_
  refine ok_region ?_
  refine s_val (.slice (some ⟨b2, 0, none⟩) 3 3) (by kernel_rfl) (fun _ => by kernel_rfl) ?_
  refine s_val (.pointer (some ⟨b1, 1, none⟩)) (by kernel_rfl) (fun _ => by kernel_rfl) ?_
  refine s_load 1 ⟨b1, (coV c).cells, 26⟩ (off := 1) (.int .i64 c.parts) (by kernel_rfl) rfl (by kernel_rfl) (by kernel_rfl) (by kernel_rfl) ?_
  refine s_val (.slice (some ⟨b2, 0, none⟩) c.parts.toNat 3) (by kernel_rfl) (run_slhi (b := b2) (off := 0) (n := 3) (c := 3) (k := .i64) (j := c.parts) (e := 9) (sz := 1) rfl (by kernel_rfl) (by kernel_rfl) (by kernel_rfl) (by kernel_rfl) (by omega) (by omega)) ?_
  refine s_val (.slice (some ⟨b2, 0, none⟩) c.parts.toNat 3) (by kernel_rfl) (fun _ => by kernel_rfl) ?_
  refine s_nil ?_
  refine fin_seq ?_
  refine ok_ret ?_
  refine fin_ret (.slice (some ⟨b2, 0, none⟩) c.parts.toNat 3) Tryz.results49 (by kernel_rfl) ?_
  exact fun w hO => ⟨_, _, rfl, ⟨_, rfl, rfl⟩, hO.sublist (List.cons_sublist_cons.2 (List.nil_sublist _))⟩
theorem rcPrint_any (c : Co) (W : World) (hc : c.short) : Calls Tryz.prog 17 #[coV c] W fun e w' => e = .returned (.string (mkS c.print)) ∧ Below W.heap.size W w' := by
  refine calls_ok (n := 39) Tryz.func17 rfl (by kernel_rfl) (by kernel_rfl) ?_
  refine ok_seq ?_
  refine ok_region ?_
  refine s_box (coV c) (by kernel_rfl) rfl (by kernel_rfl) (fun b1 => ?_)
  refine s_val (.string ⟨#[]⟩) (by kernel_rfl) (fun _ => by kernel_rfl) ?_
  refine s_nil ?_
  refine fin_seq ?_
  refine ok_seq ?_
  refine ok_seq ?_
  refine ok_region ?_
  refine s_load 0 ⟨b1, (coV c).cells, 26⟩ (off := 0) (coV c) (by kernel_rfl) rfl (by kernel_rfl) (by kernel_rfl) (by kernel_rfl) ?_
  refine s_call (k := 16) (args := #[coV c]) (.bool c.may) (by kernel_rfl) (fun _ => by kernel_rfl) (fun w _ => rcMay_any c w hc) ?_
  cases h1 : c.may with
  | true =>
    refine s_val (.bool false) (by kernel_rfl) (fun _ => by kernel_rfl) ?_
    refine s_nil ?_
    refine fin_seq ?_
    refine ok_false (by kernel_rfl) ?_
    refine ok_skip ?_
    refine fin_seq ?_
    refine ok_seq ?_
    refine ok_region ?_
    refine s_load 0 ⟨b1, (coV c).cells, 26⟩ (off := 0) (coV c) (by kernel_rfl) rfl (by kernel_rfl) (by kernel_rfl) (by kernel_rfl) ?_
    have hcm := h1
    have hcv := (Co.facts hcm).2.1
    have hpn := parts_nat hcm
    refine s_callo (k := 49) (args := #[coV c]) (fun v' L' => ∃ g, v' = .slice (some ⟨g, 0, none⟩) c.parts.toNat 3 ∧ L' = ⟨g, toldC c.v, 9⟩ :: [⟨b1, (coV c).cells, 26⟩]) (by kernel_rfl) (fun _ => by kernel_rfl) (fun w hO => (rctold_any c w hc hcm).mono fun e w' ⟨v', ob', k1, ⟨g, k2, k4⟩, k3⟩ => ⟨v', _, k1, ⟨g, k2, rfl⟩, by subst k4; exact Own.joinN hO k3⟩) (fun v1 L1 hv1 => ?_)
    obtain ⟨g1, rfl, rfl⟩ := hv1
    refine s_val (.slice (some ⟨g1, 0, none⟩) c.parts.toNat 3) (by kernel_rfl) (fun _ => by kernel_rfl) ?_
    refine s_nil ?_
    refine fin_seq ?_
    refine ok_seq ?_
    refine ok_seq ?_
    refine ok_region ?_
    refine s_val (.pointer (some ⟨b1, 0, none⟩)) (by kernel_rfl) (fun _ => by kernel_rfl) ?_
    refine s_load 1 ⟨b1, (coV c).cells, 26⟩ (off := 0) (.int .i64 c.op) (by kernel_rfl) rfl (by kernel_rfl) (by kernel_rfl) (by kernel_rfl) ?_
    by_cases h2 : (c.op : Int) = 9
    · skip
      refine s_dec (p := (c.op : Int) = 9) true (by kernel_rfl) (fun _ => by kernel_rfl) (decide_eq_true (h2)) ?_
      refine s_nil ?_
      refine fin_seq ?_
      refine ok_true (by kernel_rfl) ?_
      refine ok_seq ?_
      refine ok_region ?_
      refine s_val (.slice (some ⟨g1, 0, none⟩) c.parts.toNat 3) (by kernel_rfl) (fun _ => by kernel_rfl) ?_
      refine s_val (.pointer (some ⟨b1, 1, none⟩)) (by kernel_rfl) (fun _ => by kernel_rfl) ?_
      refine s_load 1 ⟨b1, (coV c).cells, 26⟩ (off := 1) (.int .i64 c.parts) (by kernel_rfl) rfl (by kernel_rfl) (by kernel_rfl) (by kernel_rfl) ?_
      refine s_val (.pointer (some ⟨b1, 1, none⟩)) (by kernel_rfl) (fun _ => by kernel_rfl) ?_
      refine s_load 1 ⟨b1, (coV c).cells, 26⟩ (off := 1) (.int .i64 c.parts) (by kernel_rfl) rfl (by kernel_rfl) (by kernel_rfl) (by kernel_rfl) ?_
      refine s_val (.slice (some ⟨g1, 0, none⟩) c.parts.toNat c.parts.toNat) (by kernel_rfl) (run_slhm (b := g1) (n := c.parts.toNat) (c := 3) (k := .i64) (q := .i64) (j := c.parts) (m := c.parts) (e := 9) (sz := 1) rfl (by kernel_rfl) (by kernel_rfl) (by kernel_rfl) (by kernel_rfl) (by kernel_rfl) (by omega) (by omega) (by omega)) ?_
      refine s_lit 9 #[.string ⟨#[42]⟩] (by kernel_rfl) rfl (fun _ => by kernel_rfl) (fun b2 => ?_)
      obtain ⟨i0, z0, e1, e2, e3, e4, e5⟩ := str_info
      refine s_appendF (sz := 1) (by kernel_rfl) rfl Tryz.underlying56 e1 e2 e3 e4 (b := ⟨g1, 0, none⟩) (n := c.parts.toNat) (cap := c.parts.toNat) (xs := strV (numsN c.v c.parts.toNat)) (by kernel_rfl) (by rw [strV_length, numsN_len c.v hpn.2, Nat.mul_one]) (fun w hO j u hj => ?_) (a := ⟨b2, 0, none⟩) (m := 1) (c := 1) (news := strV [[42]]) (by kernel_rfl) (by kernel_rfl) (fun w hO j u hj => ?_) (by omega) (by unfold maxLen; omega) (by rw [e5]; omega) (fun va oa hva0 => ?_)
      · rw [← told_take c.v hpn.2, Nat.mul_one, List.getElem?_take] at hj
        split at hj
        · rw [add_off, cell_of_row w g1 (0 + j) (toldC c.v) 9 _ (hO.held ⟨g1, toldC c.v, 9⟩ (by simp))]; simpa using hj
        · cases hj
      · rw [add_off, cell_of_row w b2 (0 + j) (strV [[42]]).toArray 9 _ (hO.held ⟨b2, (strV [[42]]).toArray, 9⟩ List.mem_cons_self)]; simpa using hj
      have hva : SlT va (numsN c.v c.parts.toNat ++ [[42]]) oa := hva0.to (by rw [List.length_append, numsN_len c.v hpn.2]; rfl) (by unfold strV; rw [List.map_append])
      refine s_call (k := 50) (args := #[va, .int .u8 46]) (.string (mkS (joinL 46 (numsN c.v c.parts.toNat ++ [[42]])))) (by kernel_rfl) (fun _ => by kernel_rfl) (fun w hO => rjoin_any va _ 46 w (SlT.readsT hva hO (fun x hx => by simp [hx])) (Nat.le_trans (sjoin_len hcv _) (by decide)) (by rw [List.length_append]; have := numsN_le c.v c.parts.toNat; simp; omega)) ?_
      refine s_val (.string (mkS (joinL 46 (numsN c.v c.parts.toNat ++ [[42]])))) (by kernel_rfl) (fun _ => by kernel_rfl) ?_
      refine s_nil ?_
      refine fin_seq ?_
      refine ok_ret ?_
      refine fin_seq_ret ?_
      refine fin_ret (.string (mkS (joinL 46 (numsN c.v c.parts.toNat ++ [[42]])))) Tryz.results17 (by kernel_rfl) ?_
      exact fun w hO => ⟨by rw [co_print hcm, ← star_text h2], hO.below⟩
    · skip
      refine s_dec (p := (c.op : Int) = 9) false (by kernel_rfl) (fun _ => by kernel_rfl) (decide_eq_false (h2)) ?_
      refine s_nil ?_
      refine fin_seq ?_
      refine ok_false (by kernel_rfl) ?_
      refine ok_skip ?_
      refine fin_seq ?_
      refine ok_seq ?_
      refine ok_region ?_
      refine s_val (.pointer (some ⟨b1, 0, none⟩)) (by kernel_rfl) (fun _ => by kernel_rfl) ?_
      refine s_load 1 ⟨b1, (coV c).cells, 26⟩ (off := 0) (.int .i64 c.op) (by kernel_rfl) rfl (by kernel_rfl) (by kernel_rfl) (by kernel_rfl) ?_
      refine s_call (k := 51) (args := #[.int .i64 c.op]) (.string (mkS (signL c.op))) (by kernel_rfl) (fun _ => by kernel_rfl) (fun w _ => rcsign_any c.op w) ?_
      refine s_val (.slice (some ⟨g1, 0, none⟩) c.parts.toNat 3) (by kernel_rfl) (fun _ => by kernel_rfl) ?_
      refine s_call (k := 50) (args := #[.slice (some ⟨g1, 0, none⟩) c.parts.toNat 3, .int .u8 46]) (.string (mkS (joinL 46 (numsN c.v c.parts.toNat)))) (by kernel_rfl) (fun _ => by kernel_rfl) (fun w hO => rjoin_any _ _ 46 w (SlT.readsT (told_slt c.v hpn.2 g1) hO (fun x hx => by rw [List.mem_singleton.1 hx]; exact List.mem_cons_self)) (Nat.le_trans (njoin_len hcv _) (by decide)) (Nat.le_trans (numsN_le _ _) (by decide))) ?_
      refine s_val (.string (mkS ((signL c.op) ++ (joinL 46 (numsN c.v c.parts.toNat))))) (by kernel_rfl) (run_stradd (a := (signL c.op)) (b := (joinL 46 (numsN c.v c.parts.toNat))) rfl (by kernel_rfl) (by kernel_rfl) (by have q1 := signL_len c.op; have q2 := njoin_len hcv c.parts.toNat; have q3 := hc.1; first | omega | (simp only [List.length_append, List.length_cons, List.length_nil]; omega))) ?_
      refine s_val (.string (mkS ((signL c.op) ++ (joinL 46 (numsN c.v c.parts.toNat))))) (by kernel_rfl) (fun _ => by kernel_rfl) ?_
      refine s_nil ?_
      refine fin_seq ?_
      refine ok_seq ?_
      refine ok_seq ?_
      refine ok_region ?_
      refine s_val (.pointer (some ⟨b1, 2, none⟩)) (by kernel_rfl) (fun _ => by kernel_rfl) ?_
      refine s_val (.pointer (some ⟨b1, 5, none⟩)) (by kernel_rfl) (fun _ => by kernel_rfl) ?_
      refine s_load 1 ⟨b1, (coV c).cells, 26⟩ (off := 5) (.string (mkS c.v.pre)) (by kernel_rfl) rfl (by kernel_rfl) (by kernel_rfl) (by kernel_rfl) ?_
      by_cases h3 : (c.v.pre : List UInt8) = []
      · skip
        refine s_val (.bool false) (by kernel_rfl) (run_strneq (a := c.v.pre) (b := ([])) rfl (by kernel_rfl) (by kernel_rfl) (decide_eq_true (h3))) ?_
        refine s_nil ?_
        refine fin_seq ?_
        refine ok_false (by kernel_rfl) ?_
        refine ok_skip ?_
        refine fin_seq ?_
        refine ok_seq ?_
        refine ok_region ?_
        refine s_val (.string (mkS ((signL c.op) ++ (joinL 46 (numsN c.v c.parts.toNat))))) (by kernel_rfl) (fun _ => by kernel_rfl) ?_
        refine s_val (.string (mkS ((signL c.op) ++ (joinL 46 (numsN c.v c.parts.toNat))))) (by kernel_rfl) (fun _ => by kernel_rfl) ?_
        refine s_nil ?_
        refine fin_seq ?_
        refine ok_ret ?_
        refine fin_ret (.string (mkS ((signL c.op) ++ (joinL 46 (numsN c.v c.parts.toNat))))) Tryz.results17 (by kernel_rfl) ?_
        exact fun w hO => ⟨by rw [co_print hcm, ← text_bare h2 h3], hO.below⟩
      · skip
        refine s_val (.bool true) (by kernel_rfl) (run_strneq (a := c.v.pre) (b := ([])) rfl (by kernel_rfl) (by kernel_rfl) (decide_eq_false (h3))) ?_
        refine s_nil ?_
        refine fin_seq ?_
        refine ok_true (by kernel_rfl) ?_
        refine ok_region ?_
        refine s_val (.string (mkS ((signL c.op) ++ (joinL 46 (numsN c.v c.parts.toNat))))) (by kernel_rfl) (fun _ => by kernel_rfl) ?_
        refine s_val (.string (mkS (((signL c.op) ++ (joinL 46 (numsN c.v c.parts.toNat))) ++ [45]))) (by kernel_rfl) (run_stradd (a := ((signL c.op) ++ (joinL 46 (numsN c.v c.parts.toNat)))) (b := [45]) rfl (by kernel_rfl) (by kernel_rfl) (by have q1 := signL_len c.op; have q2 := njoin_len hcv c.parts.toNat; have q3 := hc.1; first | omega | (simp only [List.length_append, List.length_cons, List.length_nil]; omega))) ?_
        refine s_val (.pointer (some ⟨b1, 2, none⟩)) (by kernel_rfl) (fun _ => by kernel_rfl) ?_
        refine s_val (.pointer (some ⟨b1, 5, none⟩)) (by kernel_rfl) (fun _ => by kernel_rfl) ?_
        refine s_load 1 ⟨b1, (coV c).cells, 26⟩ (off := 5) (.string (mkS c.v.pre)) (by kernel_rfl) rfl (by kernel_rfl) (by kernel_rfl) (by kernel_rfl) ?_
        refine s_val (.string (mkS ((((signL c.op) ++ (joinL 46 (numsN c.v c.parts.toNat))) ++ [45]) ++ c.v.pre))) (by kernel_rfl) (run_stradd (a := (((signL c.op) ++ (joinL 46 (numsN c.v c.parts.toNat))) ++ [45])) (b := c.v.pre) rfl (by kernel_rfl) (by kernel_rfl) (by have q1 := signL_len c.op; have q2 := njoin_len hcv c.parts.toNat; have q3 := hc.1; first | omega | (simp only [List.length_append, List.length_cons, List.length_nil]; omega))) ?_
        refine s_val (.string (mkS ((((signL c.op) ++ (joinL 46 (numsN c.v c.parts.toNat))) ++ [45]) ++ c.v.pre))) (by kernel_rfl) (fun _ => by kernel_rfl) ?_
        refine s_nil ?_
        refine fin_seq ?_
        refine ok_seq ?_
        refine ok_region ?_
        refine s_val (.string (mkS ((((signL c.op) ++ (joinL 46 (numsN c.v c.parts.toNat))) ++ [45]) ++ c.v.pre))) (by kernel_rfl) (fun _ => by kernel_rfl) ?_
        refine s_val (.string (mkS ((((signL c.op) ++ (joinL 46 (numsN c.v c.parts.toNat))) ++ [45]) ++ c.v.pre))) (by kernel_rfl) (fun _ => by kernel_rfl) ?_
        refine s_nil ?_
        refine fin_seq ?_
        refine ok_ret ?_
        refine fin_ret (.string (mkS ((((signL c.op) ++ (joinL 46 (numsN c.v c.parts.toNat))) ++ [45]) ++ c.v.pre))) Tryz.results17 (by kernel_rfl) ?_
        exact fun w hO => ⟨by rw [co_print hcm, ← text_pre h2 h3], hO.below⟩
  | false =>
    refine s_val (.bool true) (by kernel_rfl) (fun _ => by kernel_rfl) ?_
    refine s_nil ?_
    refine fin_seq ?_
    refine ok_true (by kernel_rfl) ?_
    refine ok_seq ?_
    refine ok_region ?_
    refine s_val (.string ⟨#[]⟩) (by kernel_rfl) (fun _ => by kernel_rfl) ?_
    refine s_nil ?_
    refine fin_seq ?_
    refine ok_ret ?_
    refine fin_seq_ret ?_
    refine fin_ret (.string ⟨#[]⟩) Tryz.results17 (by kernel_rfl) ?_
    exact fun w hO => ⟨by unfold Co.print; simp [h1]; rfl, hO.below⟩
end Go.Proofs.YtjabcbagggicaaaGreatDoor
end

section
/-
  linchpinref6: split, pre, numbers: what they return for strings of at most a million bytes; nothing that was there is changed.
-/
namespace Go.Proofs.YtjabcbagggicaaaGreatDoor
open Go.RowKit
set_option maxRecDepth 100000
set_option linter.unusedVariables false
set_option linter.unusedSimpArgs false
set_option maxHeartbeats 2000000

def numsOk (l : List (List UInt8)) : Bool := decide (l.length ≤ 3) && l.all numI
def numsVal (l : List (List UInt8)) : Ver := if numsOk l then ⟨numD (tg l 0), numD (tg l 1), numD (tg l 2), [], []⟩ else Ver.zero
theorem tgi_get {l : List (List UInt8)} {i : Nat} (h : i < l.length) : l[i] = tg l i := by
  unfold tg
  rw [List.getElem?_eq_getElem h]; rfl
theorem tgi_out {l : List (List UInt8)} {i : Nat} (h : l.length ≤ i) : numD (tg l i) = 0 := by
  unfold tg
  rw [List.getElem?_eq_none h]; rfl
end Go.Proofs.YtjabcbagggicaaaGreatDoor
end

section
/-
  linchpinref6: numbers: what it returns for strings of at most a million bytes; nothing that was there is changed.
-/
namespace Go.Proofs.YtjabcbagggicaaaGreatDoor
open Go.RowKit
set_option maxRecDepth 100000
set_option linter.unusedVariables false
set_option linter.unusedSimpArgs false
set_option maxHeartbeats 2000000

end Go.Proofs.YtjabcbagggicaaaGreatDoor
end

section
/-
  linchpinref6: Parse: what it returns for strings of at most a million bytes; nothing that was there is changed.
-/
namespace Go.Proofs.YtjabcbagggicaaaGreatDoor
open Go.RowKit
set_option maxRecDepth 100000
set_option linter.unusedVariables false
set_option linter.unusedSimpArgs false
set_option maxHeartbeats 2000000

def pcV (s : List UInt8) : Co := (parseC s).getD ⟨0, 0, Ver.zero⟩
def pcE (s : List UInt8) : Int := if (parseC s).isSome then 0 else 6
theorem pc_none {s : List UInt8} (h : parseC s = none) : pcV s = ⟨0, 0, Ver.zero⟩ ∧ pcE s = 6 := by unfold pcV pcE; rw [h]; exact ⟨rfl, rfl⟩
theorem pc_some {s : List UInt8} {c : Co} (h : parseC s = some c) : pcV s = c ∧ pcE s = 0 := by unfold pcV pcE; rw [h]; exact ⟨rfl, rfl⟩
theorem tg_short {l : List (List UInt8)} (h : ∀ x ∈ l, x.length ≤ 1000000) (i : Nat) : (tg l i).length ≤ 1000000 := by
  unfold tg
  cases hq : l[i]? with
  | none => exact Nat.zero_le _
  | some x => exact h x (List.mem_of_getElem? hq)
end Go.Proofs.YtjabcbagggicaaaGreatDoor
end

section
/-
  Plain mathematics of the landed package comp: how it reads a string, where its cuts lie. No condition of its own.
-/
namespace Go.Proofs.YtjabcbagggicaaaGreatDoor
set_option linter.unusedVariables false
set_option linter.unusedSimpArgs false

/-! ### Cut at the first dots, k at most -/
def pcsK : Nat → List UInt8 → List (List UInt8)
  | 0, s => [s]
  | k + 1, s => if (cutAt 46 s).2.2 then (cutAt 46 s).1 :: pcsK k (cutAt 46 s).2.1 else [s]
theorem pcsK_len : ∀ (k : Nat) (s : List UInt8), 1 ≤ (pcsK k s).length ∧ (pcsK k s).length ≤ k + 1
  | 0, s => ⟨Nat.le_refl _, Nat.le_refl _⟩
  | k + 1, s => by
    have h := pcsK_len k (cutAt 46 s).2.1
    unfold pcsK
    split
    · simp only [List.length_cons]; omega
    · simp only [List.length_cons, List.length_nil]; omega
theorem pcsK_mem : ∀ (k : Nat) (s : List UInt8), ∀ x ∈ pcsK k s, x.length ≤ s.length
  | 0, s, x, hx => by rw [List.mem_singleton.1 hx]; exact Nat.le_refl _
  | k + 1, s, x, hx => by
    unfold pcsK at hx
    have hl := cutAt_le 46 s
    split at hx
    · rcases List.mem_cons.1 hx with e | hx
      · rw [e]; omega
      · have := pcsK_mem k (cutAt 46 s).2.1 x hx; omega
    · rw [List.mem_singleton.1 hx]; exact Nat.le_refl _
theorem pcsK_join : ∀ (k : Nat) (l : List (List UInt8)), l ≠ [] → l.length ≤ k + 1 → (∀ x ∈ l, (46 : UInt8) ∉ x) → pcsK k (joinL 46 l) = l
  | _, [], h, _, _ => absurd rfl h
  | 0, [x], _, _, _ => rfl
  | k + 1, [x], _, _, h => by
    unfold pcsK
    show (if (cutAt 46 x).2.2 = true then _ else _) = _
    rw [cutAt_miss 46 x (h x (List.mem_singleton.2 rfl))]
    exact if_neg Bool.false_ne_true
  | 0, x :: y :: r, _, hl, _ => by simp at hl
  | k + 1, x :: y :: r, _, hl, h => by
    have ih := pcsK_join k (y :: r) (by simp) (by simpa using hl) fun z hz => h z (List.mem_cons_of_mem _ hz)
    unfold pcsK
    rw [joinL, cutAt_hit 46 _ _ (h x (List.mem_cons_self ..)), if_pos rfl]
    dsimp only
    rw [ih]

/-! ### How a string is read -/
/-- The operator of the longest sign among the first k, and what is behind it. -/
def sgo (s : List UInt8) : Nat → Int × List UInt8
  | 0 => (7, s)
  | k + 1 => if beginsL s (signL ((k + 1 : Nat) : Int)) = true ∧ (s.drop (signL ((k + 1 : Nat) : Int)).length).length < (sgo s k).2.length then (((k + 1 : Nat) : Int), s.drop (signL ((k + 1 : Nat) : Int)).length) else sgo s k
theorem sgo_le (s : List UInt8) : ∀ k, (sgo s k).2.length ≤ s.length
  | 0 => Nat.le_refl _
  | k + 1 => by
    unfold sgo
    split
    · show (s.drop _).length ≤ _; rw [List.length_drop]; omega
    · exact sgo_le s k
def piecesP (s : List UInt8) : List (List UInt8) := pcsK 2 (cutAt 45 (sgo s 8).2).1
def starP (s : List UInt8) : Bool := decide ((piecesP s).getLast? = some [42])
def guessP (s : List UInt8) : Co := ⟨if starP s then 9 else (sgo s 8).1, if starP s then ((piecesP s).length : Int) - 1 else ((piecesP s).length : Int), ⟨numD (tg (piecesP s) 0), numD (tg (piecesP s) 1), numD (tg (piecesP s) 2), (cutAt 45 (sgo s 8).2).2.1, []⟩⟩
theorem nob {d a : UInt8} {r t : List UInt8} (h : d ≠ a) : ¬ (beginsL (d :: r) (a :: t) = true) := by rw [not_begins h]; decide
theorem sgo_plain {d : UInt8} {r : List UInt8} (h : digB d.toNat = true ∨ d = 42) : sgo (d :: r) 8 = (7, d :: r) := by
  have hd : ∀ a : UInt8, digB a.toNat = false → a ≠ 42 → d ≠ a := fun a ha h42 e => by
    subst e
    rcases h with h | h
    · rw [ha] at h; cases h
    · exact h42 h
  have hb : ∀ k : Nat, 1 ≤ k → k ≤ 8 → ¬ (beginsL (d :: r) (signL (k : Int)) = true) := fun k h1 h8 => by
    have hk : k = 1 ∨ k = 2 ∨ k = 3 ∨ k = 4 ∨ k = 5 ∨ k = 6 ∨ k = 7 ∨ k = 8 := by omega
    rcases hk with rfl | rfl | rfl | rfl | rfl | rfl | rfl | rfl
    · exact nob (hd 61 (by decide) (by decide))
    · exact nob (hd 33 (by decide) (by decide))
    · exact nob (hd 60 (by decide) (by decide))
    · exact nob (hd 60 (by decide) (by decide))
    · exact nob (hd 62 (by decide) (by decide))
    · exact nob (hd 62 (by decide) (by decide))
    · exact nob (hd 94 (by decide) (by decide))
    · exact nob (hd 126 (by decide) (by decide))
  have : ∀ k : Nat, k ≤ 8 → sgo (d :: r) k = (7, d :: r) := fun k => by
    induction k with
    | zero => intro _; rfl
    | succ k ih =>
      intro h8
      unfold sgo
      rw [if_neg (fun q => hb (k + 1) (by omega) h8 q.1)]
      exact ih (by omega)
  exact this 8 (by decide)
theorem sgo_sign {op : Int} (h1 : 1 ≤ op) (h8 : op ≤ 8) {d : UInt8} {r : List UInt8} (hd : digB d.toNat = true) : sgo (signL op ++ d :: r) 8 = (op, d :: r) := by
  have h61 : d ≠ 61 := fun e => by subst e; revert hd; decide
  have hop : op = 1 ∨ op = 2 ∨ op = 3 ∨ op = 4 ∨ op = 5 ∨ op = 6 ∨ op = 7 ∨ op = 8 := by omega
  rcases hop with rfl | rfl | rfl | rfl | rfl | rfl | rfl | rfl <;> simp [signL, sgo, beginsL, h61]
theorem numD_star : numD [42] = 0 := by decide
theorem tg_star {v : Ver} (hv : v.may = true) {n : Nat} (h : n ≤ 2) (h0 : 0 < n ∨ v.maj = 0) (h1 : 1 < n ∨ v.min = 0) (h2 : 2 < n ∨ v.pat = 0) : numD (tg (numsN v n ++ [[42]]) 0) = v.maj ∧ numD (tg (numsN v n ++ [[42]]) 1) = v.min ∧ numD (tg (numsN v n ++ [[42]]) 2) = v.pat := by
  obtain ⟨m1, m2, m3⟩ := may_nums hv
  have e1 := numD_itoa m1
  have e2 := numD_itoa m2
  match n, h with
  | 0, _ => exact ⟨numD_star.trans (h0.resolve_left (by decide)).symm, (h1.resolve_left (by decide)).symm, (h2.resolve_left (by decide)).symm⟩
  | 1, _ => exact ⟨e1, numD_star.trans (h1.resolve_left (by decide)).symm, (h2.resolve_left (by decide)).symm⟩
  | 2, _ => exact ⟨e1, e2, numD_star.trans (h2.resolve_left (by decide)).symm⟩
/-- What a valid comparator's string is cut into, behind its sign. -/
theorem rest_pieces {c : Co} (h : c.may = true) : pcsK 2 (cutAt 45 c.rest).1 = (if c.op = 9 then numsN c.v c.parts.toNat ++ [[42]] else numsN c.v c.parts.toNat) ∧ (cutAt 45 c.rest).2.1 = c.v.pre := by
  obtain ⟨_, hv, hb, h9, hn, hp, k0, k1, k2⟩ := Co.facts h
  unfold Co.rest
  by_cases e : c.op = 9
  · rw [if_pos e, if_pos e]
    have f : ∀ b : UInt8, digB b.toNat = false → b ≠ 42 → ∀ x ∈ numsN c.v c.parts.toNat ++ [[42]], b ∉ x := fun b hb hb2 x hx => by
      rcases List.mem_append.1 hx with hx | hx
      · exact nums_free hv b hb x hx
      · rw [List.mem_singleton.1 hx]
        intro hm
        exact hb2 (List.mem_singleton.1 hm)
    rw [cutAt_miss 45 _ (join_free 45 (by decide) _ (f 45 (by decide) (by decide)))]
    have hq := h9 e
    have hpre : c.v.pre = [] := hp.resolve_left (by omega)
    refine ⟨?_, hpre.symm⟩
    refine pcsK_join 2 _ (by simp) ?_ (f 46 (by decide) (by decide))
    rw [List.length_append, numsN_len c.v (by omega)]
    simp only [List.length_cons, List.length_nil]; omega
  · rw [if_neg e, if_neg e]
    have hq := hn e
    have hlen := numsN_len c.v (n := c.parts.toNat) (by omega)
    have hne : numsN c.v c.parts.toNat ≠ [] := fun h0 => by
      rw [h0] at hlen
      simp at hlen; omega
    rw [cut_tail 45 _ _ (join_free 45 (by decide) _ (nums_free hv 45 (by decide)))]
    exact ⟨pcsK_join 2 _ hne (by omega) (nums_free hv 46 (by decide)), rfl⟩
theorem nums_last {c : Co} (h : c.may = true) (hn : ¬ c.op = 9) : ¬ (numsN c.v c.parts.toNat).getLast? = some [42] := fun hl => by
  have hv := (Co.facts h).2.1
  have := nums_free hv 42 (by decide) _ (List.mem_of_getLast? hl)
  exact this (List.mem_singleton.2 rfl)
theorem guess_of {c : Co} {s : List UInt8} (h : c.may = true) (hs : (sgo s 8).2 = c.rest) (ho : c.op = 9 ∨ (sgo s 8).1 = c.op) : guessP s = c := by
  obtain ⟨_, hv, hb, h9, hn, hp, k0, k1, k2⟩ := Co.facts h
  obtain ⟨p1, p2⟩ := rest_pieces h
  have hpc : piecesP s = if c.op = 9 then numsN c.v c.parts.toNat ++ [[42]] else numsN c.v c.parts.toNat := by unfold piecesP; rw [hs]; exact p1
  unfold guessP
  rw [hs, p2]
  by_cases e : c.op = 9
  · have hq := h9 e
    rw [if_pos e] at hpc
    have hst : starP s = true := by unfold starP; rw [hpc, List.getLast?_concat]; exact decide_eq_true rfl
    obtain ⟨e1, e2, e3⟩ := tg_star hv (n := c.parts.toNat) (by omega) (by omega) (by omega) (by omega)
    rw [hst, hpc, if_pos rfl, if_pos rfl, e1, e2, e3, List.length_append, numsN_len c.v (by omega), List.length_singleton]
    obtain ⟨op, parts, a, b, d, q, r⟩ := c
    simp only at hb e hq ⊢
    rw [hb, e]
    congr 1
    omega
  · have hq := hn e
    rw [if_neg e] at hpc
    have hst : starP s = false := by unfold starP; rw [hpc]; exact decide_eq_false (nums_last h e)
    obtain ⟨e1, e2, e3⟩ := nums_back hv (n := c.parts.toNat) (by omega) (by omega) (by omega) (by omega)
    rw [hst, hpc, if_neg (by decide), if_neg (by decide), e1, e2, e3, numsN_len c.v (by omega), ho.resolve_left e]
    obtain ⟨op, parts, a, b, d, q, r⟩ := c
    simp only at hb hq ⊢
    rw [hb]
    congr 1
    omega
theorem guess_co {c : Co} {s : List UInt8} (h : c.may = true) (hs : c.text = s ∨ c.text = 94 :: s) : guessP s = c := by
  obtain ⟨ho, _⟩ := Co.facts h
  by_cases hn : c.op = 9
  · obtain ⟨d, r, e, hd⟩ := star_head h hn
    have ht : c.text = d :: r := by unfold Co.text; rw [hn, show signL 9 = [] from rfl, List.nil_append, e]
    rcases hs with hs | hs
    · rw [ht] at hs
      rw [← hs]
      exact guess_of h (by rw [sgo_plain hd, e]) (.inl hn)
    · rw [ht] at hs
      injection hs with e1 _
      rw [e1] at hd
      exact absurd hd (by decide)
  · obtain ⟨d, r, e, hd⟩ := rest_head h hn
    have ht : c.text = signL c.op ++ d :: r := by unfold Co.text; rw [e]
    have hs8 := sgo_sign ho.1 (by omega) (r := r) hd
    rcases hs with hs | hs
    · rw [ht] at hs
      rw [← hs]
      exact guess_of h (by rw [hs8, e]) (.inr (by rw [hs8]))
    · rw [ht] at hs
      have hop : c.op = 1 ∨ c.op = 2 ∨ c.op = 3 ∨ c.op = 4 ∨ c.op = 5 ∨ c.op = 6 ∨ c.op = 7 ∨ c.op = 8 := by omega
      have h7 : c.op = 7 := by rcases hop with e2 | e2 | e2 | e2 | e2 | e2 | e2 | e2 <;> rw [e2] at hs <;> first | exact e2 | simp [signL] at hs
      rw [h7] at hs
      have hs2 : d :: r = s := by injection hs
      rw [← hs2]
      exact guess_of h (by rw [sgo_plain (.inl hd), e]) (.inr (by rw [sgo_plain (.inl hd), h7]))
theorem guess_nil : guessP [] = ⟨7, 1, ⟨0, 0, 0, [], []⟩⟩ := by decide
theorem fits_may {s : List UInt8} (h : (guessP s).print = s ∨ (guessP s).print = 94 :: s) : (guessP s).may = true := by
  refine print_may fun e => ?_
  rw [e] at h
  rcases h with h | h
  · subst h
    revert e
    rw [guess_nil]
    decide +kernel
  · cases h
/-- The program's way of reading is the document's. -/
theorem prog_some {s : List UInt8} (h : (guessP s).print = s ∨ (guessP s).print = 94 :: s) : parseC s = some (guessP s) := by
  have hm := fits_may h
  rw [co_print hm] at h
  exact (parseC_iff s _).2 ⟨hm, h⟩
theorem prog_none {s : List UInt8} (h : ¬ ((guessP s).print = s ∨ (guessP s).print = 94 :: s)) : parseC s = none := by
  cases hp : parseC s with
  | none => rfl
  | some c =>
    obtain ⟨hm, ht⟩ := (parseC_iff s c).1 hp
    have hg := guess_co hm ht
    rw [hg, co_print hm] at h
    exact absurd ht h

/-! ### Where the cuts lie -/
theorem may_core6 {c : Co} (h : c.may = true) : coreV c.v = c.v := by
  obtain ⟨_, _, hb, _⟩ := Co.facts h
  obtain ⟨op, parts, a, b, d, q, r⟩ := c
  simp only at hb ⊢
  rw [hb]; rfl
theorem low6 {c : Co} (h : c.may = true) : c.low = ⟨0, c.v, false⟩ := by unfold Co.low; rw [may_core6 h]
/-- Where what a comparator names ends. -/
def behC (c : Co) : Cu := if c.parts = 3 then ⟨0, c.v, true⟩ else if c.parts = 0 then endC 1 else highC c.v (c.parts - 1).toNat
theorem beh_aft {c : Co} (h : c.may = true) (h0 : ¬ c.parts = 0) : behC c = c.aft := by
  obtain ⟨_, _, _, h9, hn, _⟩ := Co.facts h
  have hp : 0 ≤ c.parts ∧ c.parts ≤ 3 := by
    by_cases e : c.op = 9
    · have := h9 e; omega
    · have := hn e; omega
  unfold behC Co.aft
  by_cases h3 : c.parts = 3
  · rw [if_pos h3, if_neg (by omega), may_core6 h]
  · rw [if_neg h3, if_neg h0, if_pos (by omega)]
def leadK (c : Co) : Int := if ¬ c.v.maj = 0 then 0 else if ¬ c.v.min = 0 then 1 else if ¬ c.v.pat = 0 then 2 else c.parts - 1
theorem lead_turns {c : Co} (h : c.may = true) (h7 : ¬ c.op = 9) : leadK c = (turnsK c : Int) := by
  obtain ⟨_, hv, _, _, hn, _, k0, k1, k2⟩ := Co.facts h
  have hq := hn h7
  obtain ⟨m1, m2, m3⟩ := may_nat hv
  unfold leadK turnsK
  repeat' split
  all_goals omega
/-- The cuts between which the versions lie, as the landed code finds them. -/
def boundC (c : Co) : Cu × Cu :=
  if c.op = 3 then (endC (-1), ⟨0, c.v, false⟩) else if c.op = 4 then (endC (-1), behC c) else if c.op = 5 then (behC c, endC 1) else if c.op = 6 then (⟨0, c.v, false⟩, endC 1)
  else if c.op = 7 then (⟨0, c.v, false⟩, highC c.v (leadK c).toNat) else if c.op = 8 then (⟨0, c.v, false⟩, highC c.v (min (c.parts - 1) 1).toNat) else if c.parts = 0 then (endC (-1), endC 1) else (⟨0, c.v, false⟩, behC c)
theorem bound_span {c : Co} (h : c.may = true) : boundC c = c.span := by
  obtain ⟨ho, _, _, h9, hn, _⟩ := Co.facts h
  have e0 : ¬ c.op = 9 → behC c = c.aft := fun e => beh_aft h (by have := hn e; omega)
  have el := low6 h
  have hop : c.op = 1 ∨ c.op = 2 ∨ c.op = 3 ∨ c.op = 4 ∨ c.op = 5 ∨ c.op = 6 ∨ c.op = 7 ∨ c.op = 8 ∨ c.op = 9 := by omega
  unfold boundC Co.span
  rcases hop with e | e | e | e | e | e | e | e | e
  · have := hn (by omega); simp [e, el, e0 (by omega), show ¬ c.parts = 0 by omega]
  · have := hn (by omega); simp [e, el, e0 (by omega), show ¬ c.parts = 0 by omega]
  · simp [e, el]
  · simp [e, e0 (by omega)]
  · simp [e, e0 (by omega)]
  · simp [e, el]
  · have := lead_turns h (by omega); simp [e, el, this]
  · simp [e, el]
  · have hq := h9 e
    by_cases h0 : c.parts = 0
    · simp [e, h0]
    · have hb : behC c = highC c.v (c.parts - 1).toNat := by unfold behC; rw [if_neg (by omega), if_neg h0]
      simp [e, h0, el, hb]
end Go.Proofs.YtjabcbagggicaaaGreatDoor
end
