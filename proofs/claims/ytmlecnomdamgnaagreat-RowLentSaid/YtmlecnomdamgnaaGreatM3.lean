/-
  What the statements' proofs lean on, part 3: each part begins with a remark that says what it proves and on what conditions.
-/
import Derived.Test.YtmlecnomdamgnaaGreatM2

section
/-
  Package cut and the document's own answer for chapter 3: May, Compare, Ahead, SpanMay, Holds of both: what they return for cuts and versions whose strings have at most a million bytes; nothing that was there is changed.
-/
namespace Go.Proofs.YtmlecnomdamgnaaGreat
open Go.RowKit
set_option maxRecDepth 100000
set_option linter.unusedVariables false
set_option linter.unusedSimpArgs false
set_option maxHeartbeats 2000000

def Cu.short (c : Cu) : Prop := c.v.pre.length ≤ 1000000 ∧ c.v.build.length ≤ 1000000
def Ver.short (v : Ver) : Prop := v.pre.length ≤ 1000000 ∧ v.build.length ≤ 1000000
def Sp.short (s : Sp) : Prop := s.lo.short ∧ s.hi.short
theorem pos_short {v : Ver} (h : v.short) : (Cu.mk 0 v false).short := h
theorem mayC_0 {c : Cu} (h : c.e = 0) : c.may = (c.v.may && c.v.build.isEmpty) := by unfold Cu.may; rw [if_pos h]
theorem mayC_1 {c : Cu} (h : c.e = -1 ∨ c.e = 1) : c.may = decide (c = ⟨c.e, Ver.zero, false⟩) := by
  unfold Cu.may
  rw [if_neg (by omega), decide_eq_true h]
  obtain ⟨e, v, a⟩ := c
  simp only [Cu.mk.injEq, Bool.true_and, true_and, Bool.decide_and]
  cases a <;> simp
theorem mayC_n {c : Cu} (h0 : ¬ c.e = 0) (h : ¬ (c.e = -1 ∨ c.e = 1)) : c.may = false := by
  unfold Cu.may; rw [if_neg h0, decide_eq_false h]; rfl

theorem less_any (a b : Cu) (W : World) (ha : a.short) (hb : b.short) : Calls Tryz.prog 59 #[cutV a, cutV b] W fun e w' => e = .returned (.bool (lessC a b)) ∧ Below W.heap.size W w' := by
  refine calls_ok (n := 31) Tryz.func59 rfl (by kernel_rfl) (by kernel_rfl) ?_
  refine ok_seq ?_
  refine ok_region ?_
  refine s_box (cutV a) (by kernel_rfl) rfl (by kernel_rfl) (fun b1 => ?_)
  refine s_box (cutV b) (by kernel_rfl) rfl (by kernel_rfl) (fun b2 => ?_)
  refine s_val (.bool false) (by kernel_rfl) (fun _ => by kernel_rfl) ?_
  refine s_nil ?_
  refine fin_seq ?_
  refine ok_seq ?_
  refine ok_seq ?_
  refine ok_region ?_
  refine s_val (.pointer (some ⟨b1, 0, none⟩)) (by kernel_rfl) (fun _ => by kernel_rfl) ?_
  refine s_load 1 ⟨b1, (cutV a).cells, 41⟩ (off := 0) (.int .i64 a.e) (by kernel_rfl) rfl (by kernel_rfl) (by kernel_rfl) (by kernel_rfl) ?_
  refine s_val (.pointer (some ⟨b2, 0, none⟩)) (by kernel_rfl) (fun _ => by kernel_rfl) ?_
  refine s_load 0 ⟨b2, (cutV b).cells, 41⟩ (off := 0) (.int .i64 b.e) (by kernel_rfl) rfl (by kernel_rfl) (by kernel_rfl) (by kernel_rfl) ?_
  by_cases h1 : (a.e : Int) = b.e
  · skip
    refine s_ndec (p := (a.e : Int) = b.e) true (by kernel_rfl) (fun _ => by kernel_rfl) (decide_eq_true (h1)) ?_
    refine s_nil ?_
    refine fin_seq ?_
    refine ok_false (by kernel_rfl) ?_
    refine ok_skip ?_
    refine fin_seq ?_
    refine ok_seq ?_
    refine ok_seq ?_
    refine ok_region ?_
    refine s_val (.pointer (some ⟨b1, 1, none⟩)) (by kernel_rfl) (fun _ => by kernel_rfl) ?_
    refine s_load 1 ⟨b1, (cutV a).cells, 41⟩ (off := 1) (.agg #[.int .i64 a.v.maj, .int .i64 a.v.min, .int .i64 a.v.pat, .string (mkS a.v.pre), .string (mkS a.v.build)]) (by kernel_rfl) rfl (by kernel_rfl) (by kernel_rfl) (by kernel_rfl) ?_
    refine s_val (.pointer (some ⟨b2, 1, none⟩)) (by kernel_rfl) (fun _ => by kernel_rfl) ?_
    refine s_load 0 ⟨b2, (cutV b).cells, 41⟩ (off := 1) (.agg #[.int .i64 b.v.maj, .int .i64 b.v.min, .int .i64 b.v.pat, .string (mkS b.v.pre), .string (mkS b.v.build)]) (by kernel_rfl) rfl (by kernel_rfl) (by kernel_rfl) (by kernel_rfl) ?_
    refine s_call (k := 67) (args := #[.agg #[.int .i64 a.v.maj, .int .i64 a.v.min, .int .i64 a.v.pat, .string (mkS a.v.pre), .string (mkS a.v.build)], .agg #[.int .i64 b.v.maj, .int .i64 b.v.min, .int .i64 b.v.pat, .string (mkS b.v.pre), .string (mkS b.v.build)]]) (.int .i64 (cmpR a.v b.v)) (by kernel_rfl) (fun _ => by kernel_rfl) (fun w _ => vcompare_any a.v b.v w ha.1 ha.2 hb.1 hb.2) ?_
    refine s_nil ?_
    refine fin_seq ?_
    refine ok_block ?_
    refine ok_seq ?_
    refine ok_region ?_
    by_cases h2 : (cmpR a.v b.v : Int) = -1
    · skip
      refine s_dec (p := (cmpR a.v b.v : Int) = -1) true (by kernel_rfl) (fun _ => by kernel_rfl) (decide_eq_true (h2)) ?_
      refine s_val (.bool true) (by kernel_rfl) (fun _ => by kernel_rfl) ?_
      refine s_nil ?_
      refine fin_seq ?_
      refine ok_true (by kernel_rfl) ?_
      refine ok_seq ?_
      refine ok_region ?_
      refine s_val (.bool true) (by kernel_rfl) (fun _ => by kernel_rfl) ?_
      refine s_nil ?_
      refine fin_seq ?_
      refine ok_ret ?_
      refine fin_block_ret ?_
      refine fin_seq_ret ?_
      refine fin_ret (.bool true) Tryz.results59 (by kernel_rfl) ?_
      exact fun w hO => ⟨by rw [show lessC a b = true from by unfold lessC; simp [h1, h2]], hO.below⟩
    · skip
      refine s_dec (p := (cmpR a.v b.v : Int) = -1) false (by kernel_rfl) (fun _ => by kernel_rfl) (decide_eq_false (h2)) ?_
      refine s_val (.bool false) (by kernel_rfl) (fun _ => by kernel_rfl) ?_
      refine s_nil ?_
      refine fin_seq ?_
      refine ok_false (by kernel_rfl) ?_
      refine ok_seq ?_
      refine ok_region ?_
      by_cases h3 : (cmpR a.v b.v : Int) = 1
      · skip
        refine s_dec (p := (cmpR a.v b.v : Int) = 1) true (by kernel_rfl) (fun _ => by kernel_rfl) (decide_eq_true (h3)) ?_
        refine s_val (.bool true) (by kernel_rfl) (fun _ => by kernel_rfl) ?_
        refine s_nil ?_
        refine fin_seq ?_
        refine ok_true (by kernel_rfl) ?_
        refine ok_seq ?_
        refine ok_region ?_
        refine s_val (.bool false) (by kernel_rfl) (fun _ => by kernel_rfl) ?_
        refine s_nil ?_
        refine fin_seq ?_
        refine ok_ret ?_
        refine fin_block_ret ?_
        refine fin_seq_ret ?_
        refine fin_ret (.bool false) Tryz.results59 (by kernel_rfl) ?_
        exact fun w hO => ⟨by rw [show lessC a b = false from by unfold lessC; simp [h1, h2, h3]], hO.below⟩
      · skip
        refine s_dec (p := (cmpR a.v b.v : Int) = 1) false (by kernel_rfl) (fun _ => by kernel_rfl) (decide_eq_false (h3)) ?_
        refine s_val (.bool false) (by kernel_rfl) (fun _ => by kernel_rfl) ?_
        refine s_nil ?_
        refine fin_seq ?_
        refine ok_false (by kernel_rfl) ?_
        refine ok_skip ?_
        refine fin_block ?_
        refine fin_seq ?_
        refine ok_seq ?_
        refine ok_region ?_
        refine s_val (.pointer (some ⟨b1, 6, none⟩)) (by kernel_rfl) (fun _ => by kernel_rfl) ?_
        refine s_load 1 ⟨b1, (cutV a).cells, 41⟩ (off := 6) (.bool a.aft) (by kernel_rfl) rfl (by kernel_rfl) (by kernel_rfl) (by kernel_rfl) ?_
        cases h4 : a.aft with
        | true =>
          refine s_val (.bool false) (by kernel_rfl) (fun _ => by kernel_rfl) ?_
          refine s_val (.bool false) (by kernel_rfl) (fun _ => by kernel_rfl) ?_
          refine s_skip (by kernel_rfl) ?_
          refine s_skip (by kernel_rfl) ?_
          refine s_val (.bool false) (by kernel_rfl) (fun _ => by kernel_rfl) ?_
          refine s_val (.bool false) (by kernel_rfl) (fun _ => by kernel_rfl) ?_
          refine s_nil ?_
          refine fin_seq ?_
          refine ok_ret ?_
          refine fin_ret (.bool false) Tryz.results59 (by kernel_rfl) ?_
          exact fun w hO => ⟨by rw [show lessC a b = false from by unfold lessC; simp [h1, h2, h3, h4]], hO.below⟩
        | false =>
          refine s_val (.bool true) (by kernel_rfl) (fun _ => by kernel_rfl) ?_
          refine s_val (.bool true) (by kernel_rfl) (fun _ => by kernel_rfl) ?_
          refine s_val (.pointer (some ⟨b2, 6, none⟩)) (by kernel_rfl) (fun _ => by kernel_rfl) ?_
          refine s_load 0 ⟨b2, (cutV b).cells, 41⟩ (off := 6) (.bool b.aft) (by kernel_rfl) rfl (by kernel_rfl) (by kernel_rfl) (by kernel_rfl) ?_
          refine s_val (.bool b.aft) (by kernel_rfl) (fun _ => by kernel_rfl) ?_
          refine s_val (.bool b.aft) (by kernel_rfl) (fun _ => by kernel_rfl) ?_
          refine s_nil ?_
          refine fin_seq ?_
          refine ok_ret ?_
          refine fin_ret (.bool b.aft) Tryz.results59 (by kernel_rfl) ?_
          exact fun w hO => ⟨by rw [show lessC a b = b.aft from by unfold lessC; simp [h1, h2, h3, h4]], hO.below⟩
  · skip
    refine s_ndec (p := (a.e : Int) = b.e) false (by kernel_rfl) (fun _ => by kernel_rfl) (decide_eq_false (h1)) ?_
    refine s_nil ?_
    refine fin_seq ?_
    refine ok_true (by kernel_rfl) ?_
    refine ok_seq ?_
    refine ok_region ?_
    refine s_val (.pointer (some ⟨b1, 0, none⟩)) (by kernel_rfl) (fun _ => by kernel_rfl) ?_
    refine s_load 1 ⟨b1, (cutV a).cells, 41⟩ (off := 0) (.int .i64 a.e) (by kernel_rfl) rfl (by kernel_rfl) (by kernel_rfl) (by kernel_rfl) ?_
    refine s_val (.pointer (some ⟨b2, 0, none⟩)) (by kernel_rfl) (fun _ => by kernel_rfl) ?_
    refine s_load 0 ⟨b2, (cutV b).cells, 41⟩ (off := 0) (.int .i64 b.e) (by kernel_rfl) rfl (by kernel_rfl) (by kernel_rfl) (by kernel_rfl) ?_
    by_cases h5 : (a.e : Int) < b.e
    · skip
      refine s_dec (p := (a.e : Int) < b.e) true (by kernel_rfl) (fun _ => by kernel_rfl) (decide_eq_true (h5)) ?_
      refine s_val (.bool true) (by kernel_rfl) (fun _ => by kernel_rfl) ?_
      refine s_nil ?_
      refine fin_seq ?_
      refine ok_ret ?_
      refine fin_seq_ret ?_
      refine fin_ret (.bool true) Tryz.results59 (by kernel_rfl) ?_
      exact fun w hO => ⟨by rw [show lessC a b = true from by unfold lessC; simp [h1, h5]], hO.below⟩
    · skip
      refine s_dec (p := (a.e : Int) < b.e) false (by kernel_rfl) (fun _ => by kernel_rfl) (decide_eq_false (h5)) ?_
      refine s_val (.bool false) (by kernel_rfl) (fun _ => by kernel_rfl) ?_
      refine s_nil ?_
      refine fin_seq ?_
      refine ok_ret ?_
      refine fin_seq_ret ?_
      refine fin_ret (.bool false) Tryz.results59 (by kernel_rfl) ?_
      exact fun w hO => ⟨by rw [show lessC a b = false from by unfold lessC; simp [h1, h5]], hO.below⟩
theorem mayC_any (c : Cu) (W : World) (hc : c.short) : Calls Tryz.prog 58 #[cutV c] W fun e w' => e = .returned (.bool c.may) ∧ Below W.heap.size W w' := by
  refine calls_ok (n := 24) Tryz.func58 rfl (by kernel_rfl) (by kernel_rfl) ?_
  refine ok_seq ?_
  refine ok_region ?_
  refine s_box (cutV c) (by kernel_rfl) rfl (by kernel_rfl) (fun b1 => ?_)
  refine s_val (.bool false) (by kernel_rfl) (fun _ => by kernel_rfl) ?_
  refine s_nil ?_
  refine fin_seq ?_
  refine ok_seq ?_
  refine ok_seq ?_
  refine ok_region ?_
  refine s_val (.pointer (some ⟨b1, 0, none⟩)) (by kernel_rfl) (fun _ => by kernel_rfl) ?_
  refine s_load 0 ⟨b1, (cutV c).cells, 41⟩ (off := 0) (.int .i64 c.e) (by kernel_rfl) rfl (by kernel_rfl) (by kernel_rfl) (by kernel_rfl) ?_
  refine s_nil ?_
  refine fin_seq ?_
  refine ok_block ?_
  refine ok_seq ?_
  refine ok_seq ?_
  refine ok_region ?_
  by_cases h1 : (c.e : Int) = -1
  · skip
    refine s_dec (p := (c.e : Int) = -1) true (by kernel_rfl) (fun _ => by kernel_rfl) (decide_eq_true (h1)) ?_
    refine s_val (.bool true) (by kernel_rfl) (fun _ => by kernel_rfl) ?_
    refine s_nil ?_
    refine fin_seq ?_
    refine ok_true (by kernel_rfl) ?_
    refine ok_skip ?_
    refine fin_seq ?_
    refine ok_true (by kernel_rfl) ?_
    refine ok_seq ?_
    refine ok_region ?_
    refine s_load 0 ⟨b1, (cutV c).cells, 41⟩ (off := 0) (cutV c) (by kernel_rfl) rfl (by kernel_rfl) (by kernel_rfl) (by kernel_rfl) ?_
    refine s_val (.pointer (some ⟨b1, 0, none⟩)) (by kernel_rfl) (fun _ => by kernel_rfl) ?_
    refine s_load 0 ⟨b1, (cutV c).cells, 41⟩ (off := 0) (.int .i64 c.e) (by kernel_rfl) rfl (by kernel_rfl) (by kernel_rfl) (by kernel_rfl) ?_
    refine s_val (.agg #[.int .i64 c.e, .int .i64 0, .int .i64 0, .int .i64 0, .string ⟨#[]⟩, .string ⟨#[]⟩, .bool false]) (by kernel_rfl) (fun _ => by kernel_rfl) ?_
    by_cases h2 : c = ⟨c.e, Ver.zero, false⟩
    · skip
      refine s_val (.bool true) (by kernel_rfl) (op_eq_cut rfl (by kernel_rfl) (by kernel_rfl) (decide_eq_true (h2))) ?_
      refine s_val (.bool true) (by kernel_rfl) (fun _ => by kernel_rfl) ?_
      refine s_nil ?_
      refine fin_seq ?_
      refine ok_ret ?_
      refine fin_block_ret ?_
      refine fin_seq_ret ?_
      refine fin_ret (.bool true) Tryz.results58 (by kernel_rfl) ?_
      exact fun w hO => ⟨by rw [show c.may = true from by first | exact (mayC_1 (by omega)).trans (decide_eq_true (by assumption)) | exact (mayC_1 (by omega)).trans (decide_eq_false (by assumption)) | (rw [mayC_0 (by omega)]; simp [h1, h2]) | (rw [mayC_n (by omega) (by omega)])], hO.below⟩
    · skip
      refine s_val (.bool false) (by kernel_rfl) (op_eq_cut rfl (by kernel_rfl) (by kernel_rfl) (decide_eq_false (h2))) ?_
      refine s_val (.bool false) (by kernel_rfl) (fun _ => by kernel_rfl) ?_
      refine s_nil ?_
      refine fin_seq ?_
      refine ok_ret ?_
      refine fin_block_ret ?_
      refine fin_seq_ret ?_
      refine fin_ret (.bool false) Tryz.results58 (by kernel_rfl) ?_
      exact fun w hO => ⟨by rw [show c.may = false from by first | exact (mayC_1 (by omega)).trans (decide_eq_true (by assumption)) | exact (mayC_1 (by omega)).trans (decide_eq_false (by assumption)) | (rw [mayC_0 (by omega)]; simp [h1, h2]) | (rw [mayC_n (by omega) (by omega)])], hO.below⟩
  · skip
    refine s_dec (p := (c.e : Int) = -1) false (by kernel_rfl) (fun _ => by kernel_rfl) (decide_eq_false (h1)) ?_
    refine s_val (.bool false) (by kernel_rfl) (fun _ => by kernel_rfl) ?_
    refine s_nil ?_
    refine fin_seq ?_
    refine ok_false (by kernel_rfl) ?_
    refine ok_region ?_
    by_cases h3 : (c.e : Int) = 1
    · skip
      refine s_dec (p := (c.e : Int) = 1) true (by kernel_rfl) (fun _ => by kernel_rfl) (decide_eq_true (h3)) ?_
      refine s_val (.bool true) (by kernel_rfl) (fun _ => by kernel_rfl) ?_
      refine s_nil ?_
      refine fin_seq ?_
      refine ok_true (by kernel_rfl) ?_
      refine ok_seq ?_
      refine ok_region ?_
      refine s_load 0 ⟨b1, (cutV c).cells, 41⟩ (off := 0) (cutV c) (by kernel_rfl) rfl (by kernel_rfl) (by kernel_rfl) (by kernel_rfl) ?_
      refine s_val (.pointer (some ⟨b1, 0, none⟩)) (by kernel_rfl) (fun _ => by kernel_rfl) ?_
      refine s_load 0 ⟨b1, (cutV c).cells, 41⟩ (off := 0) (.int .i64 c.e) (by kernel_rfl) rfl (by kernel_rfl) (by kernel_rfl) (by kernel_rfl) ?_
      refine s_val (.agg #[.int .i64 c.e, .int .i64 0, .int .i64 0, .int .i64 0, .string ⟨#[]⟩, .string ⟨#[]⟩, .bool false]) (by kernel_rfl) (fun _ => by kernel_rfl) ?_
      by_cases h4 : c = ⟨c.e, Ver.zero, false⟩
      · skip
        refine s_val (.bool true) (by kernel_rfl) (op_eq_cut rfl (by kernel_rfl) (by kernel_rfl) (decide_eq_true (h4))) ?_
        refine s_val (.bool true) (by kernel_rfl) (fun _ => by kernel_rfl) ?_
        refine s_nil ?_
        refine fin_seq ?_
        refine ok_ret ?_
        refine fin_block_ret ?_
        refine fin_seq_ret ?_
        refine fin_ret (.bool true) Tryz.results58 (by kernel_rfl) ?_
        exact fun w hO => ⟨by rw [show c.may = true from by first | exact (mayC_1 (by omega)).trans (decide_eq_true (by assumption)) | exact (mayC_1 (by omega)).trans (decide_eq_false (by assumption)) | (rw [mayC_0 (by omega)]; simp [h1, h3, h4]) | (rw [mayC_n (by omega) (by omega)])], hO.below⟩
      · skip
        refine s_val (.bool false) (by kernel_rfl) (op_eq_cut rfl (by kernel_rfl) (by kernel_rfl) (decide_eq_false (h4))) ?_
        refine s_val (.bool false) (by kernel_rfl) (fun _ => by kernel_rfl) ?_
        refine s_nil ?_
        refine fin_seq ?_
        refine ok_ret ?_
        refine fin_block_ret ?_
        refine fin_seq_ret ?_
        refine fin_ret (.bool false) Tryz.results58 (by kernel_rfl) ?_
        exact fun w hO => ⟨by rw [show c.may = false from by first | exact (mayC_1 (by omega)).trans (decide_eq_true (by assumption)) | exact (mayC_1 (by omega)).trans (decide_eq_false (by assumption)) | (rw [mayC_0 (by omega)]; simp [h1, h3, h4]) | (rw [mayC_n (by omega) (by omega)])], hO.below⟩
    · skip
      refine s_dec (p := (c.e : Int) = 1) false (by kernel_rfl) (fun _ => by kernel_rfl) (decide_eq_false (h3)) ?_
      refine s_val (.bool false) (by kernel_rfl) (fun _ => by kernel_rfl) ?_
      refine s_nil ?_
      refine fin_seq ?_
      refine ok_false (by kernel_rfl) ?_
      refine ok_seq ?_
      refine ok_region ?_
      by_cases h5 : (c.e : Int) = 0
      · skip
        refine s_dec (p := (c.e : Int) = 0) true (by kernel_rfl) (fun _ => by kernel_rfl) (decide_eq_true (h5)) ?_
        refine s_val (.bool true) (by kernel_rfl) (fun _ => by kernel_rfl) ?_
        refine s_nil ?_
        refine fin_seq ?_
        refine ok_true (by kernel_rfl) ?_
        refine ok_seq ?_
        refine ok_region ?_
        refine s_val (.pointer (some ⟨b1, 1, none⟩)) (by kernel_rfl) (fun _ => by kernel_rfl) ?_
        refine s_val (.pointer (some ⟨b1, 5, none⟩)) (by kernel_rfl) (fun _ => by kernel_rfl) ?_
        refine s_load 0 ⟨b1, (cutV c).cells, 41⟩ (off := 5) (.string (mkS c.v.build)) (by kernel_rfl) rfl (by kernel_rfl) (by kernel_rfl) (by kernel_rfl) ?_
        by_cases h6 : (c.v.build : List UInt8) = []
        · skip
          refine s_val (.bool true) (by kernel_rfl) (run_streql (a := c.v.build) (b := ([])) rfl (by kernel_rfl) (by kernel_rfl) (decide_eq_true (h6))) ?_
          refine s_val (.bool true) (by kernel_rfl) (fun _ => by kernel_rfl) ?_
          refine s_val (.pointer (some ⟨b1, 1, none⟩)) (by kernel_rfl) (fun _ => by kernel_rfl) ?_
          refine s_load 0 ⟨b1, (cutV c).cells, 41⟩ (off := 1) (.agg #[.int .i64 c.v.maj, .int .i64 c.v.min, .int .i64 c.v.pat, .string (mkS c.v.pre), .string (mkS c.v.build)]) (by kernel_rfl) rfl (by kernel_rfl) (by kernel_rfl) (by kernel_rfl) ?_
          refine s_call (k := 66) (args := #[.agg #[.int .i64 c.v.maj, .int .i64 c.v.min, .int .i64 c.v.pat, .string (mkS c.v.pre), .string (mkS c.v.build)]]) (.bool c.v.may) (by kernel_rfl) (fun _ => by kernel_rfl) (fun w _ => may_any c.v w (Nat.lt_of_le_of_lt hc.1 (by decide)) (Nat.lt_of_le_of_lt hc.2 (by decide))) ?_
          refine s_val (.bool c.v.may) (by kernel_rfl) (fun _ => by kernel_rfl) ?_
          refine s_val (.bool c.v.may) (by kernel_rfl) (fun _ => by kernel_rfl) ?_
          refine s_nil ?_
          refine fin_seq ?_
          refine ok_ret ?_
          refine fin_block_ret ?_
          refine fin_seq_ret ?_
          refine fin_ret (.bool c.v.may) Tryz.results58 (by kernel_rfl) ?_
          exact fun w hO => ⟨by rw [show c.may = c.v.may from by first | exact (mayC_1 (by omega)).trans (decide_eq_true (by assumption)) | exact (mayC_1 (by omega)).trans (decide_eq_false (by assumption)) | (rw [mayC_0 (by omega)]; simp [h1, h3, h5, h6]) | (rw [mayC_n (by omega) (by omega)])], hO.below⟩
        · skip
          refine s_val (.bool false) (by kernel_rfl) (run_streql (a := c.v.build) (b := ([])) rfl (by kernel_rfl) (by kernel_rfl) (decide_eq_false (h6))) ?_
          refine s_val (.bool false) (by kernel_rfl) (fun _ => by kernel_rfl) ?_
          refine s_skip (by kernel_rfl) ?_
          refine s_skip (by kernel_rfl) ?_
          refine s_skip (by kernel_rfl) ?_
          refine s_val (.bool false) (by kernel_rfl) (fun _ => by kernel_rfl) ?_
          refine s_val (.bool false) (by kernel_rfl) (fun _ => by kernel_rfl) ?_
          refine s_nil ?_
          refine fin_seq ?_
          refine ok_ret ?_
          refine fin_block_ret ?_
          refine fin_seq_ret ?_
          refine fin_ret (.bool false) Tryz.results58 (by kernel_rfl) ?_
          exact fun w hO => ⟨by rw [show c.may = false from by first | exact (mayC_1 (by omega)).trans (decide_eq_true (by assumption)) | exact (mayC_1 (by omega)).trans (decide_eq_false (by assumption)) | (rw [mayC_0 (by omega)]; simp [h1, h3, h5, h6]) | (rw [mayC_n (by omega) (by omega)])], hO.below⟩
      · skip
        refine s_dec (p := (c.e : Int) = 0) false (by kernel_rfl) (fun _ => by kernel_rfl) (decide_eq_false (h5)) ?_
        refine s_val (.bool false) (by kernel_rfl) (fun _ => by kernel_rfl) ?_
        refine s_nil ?_
        refine fin_seq ?_
        refine ok_false (by kernel_rfl) ?_
        refine ok_skip ?_
        refine fin_block ?_
        refine fin_seq ?_
        refine ok_seq ?_
        refine ok_region ?_
        refine s_val (.bool false) (by kernel_rfl) (fun _ => by kernel_rfl) ?_
        refine s_nil ?_
        refine fin_seq ?_
        refine ok_ret ?_
        refine fin_ret (.bool false) Tryz.results58 (by kernel_rfl) ?_
        exact fun w hO => ⟨by rw [show c.may = false from by first | exact (mayC_1 (by omega)).trans (decide_eq_true (by assumption)) | exact (mayC_1 (by omega)).trans (decide_eq_false (by assumption)) | (rw [mayC_0 (by omega)]; simp [h1, h3, h5]) | (rw [mayC_n (by omega) (by omega)])], hO.below⟩
theorem rmayC_any (c : Cu) (W : World) (hc : c.short) : Calls Tryz.prog 60 #[cutV c] W fun e w' => e = .returned (.bool c.may) ∧ Below W.heap.size W w' := by
  refine calls_ok (n := 34) Tryz.func60 rfl (by kernel_rfl) (by kernel_rfl) ?_
  refine ok_seq ?_
  refine ok_region ?_
  refine s_box (cutV c) (by kernel_rfl) rfl (by kernel_rfl) (fun b1 => ?_)
  refine s_val (.bool false) (by kernel_rfl) (fun _ => by kernel_rfl) ?_
  refine s_nil ?_
  refine fin_seq ?_
  refine ok_seq ?_
  refine ok_seq ?_
  refine ok_region ?_
  refine s_val (.pointer (some ⟨b1, 0, none⟩)) (by kernel_rfl) (fun _ => by kernel_rfl) ?_
  refine s_load 0 ⟨b1, (cutV c).cells, 41⟩ (off := 0) (.int .i64 c.e) (by kernel_rfl) rfl (by kernel_rfl) (by kernel_rfl) (by kernel_rfl) ?_
  by_cases h1 : (c.e : Int) = 0
  · skip
    refine s_dec (p := (c.e : Int) = 0) true (by kernel_rfl) (fun _ => by kernel_rfl) (decide_eq_true (h1)) ?_
    refine s_nil ?_
    refine fin_seq ?_
    refine ok_true (by kernel_rfl) ?_
    refine ok_seq ?_
    refine ok_region ?_
    refine s_val (.pointer (some ⟨b1, 1, none⟩)) (by kernel_rfl) (fun _ => by kernel_rfl) ?_
    refine s_load 0 ⟨b1, (cutV c).cells, 41⟩ (off := 1) (.agg #[.int .i64 c.v.maj, .int .i64 c.v.min, .int .i64 c.v.pat, .string (mkS c.v.pre), .string (mkS c.v.build)]) (by kernel_rfl) rfl (by kernel_rfl) (by kernel_rfl) (by kernel_rfl) ?_
    refine s_call (k := 68) (args := #[.agg #[.int .i64 c.v.maj, .int .i64 c.v.min, .int .i64 c.v.pat, .string (mkS c.v.pre), .string (mkS c.v.build)]]) (.bool c.v.may) (by kernel_rfl) (fun _ => by kernel_rfl) (fun w _ => rmay_any c.v w hc.1 hc.2) ?_
    refine s_val (.bool c.v.may) (by kernel_rfl) (fun _ => by kernel_rfl) ?_
    cases h2 : c.v.may with
    | true =>
      refine s_val (.pointer (some ⟨b1, 1, none⟩)) (by kernel_rfl) (fun _ => by kernel_rfl) ?_
      refine s_val (.pointer (some ⟨b1, 5, none⟩)) (by kernel_rfl) (fun _ => by kernel_rfl) ?_
      refine s_load 0 ⟨b1, (cutV c).cells, 41⟩ (off := 5) (.string (mkS c.v.build)) (by kernel_rfl) rfl (by kernel_rfl) (by kernel_rfl) (by kernel_rfl) ?_
      by_cases h3 : (c.v.build : List UInt8) = []
      · skip
        refine s_val (.bool true) (by kernel_rfl) (run_streql (a := c.v.build) (b := ([])) rfl (by kernel_rfl) (by kernel_rfl) (decide_eq_true (h3))) ?_
        refine s_val (.bool true) (by kernel_rfl) (fun _ => by kernel_rfl) ?_
        refine s_val (.bool true) (by kernel_rfl) (fun _ => by kernel_rfl) ?_
        refine s_nil ?_
        refine fin_seq ?_
        refine ok_ret ?_
        refine fin_seq_ret ?_
        refine fin_ret (.bool true) Tryz.results60 (by kernel_rfl) ?_
        exact fun w hO => ⟨by rw [show c.may = true from by unfold Cu.may; simp [h1, h2, h3]], hO.below⟩
      · skip
        refine s_val (.bool false) (by kernel_rfl) (run_streql (a := c.v.build) (b := ([])) rfl (by kernel_rfl) (by kernel_rfl) (decide_eq_false (h3))) ?_
        refine s_val (.bool false) (by kernel_rfl) (fun _ => by kernel_rfl) ?_
        refine s_val (.bool false) (by kernel_rfl) (fun _ => by kernel_rfl) ?_
        refine s_nil ?_
        refine fin_seq ?_
        refine ok_ret ?_
        refine fin_seq_ret ?_
        refine fin_ret (.bool false) Tryz.results60 (by kernel_rfl) ?_
        exact fun w hO => ⟨by rw [show c.may = false from by unfold Cu.may; simp [h1, h2, h3]], hO.below⟩
    | false =>
      refine s_skip (by kernel_rfl) ?_
      refine s_skip (by kernel_rfl) ?_
      refine s_skip (by kernel_rfl) ?_
      refine s_skip (by kernel_rfl) ?_
      refine s_val (.bool false) (by kernel_rfl) (fun _ => by kernel_rfl) ?_
      refine s_val (.bool false) (by kernel_rfl) (fun _ => by kernel_rfl) ?_
      refine s_nil ?_
      refine fin_seq ?_
      refine ok_ret ?_
      refine fin_seq_ret ?_
      refine fin_ret (.bool false) Tryz.results60 (by kernel_rfl) ?_
      exact fun w hO => ⟨by rw [show c.may = false from by unfold Cu.may; simp [h1, h2]], hO.below⟩
  · skip
    refine s_dec (p := (c.e : Int) = 0) false (by kernel_rfl) (fun _ => by kernel_rfl) (decide_eq_false (h1)) ?_
    refine s_nil ?_
    refine fin_seq ?_
    refine ok_false (by kernel_rfl) ?_
    refine ok_skip ?_
    refine fin_seq ?_
    refine ok_seq ?_
    refine ok_region ?_
    refine s_val (.pointer (some ⟨b1, 0, none⟩)) (by kernel_rfl) (fun _ => by kernel_rfl) ?_
    refine s_load 0 ⟨b1, (cutV c).cells, 41⟩ (off := 0) (.int .i64 c.e) (by kernel_rfl) rfl (by kernel_rfl) (by kernel_rfl) (by kernel_rfl) ?_
    by_cases h4 : (c.e : Int) = -1
    · skip
      refine s_dec (p := (c.e : Int) = -1) true (by kernel_rfl) (fun _ => by kernel_rfl) (decide_eq_true (h4)) ?_
      refine s_val (.bool true) (by kernel_rfl) (fun _ => by kernel_rfl) ?_
      refine s_skip (by kernel_rfl) ?_
      refine s_skip (by kernel_rfl) ?_
      refine s_skip (by kernel_rfl) ?_
      refine s_val (.bool true) (by kernel_rfl) (fun _ => by kernel_rfl) ?_
      refine s_val (.bool true) (by kernel_rfl) (fun _ => by kernel_rfl) ?_
      refine s_val (.pointer (some ⟨b1, 1, none⟩)) (by kernel_rfl) (fun _ => by kernel_rfl) ?_
      refine s_load 0 ⟨b1, (cutV c).cells, 41⟩ (off := 1) (.agg #[.int .i64 c.v.maj, .int .i64 c.v.min, .int .i64 c.v.pat, .string (mkS c.v.pre), .string (mkS c.v.build)]) (by kernel_rfl) rfl (by kernel_rfl) (by kernel_rfl) (by kernel_rfl) ?_
      refine s_val (.agg #[.int .i64 0, .int .i64 0, .int .i64 0, .string ⟨#[]⟩, .string ⟨#[]⟩]) (by kernel_rfl) (fun _ => by kernel_rfl) ?_
      by_cases h5 : c.v = Ver.zero
      · skip
        refine s_val (.bool true) (by kernel_rfl) (op_eq_ver rfl (by kernel_rfl) (by kernel_rfl) (decide_eq_true (h5))) ?_
        refine s_val (.bool true) (by kernel_rfl) (fun _ => by kernel_rfl) ?_
        refine s_val (.bool true) (by kernel_rfl) (fun _ => by kernel_rfl) ?_
        refine s_val (.pointer (some ⟨b1, 6, none⟩)) (by kernel_rfl) (fun _ => by kernel_rfl) ?_
        refine s_load 0 ⟨b1, (cutV c).cells, 41⟩ (off := 6) (.bool c.aft) (by kernel_rfl) rfl (by kernel_rfl) (by kernel_rfl) (by kernel_rfl) ?_
        cases h6 : c.aft with
        | true =>
          refine s_val (.bool false) (by kernel_rfl) (fun _ => by kernel_rfl) ?_
          refine s_val (.bool false) (by kernel_rfl) (fun _ => by kernel_rfl) ?_
          refine s_val (.bool false) (by kernel_rfl) (fun _ => by kernel_rfl) ?_
          refine s_nil ?_
          refine fin_seq ?_
          refine ok_ret ?_
          refine fin_ret (.bool false) Tryz.results60 (by kernel_rfl) ?_
          exact fun w hO => ⟨by rw [show c.may = false from by unfold Cu.may; simp [h1, h4, h5, h6]], hO.below⟩
        | false =>
          refine s_val (.bool true) (by kernel_rfl) (fun _ => by kernel_rfl) ?_
          refine s_val (.bool true) (by kernel_rfl) (fun _ => by kernel_rfl) ?_
          refine s_val (.bool true) (by kernel_rfl) (fun _ => by kernel_rfl) ?_
          refine s_nil ?_
          refine fin_seq ?_
          refine ok_ret ?_
          refine fin_ret (.bool true) Tryz.results60 (by kernel_rfl) ?_
          exact fun w hO => ⟨by rw [show c.may = true from by unfold Cu.may; simp [h1, h4, h5, h6]], hO.below⟩
      · skip
        refine s_val (.bool false) (by kernel_rfl) (op_eq_ver rfl (by kernel_rfl) (by kernel_rfl) (decide_eq_false (h5))) ?_
        refine s_val (.bool false) (by kernel_rfl) (fun _ => by kernel_rfl) ?_
        refine s_val (.bool false) (by kernel_rfl) (fun _ => by kernel_rfl) ?_
        refine s_skip (by kernel_rfl) ?_
        refine s_skip (by kernel_rfl) ?_
        refine s_skip (by kernel_rfl) ?_
        refine s_val (.bool false) (by kernel_rfl) (fun _ => by kernel_rfl) ?_
        refine s_val (.bool false) (by kernel_rfl) (fun _ => by kernel_rfl) ?_
        refine s_nil ?_
        refine fin_seq ?_
        refine ok_ret ?_
        refine fin_ret (.bool false) Tryz.results60 (by kernel_rfl) ?_
        exact fun w hO => ⟨by rw [show c.may = false from by unfold Cu.may; simp [h1, h4, h5]], hO.below⟩
    · skip
      refine s_dec (p := (c.e : Int) = -1) false (by kernel_rfl) (fun _ => by kernel_rfl) (decide_eq_false (h4)) ?_
      refine s_val (.bool false) (by kernel_rfl) (fun _ => by kernel_rfl) ?_
      refine s_val (.pointer (some ⟨b1, 0, none⟩)) (by kernel_rfl) (fun _ => by kernel_rfl) ?_
      refine s_load 0 ⟨b1, (cutV c).cells, 41⟩ (off := 0) (.int .i64 c.e) (by kernel_rfl) rfl (by kernel_rfl) (by kernel_rfl) (by kernel_rfl) ?_
      by_cases h7 : (c.e : Int) = 1
      · skip
        refine s_dec (p := (c.e : Int) = 1) true (by kernel_rfl) (fun _ => by kernel_rfl) (decide_eq_true (h7)) ?_
        refine s_val (.bool true) (by kernel_rfl) (fun _ => by kernel_rfl) ?_
        refine s_val (.bool true) (by kernel_rfl) (fun _ => by kernel_rfl) ?_
        refine s_val (.pointer (some ⟨b1, 1, none⟩)) (by kernel_rfl) (fun _ => by kernel_rfl) ?_
        refine s_load 0 ⟨b1, (cutV c).cells, 41⟩ (off := 1) (.agg #[.int .i64 c.v.maj, .int .i64 c.v.min, .int .i64 c.v.pat, .string (mkS c.v.pre), .string (mkS c.v.build)]) (by kernel_rfl) rfl (by kernel_rfl) (by kernel_rfl) (by kernel_rfl) ?_
        refine s_val (.agg #[.int .i64 0, .int .i64 0, .int .i64 0, .string ⟨#[]⟩, .string ⟨#[]⟩]) (by kernel_rfl) (fun _ => by kernel_rfl) ?_
        by_cases h8 : c.v = Ver.zero
        · skip
          refine s_val (.bool true) (by kernel_rfl) (op_eq_ver rfl (by kernel_rfl) (by kernel_rfl) (decide_eq_true (h8))) ?_
          refine s_val (.bool true) (by kernel_rfl) (fun _ => by kernel_rfl) ?_
          refine s_val (.bool true) (by kernel_rfl) (fun _ => by kernel_rfl) ?_
          refine s_val (.pointer (some ⟨b1, 6, none⟩)) (by kernel_rfl) (fun _ => by kernel_rfl) ?_
          refine s_load 0 ⟨b1, (cutV c).cells, 41⟩ (off := 6) (.bool c.aft) (by kernel_rfl) rfl (by kernel_rfl) (by kernel_rfl) (by kernel_rfl) ?_
          cases h9 : c.aft with
          | true =>
            refine s_val (.bool false) (by kernel_rfl) (fun _ => by kernel_rfl) ?_
            refine s_val (.bool false) (by kernel_rfl) (fun _ => by kernel_rfl) ?_
            refine s_val (.bool false) (by kernel_rfl) (fun _ => by kernel_rfl) ?_
            refine s_nil ?_
            refine fin_seq ?_
            refine ok_ret ?_
            refine fin_ret (.bool false) Tryz.results60 (by kernel_rfl) ?_
            exact fun w hO => ⟨by rw [show c.may = false from by unfold Cu.may; simp [h1, h4, h7, h8, h9]], hO.below⟩
          | false =>
            refine s_val (.bool true) (by kernel_rfl) (fun _ => by kernel_rfl) ?_
            refine s_val (.bool true) (by kernel_rfl) (fun _ => by kernel_rfl) ?_
            refine s_val (.bool true) (by kernel_rfl) (fun _ => by kernel_rfl) ?_
            refine s_nil ?_
            refine fin_seq ?_
            refine ok_ret ?_
            refine fin_ret (.bool true) Tryz.results60 (by kernel_rfl) ?_
            exact fun w hO => ⟨by rw [show c.may = true from by unfold Cu.may; simp [h1, h4, h7, h8, h9]], hO.below⟩
        · skip
          refine s_val (.bool false) (by kernel_rfl) (op_eq_ver rfl (by kernel_rfl) (by kernel_rfl) (decide_eq_false (h8))) ?_
          refine s_val (.bool false) (by kernel_rfl) (fun _ => by kernel_rfl) ?_
          refine s_val (.bool false) (by kernel_rfl) (fun _ => by kernel_rfl) ?_
          refine s_skip (by kernel_rfl) ?_
          refine s_skip (by kernel_rfl) ?_
          refine s_skip (by kernel_rfl) ?_
          refine s_val (.bool false) (by kernel_rfl) (fun _ => by kernel_rfl) ?_
          refine s_val (.bool false) (by kernel_rfl) (fun _ => by kernel_rfl) ?_
          refine s_nil ?_
          refine fin_seq ?_
          refine ok_ret ?_
          refine fin_ret (.bool false) Tryz.results60 (by kernel_rfl) ?_
          exact fun w hO => ⟨by rw [show c.may = false from by unfold Cu.may; simp [h1, h4, h7, h8]], hO.below⟩
      · skip
        refine s_dec (p := (c.e : Int) = 1) false (by kernel_rfl) (fun _ => by kernel_rfl) (decide_eq_false (h7)) ?_
        refine s_val (.bool false) (by kernel_rfl) (fun _ => by kernel_rfl) ?_
        refine s_val (.bool false) (by kernel_rfl) (fun _ => by kernel_rfl) ?_
        refine s_skip (by kernel_rfl) ?_
        refine s_skip (by kernel_rfl) ?_
        refine s_skip (by kernel_rfl) ?_
        refine s_skip (by kernel_rfl) ?_
        refine s_val (.bool false) (by kernel_rfl) (fun _ => by kernel_rfl) ?_
        refine s_val (.bool false) (by kernel_rfl) (fun _ => by kernel_rfl) ?_
        refine s_skip (by kernel_rfl) ?_
        refine s_skip (by kernel_rfl) ?_
        refine s_skip (by kernel_rfl) ?_
        refine s_val (.bool false) (by kernel_rfl) (fun _ => by kernel_rfl) ?_
        refine s_val (.bool false) (by kernel_rfl) (fun _ => by kernel_rfl) ?_
        refine s_nil ?_
        refine fin_seq ?_
        refine ok_ret ?_
        refine fin_ret (.bool false) Tryz.results60 (by kernel_rfl) ?_
        exact fun w hO => ⟨by rw [show c.may = false from by unfold Cu.may; simp [h1, h4, h7]], hO.below⟩
theorem cmpC_any (a b : Cu) (W : World) (ha : a.short) (hb : b.short) : Calls Tryz.prog 42 #[cutV a, cutV b] W fun e w' => e = .returned (.int .i64 (cmpC a b)) ∧ Below W.heap.size W w' := by
  refine calls_ok (n := 22) Tryz.func42 rfl (by kernel_rfl) (by kernel_rfl) ?_
  refine ok_seq ?_
  refine ok_region ?_
  refine s_box (cutV a) (by kernel_rfl) rfl (by kernel_rfl) (fun b1 => ?_)
  refine s_box (cutV b) (by kernel_rfl) rfl (by kernel_rfl) (fun b2 => ?_)
  refine s_val (.int .i64 0) (by kernel_rfl) (fun _ => by kernel_rfl) ?_
  refine s_nil ?_
  refine fin_seq ?_
  refine ok_seq ?_
  refine ok_block ?_
  refine ok_seq ?_
  refine ok_region ?_
  refine s_load 1 ⟨b1, (cutV a).cells, 41⟩ (off := 0) (cutV a) (by kernel_rfl) rfl (by kernel_rfl) (by kernel_rfl) (by kernel_rfl) ?_
  refine s_call (k := 58) (args := #[cutV a]) (.bool a.may) (by kernel_rfl) (fun _ => by kernel_rfl) (fun w _ => mayC_any a w ha) ?_
  cases h1 : a.may with
  | true =>
    refine s_val (.bool false) (by kernel_rfl) (fun _ => by kernel_rfl) ?_
    refine s_val (.bool false) (by kernel_rfl) (fun _ => by kernel_rfl) ?_
    refine s_load 0 ⟨b2, (cutV b).cells, 41⟩ (off := 0) (cutV b) (by kernel_rfl) rfl (by kernel_rfl) (by kernel_rfl) (by kernel_rfl) ?_
    refine s_call (k := 58) (args := #[cutV b]) (.bool b.may) (by kernel_rfl) (fun _ => by kernel_rfl) (fun w _ => mayC_any b w hb) ?_
    cases h2 : b.may with
    | true =>
      refine s_val (.bool false) (by kernel_rfl) (fun _ => by kernel_rfl) ?_
      refine s_val (.bool false) (by kernel_rfl) (fun _ => by kernel_rfl) ?_
      refine s_val (.bool false) (by kernel_rfl) (fun _ => by kernel_rfl) ?_
      refine s_nil ?_
      refine fin_seq ?_
      refine ok_false (by kernel_rfl) ?_
      refine ok_seq ?_
      refine ok_region ?_
      refine s_load 1 ⟨b1, (cutV a).cells, 41⟩ (off := 0) (cutV a) (by kernel_rfl) rfl (by kernel_rfl) (by kernel_rfl) (by kernel_rfl) ?_
      refine s_load 0 ⟨b2, (cutV b).cells, 41⟩ (off := 0) (cutV b) (by kernel_rfl) rfl (by kernel_rfl) (by kernel_rfl) (by kernel_rfl) ?_
      refine s_call (k := 59) (args := #[cutV a, cutV b]) (.bool (lessC a b)) (by kernel_rfl) (fun _ => by kernel_rfl) (fun w _ => less_any a b w ha hb) ?_
      refine s_val (.bool (lessC a b)) (by kernel_rfl) (fun _ => by kernel_rfl) ?_
      refine s_nil ?_
      refine fin_seq ?_
      cases h3 : lessC a b with
      | true =>
        refine ok_true (by kernel_rfl) ?_
        refine ok_seq ?_
        refine ok_region ?_
        refine s_val (.int .i64 (-1)) (by kernel_rfl) (fun _ => by kernel_rfl) ?_
        refine s_nil ?_
        refine fin_seq ?_
        refine ok_ret ?_
        refine fin_block_ret ?_
        refine fin_seq_ret ?_
        refine fin_ret (.int .i64 (-1)) Tryz.results42 (by kernel_rfl) ?_
        exact fun w hO => ⟨by rw [show cmpC a b = (-1) from by first | (rw [less_cmpC (by assumption) (by assumption)]; simp [h1, h2, h3]) | (exact cmpC_bad (.inl (by assumption))) | (exact cmpC_bad (.inr (by assumption)))], hO.below⟩
      | false =>
        refine ok_false (by kernel_rfl) ?_
        refine ok_seq ?_
        refine ok_region ?_
        refine s_load 0 ⟨b2, (cutV b).cells, 41⟩ (off := 0) (cutV b) (by kernel_rfl) rfl (by kernel_rfl) (by kernel_rfl) (by kernel_rfl) ?_
        refine s_load 1 ⟨b1, (cutV a).cells, 41⟩ (off := 0) (cutV a) (by kernel_rfl) rfl (by kernel_rfl) (by kernel_rfl) (by kernel_rfl) ?_
        refine s_call (k := 59) (args := #[cutV b, cutV a]) (.bool (lessC b a)) (by kernel_rfl) (fun _ => by kernel_rfl) (fun w _ => less_any b a w hb ha) ?_
        refine s_val (.bool (lessC b a)) (by kernel_rfl) (fun _ => by kernel_rfl) ?_
        refine s_nil ?_
        refine fin_seq ?_
        cases h4 : lessC b a with
        | true =>
          refine ok_true (by kernel_rfl) ?_
          refine ok_seq ?_
          refine ok_region ?_
          refine s_val (.int .i64 1) (by kernel_rfl) (fun _ => by kernel_rfl) ?_
          refine s_nil ?_
          refine fin_seq ?_
          refine ok_ret ?_
          refine fin_block_ret ?_
          refine fin_seq_ret ?_
          refine fin_ret (.int .i64 1) Tryz.results42 (by kernel_rfl) ?_
          exact fun w hO => ⟨by rw [show cmpC a b = 1 from by first | (rw [less_cmpC (by assumption) (by assumption)]; simp [h1, h2, h3, h4]) | (exact cmpC_bad (.inl (by assumption))) | (exact cmpC_bad (.inr (by assumption)))], hO.below⟩
        | false =>
          refine ok_false (by kernel_rfl) ?_
          refine ok_skip ?_
          refine fin_block ?_
          refine fin_seq ?_
          refine ok_seq ?_
          refine ok_region ?_
          refine s_val (.int .i64 0) (by kernel_rfl) (fun _ => by kernel_rfl) ?_
          refine s_nil ?_
          refine fin_seq ?_
          refine ok_ret ?_
          refine fin_ret (.int .i64 0) Tryz.results42 (by kernel_rfl) ?_
          exact fun w hO => ⟨by rw [show cmpC a b = 0 from by first | (rw [less_cmpC (by assumption) (by assumption)]; simp [h1, h2, h3, h4]) | (exact cmpC_bad (.inl (by assumption))) | (exact cmpC_bad (.inr (by assumption)))], hO.below⟩
    | false =>
      refine s_val (.bool true) (by kernel_rfl) (fun _ => by kernel_rfl) ?_
      refine s_val (.bool true) (by kernel_rfl) (fun _ => by kernel_rfl) ?_
      refine s_val (.bool true) (by kernel_rfl) (fun _ => by kernel_rfl) ?_
      refine s_nil ?_
      refine fin_seq ?_
      refine ok_true (by kernel_rfl) ?_
      refine ok_seq ?_
      refine ok_region ?_
      refine s_val (.int .i64 0) (by kernel_rfl) (fun _ => by kernel_rfl) ?_
      refine s_nil ?_
      refine fin_seq ?_
      refine ok_ret ?_
      refine fin_block_ret ?_
      refine fin_seq_ret ?_
      refine fin_ret (.int .i64 0) Tryz.results42 (by kernel_rfl) ?_
      exact fun w hO => ⟨by rw [show cmpC a b = 0 from by first | (rw [less_cmpC (by assumption) (by assumption)]; simp [h1, h2]) | (exact cmpC_bad (.inl (by assumption))) | (exact cmpC_bad (.inr (by assumption)))], hO.below⟩
  | false =>
    refine s_val (.bool true) (by kernel_rfl) (fun _ => by kernel_rfl) ?_
    refine s_val (.bool true) (by kernel_rfl) (fun _ => by kernel_rfl) ?_
    refine s_skip (by kernel_rfl) ?_
    refine s_skip (by kernel_rfl) ?_
    refine s_skip (by kernel_rfl) ?_
    refine s_val (.bool true) (by kernel_rfl) (fun _ => by kernel_rfl) ?_
    refine s_val (.bool true) (by kernel_rfl) (fun _ => by kernel_rfl) ?_
    refine s_nil ?_
    refine fin_seq ?_
    refine ok_true (by kernel_rfl) ?_
    refine ok_seq ?_
    refine ok_region ?_
    refine s_val (.int .i64 0) (by kernel_rfl) (fun _ => by kernel_rfl) ?_
    refine s_nil ?_
    refine fin_seq ?_
    refine ok_ret ?_
    refine fin_block_ret ?_
    refine fin_seq_ret ?_
    refine fin_ret (.int .i64 0) Tryz.results42 (by kernel_rfl) ?_
    exact fun w hO => ⟨by rw [show cmpC a b = 0 from by first | (rw [less_cmpC (by assumption) (by assumption)]; simp [h1]) | (exact cmpC_bad (.inl (by assumption))) | (exact cmpC_bad (.inr (by assumption)))], hO.below⟩
theorem rcmpC_eq {a b : Cu} {r : Int} (ha : a.may = true) (hb : b.may = true) (h : (if a.e ≠ b.e ∨ a.e ≠ 0 then Lib.compareInt a.e b.e else if cmpR a.v b.v ≠ 0 then cmpR a.v b.v else if a.aft = b.aft then 0 else if b.aft then -1 else 1) = r) : cmpC a b = r := by
  rw [← h, cmpC_good ha hb]
  by_cases he : a.e = b.e
  · rw [he, compareInt_self, lex_0]
    by_cases h0 : b.e = 0
    · rw [if_neg (by omega)]
      unfold lex
      by_cases hc : cmpR a.v b.v = 0
      · rw [if_pos hc, if_neg (by simpa using hc)]
        cases a.aft <;> cases b.aft <;> rfl
      · rw [if_neg hc, if_pos hc]
    · rw [if_pos (.inr h0)]
      have e1 : a.v = Ver.zero ∧ a.aft = false := (may_e ha).elim (fun x => absurd (he ▸ x.1) h0) (fun x => x.2)
      have e2 : b.v = Ver.zero ∧ b.aft = false := (may_e hb).elim (fun x => absurd x.1 h0) (fun x => x.2)
      rw [e1.1, e1.2, e2.1, e2.2, order_self]; rfl
  · rw [if_pos (.inl he)]
    rcases Int.lt_or_gt_of_ne he with h | h
    · rw [ci_lt h]; rfl
    · rw [ci_gt h]; rfl
theorem rcmpC_any (a b : Cu) (W : World) (ha : a.short) (hb : b.short) : Calls Tryz.prog 44 #[cutV a, cutV b] W fun e w' => e = .returned (.int .i64 (cmpC a b)) ∧ Below W.heap.size W w' := by
  refine calls_ok (n := 46) Tryz.func44 rfl (by kernel_rfl) (by kernel_rfl) ?_
  refine ok_seq ?_
  refine ok_region ?_
  refine s_box (cutV a) (by kernel_rfl) rfl (by kernel_rfl) (fun b1 => ?_)
  refine s_box (cutV b) (by kernel_rfl) rfl (by kernel_rfl) (fun b2 => ?_)
  refine s_val (.int .i64 0) (by kernel_rfl) (fun _ => by kernel_rfl) ?_
  refine s_nil ?_
  refine fin_seq ?_
  refine ok_seq ?_
  refine ok_seq ?_
  refine ok_region ?_
  refine s_load 1 ⟨b1, (cutV a).cells, 41⟩ (off := 0) (cutV a) (by kernel_rfl) rfl (by kernel_rfl) (by kernel_rfl) (by kernel_rfl) ?_
  refine s_call (k := 60) (args := #[cutV a]) (.bool a.may) (by kernel_rfl) (fun _ => by kernel_rfl) (fun w _ => rmayC_any a w ha) ?_
  cases h1 : a.may with
  | true =>
    refine s_val (.bool false) (by kernel_rfl) (fun _ => by kernel_rfl) ?_
    refine s_val (.bool false) (by kernel_rfl) (fun _ => by kernel_rfl) ?_
    refine s_load 0 ⟨b2, (cutV b).cells, 41⟩ (off := 0) (cutV b) (by kernel_rfl) rfl (by kernel_rfl) (by kernel_rfl) (by kernel_rfl) ?_
    refine s_call (k := 60) (args := #[cutV b]) (.bool b.may) (by kernel_rfl) (fun _ => by kernel_rfl) (fun w _ => rmayC_any b w hb) ?_
    cases h2 : b.may with
    | true =>
      refine s_val (.bool false) (by kernel_rfl) (fun _ => by kernel_rfl) ?_
      refine s_val (.bool false) (by kernel_rfl) (fun _ => by kernel_rfl) ?_
      refine s_nil ?_
      refine fin_seq ?_
      refine ok_false (by kernel_rfl) ?_
      refine ok_skip ?_
      refine fin_seq ?_
      refine ok_seq ?_
      refine ok_seq ?_
      refine ok_region ?_
      refine s_val (.pointer (some ⟨b1, 0, none⟩)) (by kernel_rfl) (fun _ => by kernel_rfl) ?_
      refine s_load 1 ⟨b1, (cutV a).cells, 41⟩ (off := 0) (.int .i64 a.e) (by kernel_rfl) rfl (by kernel_rfl) (by kernel_rfl) (by kernel_rfl) ?_
      refine s_val (.pointer (some ⟨b2, 0, none⟩)) (by kernel_rfl) (fun _ => by kernel_rfl) ?_
      refine s_load 0 ⟨b2, (cutV b).cells, 41⟩ (off := 0) (.int .i64 b.e) (by kernel_rfl) rfl (by kernel_rfl) (by kernel_rfl) (by kernel_rfl) ?_
      by_cases h3 : (a.e : Int) = b.e
      · skip
        refine s_ndec (p := (a.e : Int) = b.e) true (by kernel_rfl) (fun _ => by kernel_rfl) (decide_eq_true (h3)) ?_
        refine s_val (.bool false) (by kernel_rfl) (fun _ => by kernel_rfl) ?_
        refine s_val (.pointer (some ⟨b1, 0, none⟩)) (by kernel_rfl) (fun _ => by kernel_rfl) ?_
        refine s_load 1 ⟨b1, (cutV a).cells, 41⟩ (off := 0) (.int .i64 a.e) (by kernel_rfl) rfl (by kernel_rfl) (by kernel_rfl) (by kernel_rfl) ?_
        by_cases h4 : (a.e : Int) = 0
        · skip
          refine s_ndec (p := (a.e : Int) = 0) true (by kernel_rfl) (fun _ => by kernel_rfl) (decide_eq_true (h4)) ?_
          refine s_val (.bool false) (by kernel_rfl) (fun _ => by kernel_rfl) ?_
          refine s_nil ?_
          refine fin_seq ?_
          refine ok_false (by kernel_rfl) ?_
          refine ok_skip ?_
          refine fin_seq ?_
          refine ok_seq ?_
          refine ok_seq ?_
          refine ok_region ?_
          refine s_val (.pointer (some ⟨b1, 1, none⟩)) (by kernel_rfl) (fun _ => by kernel_rfl) ?_
          refine s_load 1 ⟨b1, (cutV a).cells, 41⟩ (off := 1) (.agg #[.int .i64 a.v.maj, .int .i64 a.v.min, .int .i64 a.v.pat, .string (mkS a.v.pre), .string (mkS a.v.build)]) (by kernel_rfl) rfl (by kernel_rfl) (by kernel_rfl) (by kernel_rfl) ?_
          refine s_val (.pointer (some ⟨b2, 1, none⟩)) (by kernel_rfl) (fun _ => by kernel_rfl) ?_
          refine s_load 0 ⟨b2, (cutV b).cells, 41⟩ (off := 1) (.agg #[.int .i64 b.v.maj, .int .i64 b.v.min, .int .i64 b.v.pat, .string (mkS b.v.pre), .string (mkS b.v.build)]) (by kernel_rfl) rfl (by kernel_rfl) (by kernel_rfl) (by kernel_rfl) ?_
          refine s_call (k := 62) (args := #[.agg #[.int .i64 a.v.maj, .int .i64 a.v.min, .int .i64 a.v.pat, .string (mkS a.v.pre), .string (mkS a.v.build)], .agg #[.int .i64 b.v.maj, .int .i64 b.v.min, .int .i64 b.v.pat, .string (mkS b.v.pre), .string (mkS b.v.build)]]) (.int .i64 (cmpR a.v b.v)) (by kernel_rfl) (fun _ => by kernel_rfl) (fun w _ => rcompare_any a.v b.v w ha.1 ha.2 hb.1 hb.2) ?_
          refine s_val (.int .i64 (cmpR a.v b.v)) (by kernel_rfl) (fun _ => by kernel_rfl) ?_
          refine s_nil ?_
          refine fin_seq ?_
          refine ok_seq ?_
          refine ok_region ?_
          refine s_val (.int .i64 (cmpR a.v b.v)) (by kernel_rfl) (fun _ => by kernel_rfl) ?_
          by_cases h5 : (cmpR a.v b.v : Int) = 0
          · skip
            refine s_ndec (p := (cmpR a.v b.v : Int) = 0) true (by kernel_rfl) (fun _ => by kernel_rfl) (decide_eq_true (h5)) ?_
            refine s_nil ?_
            refine fin_seq ?_
            refine ok_false (by kernel_rfl) ?_
            refine ok_skip ?_
            refine fin_seq ?_
            refine ok_seq ?_
            refine ok_block ?_
            refine ok_seq ?_
            refine ok_region ?_
            refine s_val (.pointer (some ⟨b1, 6, none⟩)) (by kernel_rfl) (fun _ => by kernel_rfl) ?_
            refine s_load 1 ⟨b1, (cutV a).cells, 41⟩ (off := 6) (.bool a.aft) (by kernel_rfl) rfl (by kernel_rfl) (by kernel_rfl) (by kernel_rfl) ?_
            refine s_val (.pointer (some ⟨b2, 6, none⟩)) (by kernel_rfl) (fun _ => by kernel_rfl) ?_
            refine s_load 0 ⟨b2, (cutV b).cells, 41⟩ (off := 6) (.bool b.aft) (by kernel_rfl) rfl (by kernel_rfl) (by kernel_rfl) (by kernel_rfl) ?_
            cases h6 : a.aft with
            | true =>
              cases h7 : b.aft with
              | true =>
                refine s_val (.bool true) (by kernel_rfl) (fun _ => by kernel_rfl) ?_
                refine s_val (.bool true) (by kernel_rfl) (fun _ => by kernel_rfl) ?_
                refine s_nil ?_
                refine fin_seq ?_
                refine ok_true (by kernel_rfl) ?_
                refine ok_seq ?_
                refine ok_region ?_
                refine s_val (.int .i64 0) (by kernel_rfl) (fun _ => by kernel_rfl) ?_
                refine s_nil ?_
                refine fin_seq ?_
                refine ok_ret ?_
                refine fin_block_ret ?_
                refine fin_seq_ret ?_
                refine fin_ret (.int .i64 0) Tryz.results44 (by kernel_rfl) ?_
                exact fun w hO => ⟨by rw [show cmpC a b = 0 from by first | (exact cmpC_bad (.inl (by assumption))) | (exact cmpC_bad (.inr (by assumption))) | exact rcmpC_eq (by assumption) (by assumption) (by simp_all)], hO.below⟩
              | false =>
                refine s_val (.bool false) (by kernel_rfl) (fun _ => by kernel_rfl) ?_
                refine s_val (.bool false) (by kernel_rfl) (fun _ => by kernel_rfl) ?_
                refine s_nil ?_
                refine fin_seq ?_
                refine ok_false (by kernel_rfl) ?_
                refine ok_seq ?_
                refine ok_region ?_
                refine s_val (.pointer (some ⟨b2, 6, none⟩)) (by kernel_rfl) (fun _ => by kernel_rfl) ?_
                refine s_load 0 ⟨b2, (cutV b).cells, 41⟩ (off := 6) (.bool b.aft) (by kernel_rfl) rfl (by kernel_rfl) (by kernel_rfl) (by kernel_rfl) ?_
                rw [h7]
                refine s_val (.bool false) (by kernel_rfl) (fun _ => by kernel_rfl) ?_
                refine s_nil ?_
                refine fin_seq ?_
                refine ok_false (by kernel_rfl) ?_
                refine ok_skip ?_
                refine fin_block ?_
                refine fin_seq ?_
                refine ok_seq ?_
                refine ok_region ?_
                refine s_val (.int .i64 1) (by kernel_rfl) (fun _ => by kernel_rfl) ?_
                refine s_nil ?_
                refine fin_seq ?_
                refine ok_ret ?_
                refine fin_ret (.int .i64 1) Tryz.results44 (by kernel_rfl) ?_
                exact fun w hO => ⟨by rw [show cmpC a b = 1 from by first | (exact cmpC_bad (.inl (by assumption))) | (exact cmpC_bad (.inr (by assumption))) | exact rcmpC_eq (by assumption) (by assumption) (by simp_all)], hO.below⟩
            | false =>
              cases h8 : b.aft with
              | true =>
                refine s_val (.bool false) (by kernel_rfl) (fun _ => by kernel_rfl) ?_
                refine s_val (.bool false) (by kernel_rfl) (fun _ => by kernel_rfl) ?_
                refine s_nil ?_
                refine fin_seq ?_
                refine ok_false (by kernel_rfl) ?_
                refine ok_seq ?_
                refine ok_region ?_
                refine s_val (.pointer (some ⟨b2, 6, none⟩)) (by kernel_rfl) (fun _ => by kernel_rfl) ?_
                refine s_load 0 ⟨b2, (cutV b).cells, 41⟩ (off := 6) (.bool b.aft) (by kernel_rfl) rfl (by kernel_rfl) (by kernel_rfl) (by kernel_rfl) ?_
                rw [h8]
                refine s_val (.bool true) (by kernel_rfl) (fun _ => by kernel_rfl) ?_
                refine s_nil ?_
                refine fin_seq ?_
                refine ok_true (by kernel_rfl) ?_
                refine ok_seq ?_
                refine ok_region ?_
                refine s_val (.int .i64 (-1)) (by kernel_rfl) (fun _ => by kernel_rfl) ?_
                refine s_nil ?_
                refine fin_seq ?_
                refine ok_ret ?_
                refine fin_block_ret ?_
                refine fin_seq_ret ?_
                refine fin_ret (.int .i64 (-1)) Tryz.results44 (by kernel_rfl) ?_
                exact fun w hO => ⟨by rw [show cmpC a b = (-1) from by first | (exact cmpC_bad (.inl (by assumption))) | (exact cmpC_bad (.inr (by assumption))) | exact rcmpC_eq (by assumption) (by assumption) (by simp_all)], hO.below⟩
              | false =>
                refine s_val (.bool true) (by kernel_rfl) (fun _ => by kernel_rfl) ?_
                refine s_val (.bool true) (by kernel_rfl) (fun _ => by kernel_rfl) ?_
                refine s_nil ?_
                refine fin_seq ?_
                refine ok_true (by kernel_rfl) ?_
                refine ok_seq ?_
                refine ok_region ?_
                refine s_val (.int .i64 0) (by kernel_rfl) (fun _ => by kernel_rfl) ?_
                refine s_nil ?_
                refine fin_seq ?_
                refine ok_ret ?_
                refine fin_block_ret ?_
                refine fin_seq_ret ?_
                refine fin_ret (.int .i64 0) Tryz.results44 (by kernel_rfl) ?_
                exact fun w hO => ⟨by rw [show cmpC a b = 0 from by first | (exact cmpC_bad (.inl (by assumption))) | (exact cmpC_bad (.inr (by assumption))) | exact rcmpC_eq (by assumption) (by assumption) (by simp_all)], hO.below⟩
          · skip
            refine s_ndec (p := (cmpR a.v b.v : Int) = 0) false (by kernel_rfl) (fun _ => by kernel_rfl) (decide_eq_false (h5)) ?_
            refine s_nil ?_
            refine fin_seq ?_
            refine ok_true (by kernel_rfl) ?_
            refine ok_seq ?_
            refine ok_region ?_
            refine s_val (.int .i64 (cmpR a.v b.v)) (by kernel_rfl) (fun _ => by kernel_rfl) ?_
            refine s_val (.int .i64 (cmpR a.v b.v)) (by kernel_rfl) (fun _ => by kernel_rfl) ?_
            refine s_nil ?_
            refine fin_seq ?_
            refine ok_ret ?_
            refine fin_seq_ret ?_
            refine fin_ret (.int .i64 (cmpR a.v b.v)) Tryz.results44 (by kernel_rfl) ?_
            exact fun w hO => ⟨by rw [show cmpC a b = (cmpR a.v b.v) from by first | (exact cmpC_bad (.inl (by assumption))) | (exact cmpC_bad (.inr (by assumption))) | exact rcmpC_eq (by assumption) (by assumption) (by simp_all)], hO.below⟩
        · skip
          refine s_ndec (p := (a.e : Int) = 0) false (by kernel_rfl) (fun _ => by kernel_rfl) (decide_eq_false (h4)) ?_
          refine s_val (.bool true) (by kernel_rfl) (fun _ => by kernel_rfl) ?_
          refine s_nil ?_
          refine fin_seq ?_
          refine ok_true (by kernel_rfl) ?_
          refine ok_seq ?_
          refine ok_region ?_
          refine s_val (.pointer (some ⟨b1, 0, none⟩)) (by kernel_rfl) (fun _ => by kernel_rfl) ?_
          refine s_load 1 ⟨b1, (cutV a).cells, 41⟩ (off := 0) (.int .i64 a.e) (by kernel_rfl) rfl (by kernel_rfl) (by kernel_rfl) (by kernel_rfl) ?_
          refine s_val (.pointer (some ⟨b2, 0, none⟩)) (by kernel_rfl) (fun _ => by kernel_rfl) ?_
          refine s_load 0 ⟨b2, (cutV b).cells, 41⟩ (off := 0) (.int .i64 b.e) (by kernel_rfl) rfl (by kernel_rfl) (by kernel_rfl) (by kernel_rfl) ?_
          refine s_call (k := 61) (args := #[.int .i64 a.e, .int .i64 b.e]) (.int .i64 (Lib.compareInt a.e b.e)) (by kernel_rfl) (fun _ => by kernel_rfl) (fun w _ => (rints_any a.e b.e w).mono fun _ _ ⟨h1, h2⟩ => ⟨h1, h2 ▸ Below.refl _ _⟩) ?_
          refine s_val (.int .i64 (Lib.compareInt a.e b.e)) (by kernel_rfl) (fun _ => by kernel_rfl) ?_
          refine s_nil ?_
          refine fin_seq ?_
          refine ok_ret ?_
          refine fin_seq_ret ?_
          refine fin_ret (.int .i64 (Lib.compareInt a.e b.e)) Tryz.results44 (by kernel_rfl) ?_
          exact fun w hO => ⟨by rw [show cmpC a b = (Lib.compareInt a.e b.e) from by first | (exact cmpC_bad (.inl (by assumption))) | (exact cmpC_bad (.inr (by assumption))) | exact rcmpC_eq (by assumption) (by assumption) (by simp_all)], hO.below⟩
      · skip
        refine s_ndec (p := (a.e : Int) = b.e) false (by kernel_rfl) (fun _ => by kernel_rfl) (decide_eq_false (h3)) ?_
        refine s_val (.bool true) (by kernel_rfl) (fun _ => by kernel_rfl) ?_
        refine s_skip (by kernel_rfl) ?_
        refine s_skip (by kernel_rfl) ?_
        refine s_skip (by kernel_rfl) ?_
        refine s_val (.bool true) (by kernel_rfl) (fun _ => by kernel_rfl) ?_
        refine s_nil ?_
        refine fin_seq ?_
        refine ok_true (by kernel_rfl) ?_
        refine ok_seq ?_
        refine ok_region ?_
        refine s_val (.pointer (some ⟨b1, 0, none⟩)) (by kernel_rfl) (fun _ => by kernel_rfl) ?_
        refine s_load 1 ⟨b1, (cutV a).cells, 41⟩ (off := 0) (.int .i64 a.e) (by kernel_rfl) rfl (by kernel_rfl) (by kernel_rfl) (by kernel_rfl) ?_
        refine s_val (.pointer (some ⟨b2, 0, none⟩)) (by kernel_rfl) (fun _ => by kernel_rfl) ?_
        refine s_load 0 ⟨b2, (cutV b).cells, 41⟩ (off := 0) (.int .i64 b.e) (by kernel_rfl) rfl (by kernel_rfl) (by kernel_rfl) (by kernel_rfl) ?_
        refine s_call (k := 61) (args := #[.int .i64 a.e, .int .i64 b.e]) (.int .i64 (Lib.compareInt a.e b.e)) (by kernel_rfl) (fun _ => by kernel_rfl) (fun w _ => (rints_any a.e b.e w).mono fun _ _ ⟨h1, h2⟩ => ⟨h1, h2 ▸ Below.refl _ _⟩) ?_
        refine s_val (.int .i64 (Lib.compareInt a.e b.e)) (by kernel_rfl) (fun _ => by kernel_rfl) ?_
        refine s_nil ?_
        refine fin_seq ?_
        refine ok_ret ?_
        refine fin_seq_ret ?_
        refine fin_ret (.int .i64 (Lib.compareInt a.e b.e)) Tryz.results44 (by kernel_rfl) ?_
        exact fun w hO => ⟨by rw [show cmpC a b = (Lib.compareInt a.e b.e) from by first | (exact cmpC_bad (.inl (by assumption))) | (exact cmpC_bad (.inr (by assumption))) | exact rcmpC_eq (by assumption) (by assumption) (by simp_all)], hO.below⟩
    | false =>
      refine s_val (.bool true) (by kernel_rfl) (fun _ => by kernel_rfl) ?_
      refine s_val (.bool true) (by kernel_rfl) (fun _ => by kernel_rfl) ?_
      refine s_nil ?_
      refine fin_seq ?_
      refine ok_true (by kernel_rfl) ?_
      refine ok_seq ?_
      refine ok_region ?_
      refine s_val (.int .i64 0) (by kernel_rfl) (fun _ => by kernel_rfl) ?_
      refine s_nil ?_
      refine fin_seq ?_
      refine ok_ret ?_
      refine fin_seq_ret ?_
      refine fin_ret (.int .i64 0) Tryz.results44 (by kernel_rfl) ?_
      exact fun w hO => ⟨by rw [show cmpC a b = 0 from by first | (exact cmpC_bad (.inl (by assumption))) | (exact cmpC_bad (.inr (by assumption))) | exact rcmpC_eq (by assumption) (by assumption) (by simp_all)], hO.below⟩
  | false =>
    refine s_val (.bool true) (by kernel_rfl) (fun _ => by kernel_rfl) ?_
    refine s_val (.bool true) (by kernel_rfl) (fun _ => by kernel_rfl) ?_
    refine s_skip (by kernel_rfl) ?_
    refine s_skip (by kernel_rfl) ?_
    refine s_skip (by kernel_rfl) ?_
    refine s_val (.bool true) (by kernel_rfl) (fun _ => by kernel_rfl) ?_
    refine s_nil ?_
    refine fin_seq ?_
    refine ok_true (by kernel_rfl) ?_
    refine ok_seq ?_
    refine ok_region ?_
    refine s_val (.int .i64 0) (by kernel_rfl) (fun _ => by kernel_rfl) ?_
    refine s_nil ?_
    refine fin_seq ?_
    refine ok_ret ?_
    refine fin_seq_ret ?_
    refine fin_ret (.int .i64 0) Tryz.results44 (by kernel_rfl) ?_
    exact fun w hO => ⟨by rw [show cmpC a b = 0 from by first | (exact cmpC_bad (.inl (by assumption))) | (exact cmpC_bad (.inr (by assumption))) | exact rcmpC_eq (by assumption) (by assumption) (by simp_all)], hO.below⟩
theorem aheadC_any (c : Cu) (v : Ver) (W : World) (hc : c.short) (hv : v.short) : Calls Tryz.prog 56 #[cutV c, verV v] W fun e w' => e = .returned (.bool (aheadC c v)) ∧ Below W.heap.size W w' := by
  refine calls_ok (n := 18) Tryz.func56 rfl (by kernel_rfl) (by kernel_rfl) ?_
  refine ok_seq ?_
  refine ok_region ?_
  refine s_box (cutV c) (by kernel_rfl) rfl (by kernel_rfl) (fun b1 => ?_)
  refine s_box (verV v) (by kernel_rfl) rfl (by kernel_rfl) (fun b2 => ?_)
  refine s_val (.bool false) (by kernel_rfl) (fun _ => by kernel_rfl) ?_
  refine s_nil ?_
  refine fin_seq ?_
  refine ok_seq ?_
  refine ok_region ?_
  refine s_load 1 ⟨b1, (cutV c).cells, 41⟩ (off := 0) (cutV c) (by kernel_rfl) rfl (by kernel_rfl) (by kernel_rfl) (by kernel_rfl) ?_
  refine s_call (k := 58) (args := #[cutV c]) (.bool c.may) (by kernel_rfl) (fun _ => by kernel_rfl) (fun w _ => mayC_any c w hc) ?_
  refine s_val (.bool c.may) (by kernel_rfl) (fun _ => by kernel_rfl) ?_
  cases h1 : c.may with
  | true =>
    refine s_load 0 ⟨b2, (verV v).cells, 31⟩ (off := 0) (verV v) (by kernel_rfl) rfl (by kernel_rfl) (by kernel_rfl) (by kernel_rfl) ?_
    refine s_call (k := 66) (args := #[verV v]) (.bool v.may) (by kernel_rfl) (fun _ => by kernel_rfl) (fun w _ => may_any v w (Nat.lt_of_le_of_lt hv.1 (by decide)) (Nat.lt_of_le_of_lt hv.2 (by decide))) ?_
    refine s_val (.bool v.may) (by kernel_rfl) (fun _ => by kernel_rfl) ?_
    refine s_val (.bool v.may) (by kernel_rfl) (fun _ => by kernel_rfl) ?_
    cases h2 : v.may with
    | true =>
      refine s_load 0 ⟨b2, (verV v).cells, 31⟩ (off := 0) (verV v) (by kernel_rfl) rfl (by kernel_rfl) (by kernel_rfl) (by kernel_rfl) ?_
      refine s_val (.agg #[.int .i64 0, .int .i64 v.maj, .int .i64 v.min, .int .i64 v.pat, .string (mkS v.pre), .string (mkS v.build), .bool false]) (by kernel_rfl) (fun _ => by kernel_rfl) ?_
      refine s_load 1 ⟨b1, (cutV c).cells, 41⟩ (off := 0) (cutV c) (by kernel_rfl) rfl (by kernel_rfl) (by kernel_rfl) (by kernel_rfl) ?_
      refine s_call (k := 59) (args := #[.agg #[.int .i64 0, .int .i64 v.maj, .int .i64 v.min, .int .i64 v.pat, .string (mkS v.pre), .string (mkS v.build), .bool false], cutV c]) (.bool (lessC ⟨0, v, false⟩ c)) (by kernel_rfl) (fun _ => by kernel_rfl) (fun w _ => less_any ⟨0, v, false⟩ c w hv hc) ?_
      cases h3 : lessC ⟨0, v, false⟩ c with
      | true =>
        refine s_val (.bool false) (by kernel_rfl) (fun _ => by kernel_rfl) ?_
        refine s_val (.bool false) (by kernel_rfl) (fun _ => by kernel_rfl) ?_
        refine s_val (.bool false) (by kernel_rfl) (fun _ => by kernel_rfl) ?_
        refine s_nil ?_
        refine fin_seq ?_
        refine ok_ret ?_
        refine fin_ret (.bool false) Tryz.results56 (by kernel_rfl) ?_
        exact fun w hO => ⟨by rw [show aheadC c v = false from by rw [ahead_less]; simp [h1, h2, h3]], hO.below⟩
      | false =>
        refine s_val (.bool true) (by kernel_rfl) (fun _ => by kernel_rfl) ?_
        refine s_val (.bool true) (by kernel_rfl) (fun _ => by kernel_rfl) ?_
        refine s_val (.bool true) (by kernel_rfl) (fun _ => by kernel_rfl) ?_
        refine s_nil ?_
        refine fin_seq ?_
        refine ok_ret ?_
        refine fin_ret (.bool true) Tryz.results56 (by kernel_rfl) ?_
        exact fun w hO => ⟨by rw [show aheadC c v = true from by rw [ahead_less]; simp [h1, h2, h3]], hO.below⟩
    | false =>
      refine s_skip (by kernel_rfl) ?_
      refine s_skip (by kernel_rfl) ?_
      refine s_skip (by kernel_rfl) ?_
      refine s_skip (by kernel_rfl) ?_
      refine s_skip (by kernel_rfl) ?_
      refine s_val (.bool false) (by kernel_rfl) (fun _ => by kernel_rfl) ?_
      refine s_val (.bool false) (by kernel_rfl) (fun _ => by kernel_rfl) ?_
      refine s_nil ?_
      refine fin_seq ?_
      refine ok_ret ?_
      refine fin_ret (.bool false) Tryz.results56 (by kernel_rfl) ?_
      exact fun w hO => ⟨by rw [show aheadC c v = false from by rw [ahead_less]; simp [h1, h2]], hO.below⟩
  | false =>
    refine s_skip (by kernel_rfl) ?_
    refine s_skip (by kernel_rfl) ?_
    refine s_val (.bool false) (by kernel_rfl) (fun _ => by kernel_rfl) ?_
    refine s_val (.bool false) (by kernel_rfl) (fun _ => by kernel_rfl) ?_
    refine s_skip (by kernel_rfl) ?_
    refine s_skip (by kernel_rfl) ?_
    refine s_skip (by kernel_rfl) ?_
    refine s_skip (by kernel_rfl) ?_
    refine s_skip (by kernel_rfl) ?_
    refine s_val (.bool false) (by kernel_rfl) (fun _ => by kernel_rfl) ?_
    refine s_val (.bool false) (by kernel_rfl) (fun _ => by kernel_rfl) ?_
    refine s_nil ?_
    refine fin_seq ?_
    refine ok_ret ?_
    refine fin_ret (.bool false) Tryz.results56 (by kernel_rfl) ?_
    exact fun w hO => ⟨by rw [show aheadC c v = false from by rw [ahead_less]; simp [h1]], hO.below⟩
theorem spanMay_any (s : Sp) (W : World) (hs : s.short) : Calls Tryz.prog 41 #[spanV s] W fun e w' => e = .returned (.bool s.may) ∧ Below W.heap.size W w' := by
  refine calls_ok (n := 9) Tryz.func41 rfl (by kernel_rfl) (by kernel_rfl) ?_
  refine ok_seq ?_
  refine ok_region ?_
  refine s_box (spanV s) (by kernel_rfl) rfl (by kernel_rfl) (fun b1 => ?_)
  refine s_val (.bool false) (by kernel_rfl) (fun _ => by kernel_rfl) ?_
  refine s_nil ?_
  refine fin_seq ?_
  refine ok_seq ?_
  refine ok_region ?_
  refine s_val (.pointer (some ⟨b1, 0, none⟩)) (by kernel_rfl) (fun _ => by kernel_rfl) ?_
  refine s_load 0 ⟨b1, (spanV s).cells, 43⟩ (off := 0) (.agg #[.int .i64 s.lo.e, .int .i64 s.lo.v.maj, .int .i64 s.lo.v.min, .int .i64 s.lo.v.pat, .string (mkS s.lo.v.pre), .string (mkS s.lo.v.build), .bool s.lo.aft]) (by kernel_rfl) rfl (by kernel_rfl) (by kernel_rfl) (by kernel_rfl) ?_
  refine s_val (.pointer (some ⟨b1, 7, none⟩)) (by kernel_rfl) (fun _ => by kernel_rfl) ?_
  refine s_load 0 ⟨b1, (spanV s).cells, 43⟩ (off := 7) (.agg #[.int .i64 s.hi.e, .int .i64 s.hi.v.maj, .int .i64 s.hi.v.min, .int .i64 s.hi.v.pat, .string (mkS s.hi.v.pre), .string (mkS s.hi.v.build), .bool s.hi.aft]) (by kernel_rfl) rfl (by kernel_rfl) (by kernel_rfl) (by kernel_rfl) ?_
  refine s_call (k := 42) (args := #[.agg #[.int .i64 s.lo.e, .int .i64 s.lo.v.maj, .int .i64 s.lo.v.min, .int .i64 s.lo.v.pat, .string (mkS s.lo.v.pre), .string (mkS s.lo.v.build), .bool s.lo.aft], .agg #[.int .i64 s.hi.e, .int .i64 s.hi.v.maj, .int .i64 s.hi.v.min, .int .i64 s.hi.v.pat, .string (mkS s.hi.v.pre), .string (mkS s.hi.v.build), .bool s.hi.aft]]) (.int .i64 (cmpC s.lo s.hi)) (by kernel_rfl) (fun _ => by kernel_rfl) (fun w _ => cmpC_any s.lo s.hi w hs.1 hs.2) ?_
  by_cases h1 : (cmpC s.lo s.hi : Int) = -1
  · skip
    refine s_dec (p := (cmpC s.lo s.hi : Int) = -1) true (by kernel_rfl) (fun _ => by kernel_rfl) (decide_eq_true (h1)) ?_
    refine s_val (.bool true) (by kernel_rfl) (fun _ => by kernel_rfl) ?_
    refine s_nil ?_
    refine fin_seq ?_
    refine ok_ret ?_
    refine fin_ret (.bool true) Tryz.results41 (by kernel_rfl) ?_
    exact fun w hO => ⟨by rw [show s.may = true from by unfold Sp.may; simp [h1]], hO.below⟩
  · skip
    refine s_dec (p := (cmpC s.lo s.hi : Int) = -1) false (by kernel_rfl) (fun _ => by kernel_rfl) (decide_eq_false (h1)) ?_
    refine s_val (.bool false) (by kernel_rfl) (fun _ => by kernel_rfl) ?_
    refine s_nil ?_
    refine fin_seq ?_
    refine ok_ret ?_
    refine fin_ret (.bool false) Tryz.results41 (by kernel_rfl) ?_
    exact fun w hO => ⟨by rw [show s.may = false from by unfold Sp.may; simp [h1]], hO.below⟩
theorem rspanMay_any (s : Sp) (W : World) (hs : s.short) : Calls Tryz.prog 45 #[spanV s] W fun e w' => e = .returned (.bool s.may) ∧ Below W.heap.size W w' := by
  refine calls_ok (n := 19) Tryz.func45 rfl (by kernel_rfl) (by kernel_rfl) ?_
  refine ok_seq ?_
  refine ok_region ?_
  refine s_box (spanV s) (by kernel_rfl) rfl (by kernel_rfl) (fun b1 => ?_)
  refine s_val (.bool false) (by kernel_rfl) (fun _ => by kernel_rfl) ?_
  refine s_nil ?_
  refine fin_seq ?_
  refine ok_seq ?_
  refine ok_region ?_
  refine s_val (.pointer (some ⟨b1, 0, none⟩)) (by kernel_rfl) (fun _ => by kernel_rfl) ?_
  refine s_load 0 ⟨b1, (spanV s).cells, 43⟩ (off := 0) (.agg #[.int .i64 s.lo.e, .int .i64 s.lo.v.maj, .int .i64 s.lo.v.min, .int .i64 s.lo.v.pat, .string (mkS s.lo.v.pre), .string (mkS s.lo.v.build), .bool s.lo.aft]) (by kernel_rfl) rfl (by kernel_rfl) (by kernel_rfl) (by kernel_rfl) ?_
  refine s_call (k := 60) (args := #[.agg #[.int .i64 s.lo.e, .int .i64 s.lo.v.maj, .int .i64 s.lo.v.min, .int .i64 s.lo.v.pat, .string (mkS s.lo.v.pre), .string (mkS s.lo.v.build), .bool s.lo.aft]]) (.bool s.lo.may) (by kernel_rfl) (fun _ => by kernel_rfl) (fun w _ => rmayC_any s.lo w hs.1) ?_
  refine s_val (.bool s.lo.may) (by kernel_rfl) (fun _ => by kernel_rfl) ?_
  cases h1 : s.lo.may with
  | true =>
    refine s_val (.pointer (some ⟨b1, 7, none⟩)) (by kernel_rfl) (fun _ => by kernel_rfl) ?_
    refine s_load 0 ⟨b1, (spanV s).cells, 43⟩ (off := 7) (.agg #[.int .i64 s.hi.e, .int .i64 s.hi.v.maj, .int .i64 s.hi.v.min, .int .i64 s.hi.v.pat, .string (mkS s.hi.v.pre), .string (mkS s.hi.v.build), .bool s.hi.aft]) (by kernel_rfl) rfl (by kernel_rfl) (by kernel_rfl) (by kernel_rfl) ?_
    refine s_call (k := 60) (args := #[.agg #[.int .i64 s.hi.e, .int .i64 s.hi.v.maj, .int .i64 s.hi.v.min, .int .i64 s.hi.v.pat, .string (mkS s.hi.v.pre), .string (mkS s.hi.v.build), .bool s.hi.aft]]) (.bool s.hi.may) (by kernel_rfl) (fun _ => by kernel_rfl) (fun w _ => rmayC_any s.hi w hs.2) ?_
    refine s_val (.bool s.hi.may) (by kernel_rfl) (fun _ => by kernel_rfl) ?_
    refine s_val (.bool s.hi.may) (by kernel_rfl) (fun _ => by kernel_rfl) ?_
    cases h2 : s.hi.may with
    | true =>
      refine s_val (.pointer (some ⟨b1, 0, none⟩)) (by kernel_rfl) (fun _ => by kernel_rfl) ?_
      refine s_load 0 ⟨b1, (spanV s).cells, 43⟩ (off := 0) (.agg #[.int .i64 s.lo.e, .int .i64 s.lo.v.maj, .int .i64 s.lo.v.min, .int .i64 s.lo.v.pat, .string (mkS s.lo.v.pre), .string (mkS s.lo.v.build), .bool s.lo.aft]) (by kernel_rfl) rfl (by kernel_rfl) (by kernel_rfl) (by kernel_rfl) ?_
      refine s_val (.pointer (some ⟨b1, 7, none⟩)) (by kernel_rfl) (fun _ => by kernel_rfl) ?_
      refine s_load 0 ⟨b1, (spanV s).cells, 43⟩ (off := 7) (.agg #[.int .i64 s.hi.e, .int .i64 s.hi.v.maj, .int .i64 s.hi.v.min, .int .i64 s.hi.v.pat, .string (mkS s.hi.v.pre), .string (mkS s.hi.v.build), .bool s.hi.aft]) (by kernel_rfl) rfl (by kernel_rfl) (by kernel_rfl) (by kernel_rfl) ?_
      refine s_call (k := 44) (args := #[.agg #[.int .i64 s.lo.e, .int .i64 s.lo.v.maj, .int .i64 s.lo.v.min, .int .i64 s.lo.v.pat, .string (mkS s.lo.v.pre), .string (mkS s.lo.v.build), .bool s.lo.aft], .agg #[.int .i64 s.hi.e, .int .i64 s.hi.v.maj, .int .i64 s.hi.v.min, .int .i64 s.hi.v.pat, .string (mkS s.hi.v.pre), .string (mkS s.hi.v.build), .bool s.hi.aft]]) (.int .i64 (cmpC s.lo s.hi)) (by kernel_rfl) (fun _ => by kernel_rfl) (fun w _ => rcmpC_any s.lo s.hi w hs.1 hs.2) ?_
      by_cases h3 : (cmpC s.lo s.hi : Int) < 0
      · skip
        refine s_dec (p := (cmpC s.lo s.hi : Int) < 0) true (by kernel_rfl) (fun _ => by kernel_rfl) (decide_eq_true (h3)) ?_
        refine s_val (.bool true) (by kernel_rfl) (fun _ => by kernel_rfl) ?_
        refine s_val (.bool true) (by kernel_rfl) (fun _ => by kernel_rfl) ?_
        refine s_nil ?_
        refine fin_seq ?_
        refine ok_ret ?_
        refine fin_ret (.bool true) Tryz.results45 (by kernel_rfl) ?_
        exact fun w hO => ⟨by rw [show s.may = true from by rw [← span_ref]; simp [h1, h2, h3]], hO.below⟩
      · skip
        refine s_dec (p := (cmpC s.lo s.hi : Int) < 0) false (by kernel_rfl) (fun _ => by kernel_rfl) (decide_eq_false (h3)) ?_
        refine s_val (.bool false) (by kernel_rfl) (fun _ => by kernel_rfl) ?_
        refine s_val (.bool false) (by kernel_rfl) (fun _ => by kernel_rfl) ?_
        refine s_nil ?_
        refine fin_seq ?_
        refine ok_ret ?_
        refine fin_ret (.bool false) Tryz.results45 (by kernel_rfl) ?_
        exact fun w hO => ⟨by rw [show s.may = false from by rw [← span_ref]; simp [h1, h2, h3]], hO.below⟩
    | false =>
      refine s_skip (by kernel_rfl) ?_
      refine s_skip (by kernel_rfl) ?_
      refine s_skip (by kernel_rfl) ?_
      refine s_skip (by kernel_rfl) ?_
      refine s_skip (by kernel_rfl) ?_
      refine s_skip (by kernel_rfl) ?_
      refine s_val (.bool false) (by kernel_rfl) (fun _ => by kernel_rfl) ?_
      refine s_val (.bool false) (by kernel_rfl) (fun _ => by kernel_rfl) ?_
      refine s_nil ?_
      refine fin_seq ?_
      refine ok_ret ?_
      refine fin_ret (.bool false) Tryz.results45 (by kernel_rfl) ?_
      exact fun w hO => ⟨by rw [show s.may = false from by rw [← span_ref]; simp [h1, h2]], hO.below⟩
  | false =>
    refine s_skip (by kernel_rfl) ?_
    refine s_skip (by kernel_rfl) ?_
    refine s_skip (by kernel_rfl) ?_
    refine s_val (.bool false) (by kernel_rfl) (fun _ => by kernel_rfl) ?_
    refine s_val (.bool false) (by kernel_rfl) (fun _ => by kernel_rfl) ?_
    refine s_skip (by kernel_rfl) ?_
    refine s_skip (by kernel_rfl) ?_
    refine s_skip (by kernel_rfl) ?_
    refine s_skip (by kernel_rfl) ?_
    refine s_skip (by kernel_rfl) ?_
    refine s_skip (by kernel_rfl) ?_
    refine s_val (.bool false) (by kernel_rfl) (fun _ => by kernel_rfl) ?_
    refine s_val (.bool false) (by kernel_rfl) (fun _ => by kernel_rfl) ?_
    refine s_nil ?_
    refine fin_seq ?_
    refine ok_ret ?_
    refine fin_ret (.bool false) Tryz.results45 (by kernel_rfl) ?_
    exact fun w hO => ⟨by rw [show s.may = false from by rw [← span_ref]; simp [h1]], hO.below⟩
theorem holdsC_any (s : Sp) (v : Ver) (W : World) (hs : s.short) (hv : v.short) : Calls Tryz.prog 39 #[spanV s, verV v] W fun e w' => e = .returned (.bool (holdsC s v)) ∧ Below W.heap.size W w' := by
  refine calls_ok (n := 20) Tryz.func39 rfl (by kernel_rfl) (by kernel_rfl) ?_
  refine ok_seq ?_
  refine ok_region ?_
  refine s_box (spanV s) (by kernel_rfl) rfl (by kernel_rfl) (fun b1 => ?_)
  refine s_box (verV v) (by kernel_rfl) rfl (by kernel_rfl) (fun b2 => ?_)
  refine s_val (.bool false) (by kernel_rfl) (fun _ => by kernel_rfl) ?_
  refine s_nil ?_
  refine fin_seq ?_
  refine ok_seq ?_
  refine ok_region ?_
  refine s_load 1 ⟨b1, (spanV s).cells, 43⟩ (off := 0) (spanV s) (by kernel_rfl) rfl (by kernel_rfl) (by kernel_rfl) (by kernel_rfl) ?_
  refine s_call (k := 41) (args := #[spanV s]) (.bool s.may) (by kernel_rfl) (fun _ => by kernel_rfl) (fun w _ => spanMay_any s w hs) ?_
  refine s_val (.bool s.may) (by kernel_rfl) (fun _ => by kernel_rfl) ?_
  cases h1 : s.may with
  | true =>
    refine s_val (.pointer (some ⟨b1, 0, none⟩)) (by kernel_rfl) (fun _ => by kernel_rfl) ?_
    refine s_load 1 ⟨b1, (spanV s).cells, 43⟩ (off := 0) (.agg #[.int .i64 s.lo.e, .int .i64 s.lo.v.maj, .int .i64 s.lo.v.min, .int .i64 s.lo.v.pat, .string (mkS s.lo.v.pre), .string (mkS s.lo.v.build), .bool s.lo.aft]) (by kernel_rfl) rfl (by kernel_rfl) (by kernel_rfl) (by kernel_rfl) ?_
    refine s_load 0 ⟨b2, (verV v).cells, 31⟩ (off := 0) (verV v) (by kernel_rfl) rfl (by kernel_rfl) (by kernel_rfl) (by kernel_rfl) ?_
    refine s_call (k := 56) (args := #[.agg #[.int .i64 s.lo.e, .int .i64 s.lo.v.maj, .int .i64 s.lo.v.min, .int .i64 s.lo.v.pat, .string (mkS s.lo.v.pre), .string (mkS s.lo.v.build), .bool s.lo.aft], verV v]) (.bool (aheadC s.lo v)) (by kernel_rfl) (fun _ => by kernel_rfl) (fun w _ => aheadC_any s.lo v w hs.1 hv) ?_
    refine s_val (.bool (aheadC s.lo v)) (by kernel_rfl) (fun _ => by kernel_rfl) ?_
    refine s_val (.bool (aheadC s.lo v)) (by kernel_rfl) (fun _ => by kernel_rfl) ?_
    cases h2 : aheadC s.lo v with
    | true =>
      refine s_val (.pointer (some ⟨b1, 7, none⟩)) (by kernel_rfl) (fun _ => by kernel_rfl) ?_
      refine s_load 1 ⟨b1, (spanV s).cells, 43⟩ (off := 7) (.agg #[.int .i64 s.hi.e, .int .i64 s.hi.v.maj, .int .i64 s.hi.v.min, .int .i64 s.hi.v.pat, .string (mkS s.hi.v.pre), .string (mkS s.hi.v.build), .bool s.hi.aft]) (by kernel_rfl) rfl (by kernel_rfl) (by kernel_rfl) (by kernel_rfl) ?_
      refine s_load 0 ⟨b2, (verV v).cells, 31⟩ (off := 0) (verV v) (by kernel_rfl) rfl (by kernel_rfl) (by kernel_rfl) (by kernel_rfl) ?_
      refine s_call (k := 56) (args := #[.agg #[.int .i64 s.hi.e, .int .i64 s.hi.v.maj, .int .i64 s.hi.v.min, .int .i64 s.hi.v.pat, .string (mkS s.hi.v.pre), .string (mkS s.hi.v.build), .bool s.hi.aft], verV v]) (.bool (aheadC s.hi v)) (by kernel_rfl) (fun _ => by kernel_rfl) (fun w _ => aheadC_any s.hi v w hs.2 hv) ?_
      cases h3 : aheadC s.hi v with
      | true =>
        refine s_val (.bool false) (by kernel_rfl) (fun _ => by kernel_rfl) ?_
        refine s_val (.bool false) (by kernel_rfl) (fun _ => by kernel_rfl) ?_
        refine s_val (.bool false) (by kernel_rfl) (fun _ => by kernel_rfl) ?_
        refine s_nil ?_
        refine fin_seq ?_
        refine ok_ret ?_
        refine fin_ret (.bool false) Tryz.results39 (by kernel_rfl) ?_
        exact fun w hO => ⟨by rw [show holdsC s v = false from by unfold holdsC; simp [h1, h2, h3]], hO.below⟩
      | false =>
        refine s_val (.bool true) (by kernel_rfl) (fun _ => by kernel_rfl) ?_
        refine s_val (.bool true) (by kernel_rfl) (fun _ => by kernel_rfl) ?_
        refine s_val (.bool true) (by kernel_rfl) (fun _ => by kernel_rfl) ?_
        refine s_nil ?_
        refine fin_seq ?_
        refine ok_ret ?_
        refine fin_ret (.bool true) Tryz.results39 (by kernel_rfl) ?_
        exact fun w hO => ⟨by rw [show holdsC s v = true from by unfold holdsC; simp [h1, h2, h3]], hO.below⟩
    | false =>
      refine s_skip (by kernel_rfl) ?_
      refine s_skip (by kernel_rfl) ?_
      refine s_skip (by kernel_rfl) ?_
      refine s_skip (by kernel_rfl) ?_
      refine s_skip (by kernel_rfl) ?_
      refine s_val (.bool false) (by kernel_rfl) (fun _ => by kernel_rfl) ?_
      refine s_val (.bool false) (by kernel_rfl) (fun _ => by kernel_rfl) ?_
      refine s_nil ?_
      refine fin_seq ?_
      refine ok_ret ?_
      refine fin_ret (.bool false) Tryz.results39 (by kernel_rfl) ?_
      exact fun w hO => ⟨by rw [show holdsC s v = false from by unfold holdsC; simp [h1, h2]], hO.below⟩
  | false =>
    refine s_skip (by kernel_rfl) ?_
    refine s_skip (by kernel_rfl) ?_
    refine s_skip (by kernel_rfl) ?_
    refine s_skip (by kernel_rfl) ?_
    refine s_val (.bool false) (by kernel_rfl) (fun _ => by kernel_rfl) ?_
    refine s_val (.bool false) (by kernel_rfl) (fun _ => by kernel_rfl) ?_
    refine s_skip (by kernel_rfl) ?_
    refine s_skip (by kernel_rfl) ?_
    refine s_skip (by kernel_rfl) ?_
    refine s_skip (by kernel_rfl) ?_
    refine s_skip (by kernel_rfl) ?_
    refine s_val (.bool false) (by kernel_rfl) (fun _ => by kernel_rfl) ?_
    refine s_val (.bool false) (by kernel_rfl) (fun _ => by kernel_rfl) ?_
    refine s_nil ?_
    refine fin_seq ?_
    refine ok_ret ?_
    refine fin_ret (.bool false) Tryz.results39 (by kernel_rfl) ?_
    exact fun w hO => ⟨by rw [show holdsC s v = false from by unfold holdsC; simp [h1]], hO.below⟩
end Go.Proofs.YtmlecnomdamgnaaGreat
end

section
/-
  Plain mathematics for chapter 4: rows of spans; what a row holds, cut by cut; a valid row is what it holds; the row that stretches between rising cuts come to.
-/
namespace Go.Proofs.YtmlecnomdamgnaaGreat
open Go.RowKit
set_option linter.unusedVariables false
set_option linter.unusedSimpArgs false

/-! ### The order of valid cuts -/
theorem cle_trans {a b c : Cu} (ha : a.may = true) (hb : b.may = true) (hc : c.may = true) (h1 : cmpC a b ≤ 0) (h2 : cmpC b c ≤ 0) : cmpC a c ≤ 0 := (cut_on ha hb hc h1 h2).1
theorem cle_lt {a b c : Cu} (ha : a.may = true) (hb : b.may = true) (hc : c.may = true) (h1 : cmpC a b ≤ 0) (h2 : cmpC b c < 0) : cmpC a c < 0 := by
  have h := cut_on ha hb hc h1 (by omega)
  rcases Int.lt_or_eq_of_le h.1 with h3 | h3
  · exact h3
  · have := (h.2 h3).2; omega
theorem clt_le {a b c : Cu} (ha : a.may = true) (hb : b.may = true) (hc : c.may = true) (h1 : cmpC a b < 0) (h2 : cmpC b c ≤ 0) : cmpC a c < 0 := by
  have h := cut_on ha hb hc (by omega) h2
  rcases Int.lt_or_eq_of_le h.1 with h3 | h3
  · exact h3
  · have := (h.2 h3).1; omega
theorem clt_trans {a b c : Cu} (ha : a.may = true) (hb : b.may = true) (hc : c.may = true) (h1 : cmpC a b < 0) (h2 : cmpC b c < 0) : cmpC a c < 0 := cle_lt ha hb hc (by omega) h2
theorem clt_flip {a b : Cu} (h : ¬ cmpC a b ≤ 0) : cmpC b a < 0 := by have := cut_anti (a := a) (b := b); omega
theorem cle_flip {a b : Cu} (h : ¬ cmpC a b < 0) : cmpC b a ≤ 0 := by have := cut_anti (a := a) (b := b); omega
theorem cut_self (a : Cu) : cmpC a a = 0 := by have := cut_anti (a := a) (b := a); omega
theorem clt_not {a b : Cu} (h : cmpC a b < 0) : ¬ cmpC b a ≤ 0 := by have := cut_anti (a := a) (b := b); omega

/-! ### Rows -/
def rowMay : List Sp → Bool
  | [] => true
  | [s] => s.may
  | s :: t :: r => s.may && decide (cmpC s.hi t.lo < 0) && rowMay (t :: r)
def inSp (s : Sp) (c : Cu) : Bool := decide (cmpC s.lo c ≤ 0) && decide (cmpC c s.hi < 0)
def den (l : List Sp) (c : Cu) : Bool := l.any (inSp · c)
def rowHas (l : List Sp) (v : Ver) : Bool := rowMay l && l.any (holdsC · v)
theorem row_head {s : Sp} {l : List Sp} (h : rowMay (s :: l) = true) : s.may = true := by
  cases l with
  | nil => exact h
  | cons t r => unfold rowMay at h; simp only [Bool.and_eq_true] at h; exact h.1.1
theorem row_tail {s : Sp} {l : List Sp} (h : rowMay (s :: l) = true) : rowMay l = true := by
  cases l with
  | nil => rfl
  | cons t r => unfold rowMay at h; simp only [Bool.and_eq_true] at h; exact h.2
theorem row_mem {l : List Sp} (h : rowMay l = true) : ∀ s ∈ l, s.may = true := by
  induction l with
  | nil => simp
  | cons s l ih =>
    intro t ht
    rcases List.mem_cons.1 ht with rfl | ht
    · exact row_head h
    · exact ih (row_tail h) t ht
theorem sp_lt {s : Sp} (h : s.may = true) : cmpC s.lo s.hi < 0 := by unfold Sp.may at h; rw [decide_eq_true_eq] at h; omega
/-- Every later span begins behind the first one's end. -/
theorem row_after {s : Sp} {l : List Sp} (h : rowMay (s :: l) = true) : ∀ t ∈ l, cmpC s.hi t.lo < 0 := by
  induction l generalizing s with
  | nil => simp
  | cons u l ih =>
    intro t ht
    have hu := row_tail h
    have h1 : cmpC s.hi u.lo < 0 := by
      unfold rowMay at h; simp only [Bool.and_eq_true, decide_eq_true_eq] at h; exact h.1.2
    rcases List.mem_cons.1 ht with rfl | ht'
    · exact h1
    · have h2 := ih hu t ht'
      have ms := span_mays (row_head h)
      have mu := span_mays (row_head hu)
      have mt := span_mays (row_mem (row_tail hu) t ht')
      exact clt_trans ms.2 mu.1 mt.1 h1 (clt_trans mu.1 mu.2 mt.1 (sp_lt (row_head hu)) h2)
theorem holds_in {s : Sp} {v : Ver} (hs : s.may = true) (hv : v.may = true) : holdsC s v = inSp s (posC v) := by
  obtain ⟨h1, h2⟩ := span_mays hs
  unfold holdsC inSp
  rw [hs, ahead_pos h1 hv, ahead_pos h2 hv, Bool.true_and]
  congr 1
  have := cut_anti (a := s.hi) (b := posC v)
  by_cases h : cmpC s.hi (posC v) ≤ 0
  · rw [decide_eq_true h, decide_eq_false (by omega)]; rfl
  · rw [decide_eq_false h, decide_eq_true (by omega)]; rfl
theorem has_den {l : List Sp} {v : Ver} (hl : rowMay l = true) (hv : v.may = true) : rowHas l v = den l (posC v) := by
  unfold rowHas den
  rw [hl, Bool.true_and]
  have hm := row_mem hl
  clear hl
  induction l with
  | nil => rfl
  | cons s l ih =>
    rw [List.any_cons, List.any_cons, holds_in (hm s (by simp)) hv, ih (fun t ht => hm t (by simp [ht]))]
theorem den_before {l : List Sp} {c : Cu} (h : ∀ t ∈ l, cmpC c t.lo < 0) : den l c = false := by
  unfold den
  rw [List.any_eq_false]
  intro t ht
  unfold inSp
  have := clt_not (h t ht)
  simp [this]
/-- A valid row is what it holds. -/
theorem row_ext : ∀ (l m : List Sp), rowMay l = true → rowMay m = true → (∀ c : Cu, c.may = true → cmpC c (endC 1) < 0 → den l c = den m c) → l = m := by
  have key : ∀ (s : Sp) (l m : List Sp), rowMay (s :: l) = true → rowMay m = true → (∀ c : Cu, c.may = true → cmpC c (endC 1) < 0 → den (s :: l) c = den m c) → ∃ t r, m = t :: r ∧ cmpC t.lo s.lo ≤ 0 := by
    intro s l m hl hm h
    have ms := span_mays (row_head hl)
    have hd : den (s :: l) s.lo = true := by
      unfold den; rw [List.any_cons]
      have : inSp s s.lo = true := by unfold inSp; rw [cut_self, decide_eq_true (sp_lt (row_head hl))]; rfl
      rw [this]; rfl
    rw [h s.lo ms.1 (clt_le ms.1 ms.2 last_may (sp_lt (row_head hl)) (le_last ms.2))] at hd
    cases m with
    | nil => cases hd
    | cons t r =>
      refine ⟨t, r, rfl, ?_⟩
      rcases Int.lt_or_le 0 (cmpC t.lo s.lo) with h2 | h2
      · exfalso
        have hlt : cmpC s.lo t.lo < 0 := by have := cut_anti (a := t.lo) (b := s.lo); omega
        have mt := span_mays (row_head hm)
        rw [den_before (fun u hu => by
          rcases List.mem_cons.1 hu with rfl | hu
          · exact hlt
          · have mu := span_mays (row_mem (row_tail hm) u hu)
            exact clt_trans ms.1 mt.1 mu.1 hlt (clt_trans mt.1 mt.2 mu.1 (sp_lt (row_head hm)) (row_after hm u hu)))] at hd
        cases hd
      · exact h2
  intro l
  induction l with
  | nil =>
    intro m _ hm h
    cases m with
    | nil => rfl
    | cons t r =>
      obtain ⟨_, _, e, _⟩ := key t r [] hm rfl (fun c h1 h2 => (h c h1 h2).symm)
      cases e
  | cons s l ih =>
    intro m hl hm h
    obtain ⟨t, r, rfl, h1⟩ := key s l m hl hm h
    obtain ⟨_, _, e, h2⟩ := key t r (s :: l) hm hl (fun c a b => (h c a b).symm)
    cases e
    have ms := span_mays (row_head hl)
    have mt := span_mays (row_head hm)
    have elo : s.lo = t.lo := (cut_eq ms.1 mt.1).1 (by have := cut_anti (a := s.lo) (b := t.lo); omega)
    have part : ∀ (s t : Sp) (l r : List Sp), rowMay (s :: l) = true → rowMay (t :: r) = true → (∀ c : Cu, c.may = true → cmpC c (endC 1) < 0 → den (s :: l) c = den (t :: r) c) → s.lo = t.lo → ¬ cmpC s.hi t.hi < 0 := by
      intro s t l r hl hm h elo hlt
      have ms := span_mays (row_head hl)
      have mt := span_mays (row_head hm)
      have e := h s.hi ms.2 (clt_le ms.2 mt.2 last_may hlt (le_last mt.2))
      have e1 : den (s :: l) s.hi = false := by
        unfold den; rw [List.any_cons]
        have : inSp s s.hi = false := by unfold inSp; rw [cut_self]; simp
        rw [this, Bool.false_or]
        exact den_before (fun u hu => row_after hl u hu)
      have e2 : den (t :: r) s.hi = true := by
        unfold den; rw [List.any_cons]
        have : inSp t s.hi = true := by
          unfold inSp
          have hs := sp_lt (row_head hl)
          rw [← elo, decide_eq_true (by omega), decide_eq_true hlt]; rfl
        rw [this]; rfl
      rw [e1, e2] at e; cases e
    have n1 := part s t l r hl hm h elo
    have n2 := part t s r l hm hl (fun c a b => (h c a b).symm) elo.symm
    have ehi : s.hi = t.hi := (cut_eq ms.2 mt.2).1 (by have := cut_anti (a := s.hi) (b := t.hi); omega)
    have est : s = t := by cases s; cases t; dsimp only at elo ehi; rw [elo, ehi]
    subst est
    rw [ih r (row_tail hl) (row_tail hm) (fun c hc hcl => ?_)]
    by_cases hb : cmpC c s.hi < 0
    · rw [den_before (fun u hu => clt_trans hc ms.2 (span_mays (row_mem (row_tail hl) u hu)).1 hb (row_after hl u hu)), den_before (fun u hu => clt_trans hc ms.2 (span_mays (row_mem (row_tail hm) u hu)).1 hb (row_after hm u hu))]
    · have := h c hc hcl
      unfold den at this ⊢
      rw [List.any_cons, List.any_cons] at this
      have hf : inSp s c = false := by unfold inSp; rw [decide_eq_false hb, Bool.and_false]
      rw [hf, Bool.false_or, Bool.false_or] at this
      exact this

/-! ### A row out of stretches between rising cuts -/
def growL (l : List Sp) (c d : Cu) : List Sp :=
  match l.getLast? with
  | some s => if cmpC s.hi c = 0 then l.dropLast ++ [⟨s.lo, d⟩] else l ++ [⟨c, d⟩]
  | none => [⟨c, d⟩]
def buildL (p : Cu → Cu → Bool) : List Sp → List Cu → List Sp
  | out, c :: d :: r => buildL p (if p c d then growL out c d else out) (d :: r)
  | out, _ => out
theorem row_snoc {l : List Sp} {t : Sp} (hl : rowMay l = true) (ht : t.may = true) (h : ∀ s ∈ l.getLast?, cmpC s.hi t.lo < 0) : rowMay (l ++ [t]) = true := by
  induction l with
  | nil => exact ht
  | cons s l ih =>
    cases l with
    | nil =>
      show rowMay [s, t] = true
      unfold rowMay
      rw [row_head hl, decide_eq_true (h s (by simp)), show rowMay [t] = true from ht]; rfl
    | cons u r =>
      have h2 := ih (row_tail hl) (fun x hx => h x (by simpa using hx))
      show rowMay (s :: u :: (r ++ [t])) = true
      unfold rowMay
      rw [show u :: (r ++ [t]) = (u :: r) ++ [t] from rfl, h2, row_head hl]
      have h3 : cmpC s.hi u.lo < 0 := row_after hl u (by simp)
      rw [decide_eq_true h3]; rfl
theorem row_init {l : List Sp} {s : Sp} (h : rowMay (l ++ [s]) = true) : rowMay l = true ∧ ∀ x ∈ l.getLast?, cmpC x.hi s.lo < 0 := by
  induction l with
  | nil => exact ⟨rfl, by simp⟩
  | cons u l ih =>
    obtain ⟨h1, h2⟩ := ih (row_tail h)
    cases l with
    | nil =>
      refine ⟨row_head h, fun x hx => ?_⟩
      obtain rfl : u = x := by simpa using hx
      exact row_after h s (by simp)
    | cons v r =>
      refine ⟨?_, fun x hx => h2 x (by simpa using hx)⟩
      unfold rowMay
      rw [row_head h, decide_eq_true (row_after h v (by simp)), h1]; rfl
theorem den_app (l m : List Sp) (c : Cu) : den (l ++ m) c = (den l c || den m c) := by unfold den; rw [List.any_append]
theorem last_split {l : List Sp} {s : Sp} (h : l.getLast? = some s) : l = l.dropLast ++ [s] := by
  obtain ⟨l', rfl⟩ := List.getLast?_eq_some_iff.1 h
  simp
/-- One stretch more: valid, its end is the new one's, and it holds the stretch besides. -/
theorem grow_ok {l : List Sp} {c d : Cu} (hl : rowMay l = true) (hc : c.may = true) (hd : d.may = true) (hcd : cmpC c d < 0) (h : ∀ s ∈ l.getLast?, cmpC s.hi c ≤ 0) :
    rowMay (growL l c d) = true ∧ (∀ s ∈ (growL l c d).getLast?, cmpC s.hi d ≤ 0) ∧ ∀ x : Cu, x.may = true → den (growL l c d) x = (den l x || inSp ⟨c, d⟩ x) := by
  have hm : (Sp.mk c d).may = true := by
    unfold Sp.may; rw [decide_eq_true_eq]; rcases cmpC_range c d with e | e | e <;> omega
  unfold growL
  cases hg : l.getLast? with
  | none =>
    have : l = [] := by simpa using hg
    subst this
    refine ⟨hm, fun s hs => ?_, fun x _ => by simp [den]⟩
    obtain rfl : s = ⟨c, d⟩ := by simpa using hs.symm
    rw [cut_self]; omega
  | some s =>
    dsimp only
    have hsl := last_split hg
    have hs : s.may = true := row_mem hl s (List.mem_of_getLast? hg)
    have ms := span_mays hs
    by_cases h0 : cmpC s.hi c = 0
    · rw [if_pos h0]
      have ehc : s.hi = c := (cut_eq ms.2 hc).1 h0
      have hl2 := hl
      rw [hsl] at hl2
      obtain ⟨h1, h2⟩ := row_init hl2
      have hlt : cmpC s.lo d < 0 := clt_trans ms.1 hc hd (ehc ▸ sp_lt hs) hcd
      have hm2 : (Sp.mk s.lo d).may = true := by
        unfold Sp.may; rw [decide_eq_true_eq]; rcases cmpC_range s.lo d with e | e | e <;> omega
      refine ⟨row_snoc h1 hm2 h2, fun t ht => ?_, fun x hx => ?_⟩
      · obtain rfl : t = ⟨s.lo, d⟩ := by simpa using ht.symm
        rw [cut_self]; omega
      · rw [den_app]
        have e : den l x = (den l.dropLast x || den [s] x) := by rw [← den_app, ← hsl]
        rw [e, Bool.or_assoc]
        congr 1
        show (inSp ⟨s.lo, d⟩ x || false) = ((inSp s x || false) || inSp ⟨c, d⟩ x)
        rw [Bool.or_false, Bool.or_false]
        unfold inSp
        rw [ehc]
        dsimp only
        by_cases hxc : cmpC x c < 0
        · rw [decide_eq_true hxc, decide_eq_true (clt_trans hx hc hd hxc hcd), decide_eq_false (clt_not hxc)]
          simp
        · have hcx := cle_flip hxc
          rw [decide_eq_false hxc, decide_eq_true hcx, decide_eq_true (cle_trans ms.1 hc hx (by have := ehc ▸ sp_lt hs; omega) hcx)]
          simp
    · rw [if_neg h0]
      have hlt : cmpC s.hi c < 0 := by have := h s hg; omega
      refine ⟨row_snoc hl hm (fun t ht => by
        rw [hg] at ht
        obtain rfl : s = t := by simpa using ht
        exact hlt), fun t ht => ?_, fun x _ => ?_⟩
      · obtain rfl : t = ⟨c, d⟩ := by simpa using ht.symm
        rw [cut_self]; omega
      · rw [den_app]; congr 1; show (inSp ⟨c, d⟩ x || false) = _; rw [Bool.or_false]
/-- The stretch that a cut stands in. -/
def pick (p : Cu → Cu → Bool) (x : Cu) : List Cu → Bool
  | c :: d :: r => (p c d && inSp ⟨c, d⟩ x) || pick p x (d :: r)
  | _ => false
def Rise : List Cu → Prop
  | c :: d :: r => c.may = true ∧ cmpC c d < 0 ∧ Rise (d :: r)
  | [c] => c.may = true
  | [] => True
theorem build_ok (p : Cu → Cu → Bool) : ∀ (cs : List Cu) (out : List Sp), Rise cs → rowMay out = true → (∀ s ∈ out.getLast?, ∀ c ∈ cs.head?, cmpC s.hi c ≤ 0) →
    rowMay (buildL p out cs) = true ∧ ∀ x : Cu, x.may = true → den (buildL p out cs) x = (den out x || pick p x cs) := by
  intro cs
  induction cs with
  | nil => intro out _ h _; exact ⟨h, fun x _ => by unfold buildL pick; rw [Bool.or_false]⟩
  | cons c r ih =>
    intro out hr ho hlast
    cases r with
    | nil => exact ⟨ho, fun x _ => by unfold buildL pick; rw [Bool.or_false]⟩
    | cons d r =>
      obtain ⟨hc, hcd, hr'⟩ := hr
      have hd : d.may = true := by cases r with
        | nil => exact hr'
        | cons e r => exact hr'.1
      unfold buildL
      by_cases hp : p c d = true
      · rw [if_pos hp]
        obtain ⟨g1, g2, g3⟩ := grow_ok ho hc hd hcd (fun s hs => hlast s hs c (by simp))
        obtain ⟨i1, i2⟩ := ih (growL out c d) hr' g1 (fun s hs e he => by
          obtain rfl : d = e := by simpa using he
          exact g2 s hs)
        refine ⟨i1, fun x hx => ?_⟩
        rw [i2 x hx, g3 x hx]
        conv => rhs; unfold pick
        rw [hp, Bool.true_and, Bool.or_assoc]
      · rw [if_neg hp]
        obtain ⟨i1, i2⟩ := ih out hr' ho (fun s hs e he => by
          obtain rfl : d = e := by simpa using he
          have ms := span_mays (row_mem ho s (List.mem_of_getLast? hs))
          have := cle_lt ms.2 hc hd (hlast s hs c (by simp)) hcd
          omega)
        refine ⟨i1, fun x hx => ?_⟩
        rw [i2 x hx]
        conv => rhs; unfold pick
        rw [show p c d = false from by simpa using hp, Bool.false_and, Bool.false_or]

/-! ### The cuts of spans -/
def putL (c : Cu) : List Cu → List Cu
  | [] => [c]
  | d :: r => if cmpC d c < 0 then d :: putL c r else if cmpC d c = 0 then d :: r else c :: d :: r
def cutsL (l : List Sp) : List Cu := l.foldl (fun out s => putL s.hi (putL s.lo out)) [endC (-1), endC 1]
theorem putL_mem (c : Cu) : ∀ (l : List Cu) (x : Cu), x ∈ putL c l → x = c ∨ x ∈ l := by
  intro l
  induction l with
  | nil => intro x hx; simpa [putL] using hx
  | cons d r ih =>
    intro x hx
    unfold putL at hx
    split at hx
    · rcases List.mem_cons.1 hx with rfl | hx
      · exact .inr (by simp)
      · rcases ih x hx with h | h
        · exact .inl h
        · exact .inr (by simp [h])
    · split at hx
      · exact .inr hx
      · rcases List.mem_cons.1 hx with rfl | hx
        · exact .inl rfl
        · exact .inr hx
theorem putL_old (c : Cu) : ∀ (l : List Cu) (x : Cu), x ∈ l → x ∈ putL c l := by
  intro l
  induction l with
  | nil => intro x hx; cases hx
  | cons d r ih =>
    intro x hx
    unfold putL
    split
    · rcases List.mem_cons.1 hx with rfl | hx
      · simp
      · simp [ih x hx]
    · split
      · exact hx
      · simp only [List.mem_cons] at hx ⊢; exact .inr hx
def AllMay (l : List Cu) : Prop := ∀ x ∈ l, x.may = true
theorem putL_new {c : Cu} (hc : c.may = true) : ∀ (l : List Cu), AllMay l → c ∈ putL c l := by
  intro l
  induction l with
  | nil => intro _; simp [putL]
  | cons d r ih =>
    intro h
    unfold putL
    split
    · exact List.mem_cons_of_mem _ (ih (fun x hx => h x (by simp [hx])))
    · split
      · rename_i h0
        have := (cut_eq (h d (by simp)) hc).1 h0
        simp [this]
      · simp
theorem rise_may : ∀ {l : List Cu}, Rise l → AllMay l
  | [], _ => fun x hx => by cases hx
  | [c], h => fun x hx => by obtain rfl : x = c := by simpa using hx
                             exact h
  | c :: d :: r, h => fun x hx => by
    rcases List.mem_cons.1 hx with rfl | hx
    · exact h.1
    · exact rise_may h.2.2 x hx
theorem rise_cons {c : Cu} {l : List Cu} (hc : c.may = true) (hl : Rise l) (h : ∀ d ∈ l.head?, cmpC c d < 0) : Rise (c :: l) := by
  cases l with
  | nil => exact hc
  | cons d r => exact ⟨hc, h d (by simp), hl⟩
theorem rise_tail {c : Cu} {l : List Cu} (h : Rise (c :: l)) : Rise l := by
  cases l with
  | nil => trivial
  | cons d r => exact h.2.2
theorem rise_head {c : Cu} {l : List Cu} (h : Rise (c :: l)) : c.may = true ∧ ∀ d ∈ l.head?, cmpC c d < 0 := by
  cases l with
  | nil => exact ⟨h, by simp⟩
  | cons d r => exact ⟨h.1, fun e he => by obtain rfl : d = e := by simpa using he
                                           exact h.2.1⟩
theorem putL_head (c : Cu) (d : Cu) (r : List Cu) (h : cmpC d c < 0) : (putL c (d :: r)).head? = some d := by unfold putL; rw [if_pos h]; rfl
theorem putL_rise {c : Cu} (hc : c.may = true) : ∀ (l : List Cu), Rise l → Rise (putL c l) := by
  intro l
  induction l with
  | nil => intro _; exact hc
  | cons d r ih =>
    intro h
    obtain ⟨hd, h1⟩ := rise_head h
    unfold putL
    by_cases hlt : cmpC d c < 0
    · rw [if_pos hlt]
      refine rise_cons hd (ih (rise_tail h)) fun e he => ?_
      cases r with
      | nil =>
        obtain rfl : c = e := by simpa [putL] using he
        exact hlt
      | cons f r =>
        unfold putL at he
        by_cases h2 : cmpC f c < 0
        · rw [if_pos h2] at he
          obtain rfl : f = e := by simpa using he
          exact h1 f (by simp)
        · rw [if_neg h2] at he
          by_cases h3 : cmpC f c = 0
          · rw [if_pos h3] at he
            obtain rfl : f = e := by simpa using he
            exact h1 f (by simp)
          · rw [if_neg h3] at he
            obtain rfl : c = e := by simpa using he
            exact hlt
    · rw [if_neg hlt]
      by_cases h0 : cmpC d c = 0
      · rw [if_pos h0]; exact h
      · rw [if_neg h0]
        refine rise_cons hc h fun e he => ?_
        obtain rfl : d = e := by simpa using he
        exact clt_flip (by have := cut_anti (a := d) (b := c); omega)
/-- Rising cuts from the first to the last one. -/
structure Ends (l : List Cu) : Prop where
  rise : Rise l
  head : l.head? = some (endC (-1))
  last : l.getLast? = some (endC 1)
theorem ends_two : Ends [endC (-1), endC 1] := ⟨⟨first_may, by decide, last_may⟩, rfl, rfl⟩
theorem putL_head_min {c : Cu} (hc : c.may = true) {l : List Cu} (h : l.head? = some (endC (-1))) : (putL c l).head? = some (endC (-1)) := by
  cases l with
  | nil => cases h
  | cons d r =>
    obtain rfl : d = endC (-1) := by simpa using h
    have h1 := first_le hc
    unfold putL
    by_cases h2 : cmpC (endC (-1)) c < 0
    · rw [if_pos h2]; rfl
    · rw [if_neg h2, if_pos (by omega)]; rfl
theorem putL_last_max {c : Cu} (hc : c.may = true) : ∀ {l : List Cu}, l.getLast? = some (endC 1) → (putL c l).getLast? = some (endC 1) := by
  intro l
  induction l with
  | nil => intro h; cases h
  | cons d r ih =>
    intro h
    unfold putL
    cases r with
    | nil =>
      obtain rfl : d = endC 1 := by simpa using h
      have h1 := le_last hc
      have := cut_anti (a := c) (b := endC 1)
      rw [if_neg (by omega)]
      by_cases h0 : cmpC (endC 1) c = 0
      · rw [if_pos h0]; rfl
      · rw [if_neg h0]; rfl
    | cons e r =>
      have h2 : (e :: r).getLast? = some (endC 1) := by rw [List.getLast?_cons_cons] at h; exact h
      by_cases h3 : cmpC d c < 0
      · rw [if_pos h3]
        have := ih h2
        cases hp : putL c (e :: r) with
        | nil => rw [hp] at this; cases this
        | cons f q => rw [hp] at this; rw [List.getLast?_cons_cons]; exact this
      · rw [if_neg h3]
        by_cases h0 : cmpC d c = 0
        · rw [if_pos h0]; exact h
        · rw [if_neg h0, List.getLast?_cons_cons]; exact h
theorem putL_ends {c : Cu} (hc : c.may = true) {l : List Cu} (h : Ends l) : Ends (putL c l) := ⟨putL_rise hc l h.rise, putL_head_min hc h.head, putL_last_max hc h.last⟩
theorem cuts_go : ∀ (l : List Sp) (out : List Cu), (∀ s ∈ l, s.may = true) → Ends out →
    Ends (l.foldl (fun out s => putL s.hi (putL s.lo out)) out) ∧ (∀ x ∈ out, x ∈ l.foldl (fun out s => putL s.hi (putL s.lo out)) out) ∧ ∀ s ∈ l, s.lo ∈ l.foldl (fun out s => putL s.hi (putL s.lo out)) out ∧ s.hi ∈ l.foldl (fun out s => putL s.hi (putL s.lo out)) out := by
  intro l
  induction l with
  | nil => intro out _ h; exact ⟨h, fun x hx => hx, by simp⟩
  | cons s l ih =>
    intro out hm h
    have ms := span_mays (hm s (by simp))
    have e1 := putL_ends ms.1 h
    have e2 := putL_ends ms.2 e1
    obtain ⟨i1, i2, i3⟩ := ih (putL s.hi (putL s.lo out)) (fun t ht => hm t (by simp [ht])) e2
    rw [List.foldl_cons]
    refine ⟨i1, fun x hx => i2 x (putL_old _ _ _ (putL_old _ _ _ hx)), fun t ht => ?_⟩
    rcases List.mem_cons.1 ht with rfl | ht
    · exact ⟨i2 _ (putL_old _ _ _ (putL_new ms.1 out (rise_may h.rise))), i2 _ (putL_new ms.2 _ (rise_may e1.rise))⟩
    · exact i3 t ht
theorem cuts_ends {l : List Sp} (h : ∀ s ∈ l, s.may = true) : Ends (cutsL l) := (cuts_go l _ h ends_two).1
theorem cuts_have {l : List Sp} (h : ∀ s ∈ l, s.may = true) : ∀ s ∈ l, s.lo ∈ cutsL l ∧ s.hi ∈ cutsL l := (cuts_go l _ h ends_two).2.2

/-! ### A stretch lies in a span as its cuts do -/
def inL (l : List Sp) (c d : Cu) : Bool := l.any fun s => decide (cmpC s.lo c ≤ 0) && decide (cmpC d s.hi ≤ 0)
theorem rise_above {c : Cu} : ∀ {l : List Cu}, Rise (c :: l) → ∀ x ∈ l, cmpC c x < 0 := by
  intro l
  induction l generalizing c with
  | nil => intro _ x hx; cases hx
  | cons d r ih =>
    intro h x hx
    have hcd := (rise_head h).2 d (by simp)
    rcases List.mem_cons.1 hx with rfl | hx
    · exact hcd
    · have hr := rise_tail h
      exact clt_trans (rise_head h).1 (rise_head hr).1 (rise_may (rise_tail hr) x hx) hcd (ih hr x hx)
/-- p on the stretches is q on the cuts that stand in them. -/
theorem pick_eq {p : Cu → Cu → Bool} {q : Cu → Bool} : ∀ (cs : List Cu), Rise cs → (∀ c d x, (∃ A B, cs = A ++ c :: d :: B) → x.may = true → cmpC c x ≤ 0 → cmpC x d < 0 → p c d = q x) →
    ∀ x : Cu, x.may = true → (∀ c ∈ cs.head?, cmpC c x ≤ 0) → (∀ d ∈ cs.getLast?, cmpC x d < 0) → cs ≠ [] → pick p x cs = q x := by
  intro cs
  induction cs with
  | nil => intro _ _ x _ _ _ h; exact absurd rfl h
  | cons c r ih =>
    intro hr hp x hx h1 h2 _
    have hc := h1 c (by simp)
    cases r with
    | nil => have := h2 c (by simp); have := cut_anti (a := c) (b := x); omega
    | cons d r =>
      unfold pick
      by_cases hd : cmpC x d < 0
      · have e : inSp ⟨c, d⟩ x = true := by unfold inSp; rw [decide_eq_true hc, decide_eq_true hd]; rfl
        rw [e, Bool.and_true, hp c d x ⟨[], r, rfl⟩ hx hc hd]
        cases hq : q x with
        | true => rfl
        | false =>
          rw [Bool.false_or]
          have low : ∀ (cs : List Cu), Rise cs → (∀ y ∈ cs, cmpC x y < 0) → pick p x cs = false := by
            intro cs
            induction cs with
            | nil => intro _ _; rfl
            | cons c r ih =>
              intro hr hy
              cases r with
              | nil => rfl
              | cons d r =>
                unfold pick
                have : inSp ⟨c, d⟩ x = false := by unfold inSp; rw [decide_eq_false (clt_not (hy c (by simp)))]; rfl
                rw [this, Bool.and_false, Bool.false_or]
                exact ih (rise_tail hr) (fun y hy' => hy y (by simp [hy']))
          refine low _ (rise_tail hr) (fun y hy => ?_)
          rcases List.mem_cons.1 hy with rfl | hy
          · exact hd
          · exact clt_trans hx (rise_head (rise_tail hr)).1 (rise_may (rise_tail (rise_tail hr)) y hy) hd (rise_above (rise_tail hr) y hy)
      · have e : inSp ⟨c, d⟩ x = false := by unfold inSp; rw [decide_eq_false hd, Bool.and_false]
        rw [e, Bool.and_false, Bool.false_or]
        refine ih (rise_tail hr) (fun c' d' x' ⟨A, B, hAB⟩ => hp c' d' x' ⟨c :: A, B, by rw [hAB]; rfl⟩) x hx (fun c' hc' => ?_) (fun d' hd' => h2 d' (by rw [List.getLast?_cons_cons]; exact hd')) (by simp)
        obtain rfl : d = c' := by simpa using hc'
        exact cle_flip hd
/-- No cut of a rising row stands inside one of its stretches. -/
theorem rise_gap {A B : List Cu} {c d : Cu} (h : Rise (A ++ c :: d :: B)) : ∀ y ∈ A ++ c :: d :: B, cmpC y c ≤ 0 ∨ cmpC d y ≤ 0 := by
  induction A with
  | nil =>
    intro y hy
    rcases List.mem_cons.1 hy with rfl | hy
    · exact .inl (by rw [cut_self]; omega)
    · rcases List.mem_cons.1 hy with rfl | hy
      · exact .inr (by rw [cut_self]; omega)
      · exact .inr (by have := rise_above (rise_tail h) y hy; omega)
  | cons a A ih =>
    intro y hy
    rcases List.mem_cons.1 hy with rfl | hy
    · exact .inl (by have := rise_above h c (by simp); omega)
    · exact ih (rise_tail h) y hy
theorem in_den {l : List Sp} (hl : ∀ s ∈ l, s.may = true) {cs : List Cu} (hr : Rise cs) (hcs : ∀ s ∈ l, s.lo ∈ cs ∧ s.hi ∈ cs) {A B : List Cu} {c d x : Cu} (e : cs = A ++ c :: d :: B) (hx : x.may = true) (h1 : cmpC c x ≤ 0) (h2 : cmpC x d < 0) : inL l c d = den l x := by
  have hm := rise_may hr
  have mc := hm c (by rw [e]; simp)
  have md := hm d (by rw [e]; simp)
  have gap : ∀ y ∈ cs, cmpC y c ≤ 0 ∨ cmpC d y ≤ 0 := by rw [e] at hr ⊢; exact rise_gap hr
  unfold inL den
  have key : ∀ s ∈ l, (decide (cmpC s.lo c ≤ 0) && decide (cmpC d s.hi ≤ 0)) = inSp s x := by
    intro s hs
    obtain ⟨g1, g2⟩ := hcs s hs
    have ms := span_mays (hl s hs)
    unfold inSp
    have a1 : (cmpC s.lo c ≤ 0) ↔ (cmpC s.lo x ≤ 0) := by
      constructor
      · intro h; exact cle_trans ms.1 mc hx h h1
      · intro h
        rcases gap s.lo g1 with g | g
        · exact g
        · have := cle_lt ms.1 hx md h h2
          have := cut_anti (a := s.lo) (b := d); omega
    have a2 : (cmpC d s.hi ≤ 0) ↔ (cmpC x s.hi < 0) := by
      constructor
      · intro h; exact clt_le hx md ms.2 h2 h
      · intro h
        rcases gap s.hi g2 with g | g
        · have := cle_lt mc hx ms.2 h1 h
          have := cut_anti (a := s.hi) (b := c); omega
        · exact g
    rw [decide_eq_decide.2 a1, decide_eq_decide.2 a2]
  clear hcs gap hl
  induction l with
  | nil => rfl
  | cons s l ih =>
    rw [List.any_cons, List.any_cons, key s (by simp), ih (fun t ht => key t (by simp [ht]))]

/-! ### What the document's own answer makes -/
def makeL (l : List Sp) : List Sp := buildL (inL l) [] (cutsL l)
def orL (a b : List Sp) : List Sp := makeL (a ++ b)
def andL (a b : List Sp) : List Sp := buildL (fun c d => inL a c d && inL b c d) [] (cutsL (a ++ b))
def notL (a : List Sp) : List Sp := buildL (fun c d => !inL a c d) [] (cutsL a)
theorem build_den {p : Cu → Cu → Bool} {q : Cu → Bool} {cs : List Cu} (h : Ends cs) (hp : ∀ c d x, (∃ A B, cs = A ++ c :: d :: B) → x.may = true → cmpC c x ≤ 0 → cmpC x d < 0 → p c d = q x) :
    rowMay (buildL p [] cs) = true ∧ ∀ x : Cu, x.may = true → cmpC x (endC 1) < 0 → den (buildL p [] cs) x = q x := by
  obtain ⟨h1, h2⟩ := build_ok p cs [] h.rise rfl (by simp)
  refine ⟨h1, fun x hx hl => ?_⟩
  rw [h2 x hx]
  show (false || pick p x cs) = q x
  rw [Bool.false_or]
  refine pick_eq cs h.rise hp x hx (fun c hc => ?_) (fun d hd => ?_) (fun e => by rw [e] at h; cases h.head)
  · rw [h.head] at hc; obtain rfl : endC (-1) = c := by simpa using hc
    exact first_le hx
  · rw [h.last] at hd; obtain rfl : endC 1 = d := by simpa using hd
    exact hl
theorem make_ok {l : List Sp} (hl : ∀ s ∈ l, s.may = true) : rowMay (makeL l) = true ∧ ∀ x : Cu, x.may = true → cmpC x (endC 1) < 0 → den (makeL l) x = den l x :=
  build_den (cuts_ends hl) fun c d x ⟨A, B, e⟩ hx h1 h2 => in_den hl (cuts_ends hl).rise (cuts_have hl) e hx h1 h2
theorem both_may {a b : List Sp} (ha : rowMay a = true) (hb : rowMay b = true) : ∀ s ∈ a ++ b, s.may = true := fun s hs => by
  rcases List.mem_append.1 hs with h | h
  · exact row_mem ha s h
  · exact row_mem hb s h
theorem or_ok {a b : List Sp} (ha : rowMay a = true) (hb : rowMay b = true) : rowMay (orL a b) = true ∧ ∀ x : Cu, x.may = true → cmpC x (endC 1) < 0 → den (orL a b) x = (den a x || den b x) := by
  obtain ⟨h1, h2⟩ := make_ok (both_may ha hb)
  exact ⟨h1, fun x hx hl => by rw [← den_app]; exact h2 x hx hl⟩
theorem and_ok {a b : List Sp} (ha : rowMay a = true) (hb : rowMay b = true) : rowMay (andL a b) = true ∧ ∀ x : Cu, x.may = true → cmpC x (endC 1) < 0 → den (andL a b) x = (den a x && den b x) := by
  have hm := both_may ha hb
  have hc := cuts_have hm
  refine build_den (cuts_ends hm) fun c d x ⟨A, B, e⟩ hx h1 h2 => ?_
  rw [in_den (row_mem ha) (cuts_ends hm).rise (fun s hs => hc s (by simp [hs])) e hx h1 h2, in_den (row_mem hb) (cuts_ends hm).rise (fun s hs => hc s (by simp [hs])) e hx h1 h2]
theorem not_ok {a : List Sp} (ha : rowMay a = true) : rowMay (notL a) = true ∧ ∀ x : Cu, x.may = true → cmpC x (endC 1) < 0 → den (notL a) x = !den a x := by
  have hm := row_mem ha
  refine build_den (cuts_ends hm) fun c d x ⟨A, B, e⟩ hx h1 h2 => ?_
  rw [in_den hm (cuts_ends hm).rise (cuts_have hm) e hx h1 h2]
theorem make_self {l : List Sp} (h : rowMay l = true) : makeL l = l := row_ext _ _ (make_ok (row_mem h)).1 h (make_ok (row_mem h)).2
end Go.Proofs.YtmlecnomdamgnaaGreat
end

section
/-
  linchpinref4: in, ..: what they return; nothing that was there is changed.
-/
namespace Go.Proofs.YtmlecnomdamgnaaGreat
open Go.RowKit
set_option maxRecDepth 100000
set_option linter.unusedVariables false
set_option linter.unusedSimpArgs false
set_option maxHeartbeats 2000000

def spanC (s : Sp) : List Value := (spanV s).cells.toList
theorem spanC_len (s : Sp) : (spanC s).length = 14 := rfl
def ShortL (l : List Sp) : Prop := ∀ s ∈ l, s.short
theorem inL_drop (l : List Sp) (c d : Cu) (k : Nat) (hk : k < l.length) : inL (l.drop k) c d = ((decide (cmpC l[k].lo c ≤ 0) && decide (cmpC d l[k].hi ≤ 0)) || inL (l.drop (k + 1)) c d) := by
  rw [List.drop_eq_getElem_cons hk]; unfold inL; rw [List.any_cons]

theorem in_any (A : Option Addr) (cap : Nat) (l : List Sp) (c d : Cu) (W : World) (hv : Reads spanC W W.heap.size A l) (hn : l.length ≤ 1000000) (hl : ShortL l) (hc : c.short) (hd : d.short) :
    Calls Tryz.prog 30 #[.slice A l.length cap, cutV c, cutV d] W fun e w' => e = .returned (.bool (inL l c d)) ∧ Below W.heap.size W w' := by
  refine calls_ok (n := 32) Tryz.func30 rfl (by kernel_rfl) (by kernel_rfl) ?_
  refine ok_seq ?_
  refine ok_region ?_
  refine s_box (cutV c) (by kernel_rfl) rfl (by kernel_rfl) (fun b1 => ?_)
  refine s_box (cutV d) (by kernel_rfl) rfl (by kernel_rfl) (fun b2 => ?_)
  refine s_val (.bool false) (by kernel_rfl) (fun _ => by kernel_rfl) ?_
  refine s_nil ?_
  refine fin_seq ?_
  refine ok_seq ?_
  refine ok_seq ?_
  refine ok_region ?_
  refine s_val (.int .i64 0) (by kernel_rfl) (fun _ => by kernel_rfl) ?_
  refine s_nil ?_
  refine fin_seq ?_
  refine ok_block ?_
  refine ok_loop (fun L f m => ∃ (k : Nat) (j : Nat → Value), (k ≤ l.length ∧ inL l c d = inL (l.drop k) c d) ∧ L = [⟨b2, (cutV d).cells, 41⟩, ⟨b1, (cutV c).cells, 41⟩] ∧ f = upds j [(0, .slice A l.length cap), (4, .pointer (some ⟨b1, 0, none⟩)), (5, .pointer (some ⟨b2, 0, none⟩)), (7, .int .i64 (k : Int))] ∧ m = l.length - k) (l.length - 0) ⟨0, _, ⟨Nat.zero_le _, by rw [List.drop_zero]⟩, rfl, upds_self _ ⟨by kernel_rfl, by kernel_rfl, by kernel_rfl, by kernel_rfl, trivial⟩, rfl⟩ ?_
  rintro L f m ⟨k, j, hrel, rfl, rfl, rfl⟩
  have hkl := hrel.1
  refine ok_seq ?_
  refine ok_seq ?_
  refine ok_region ?_
  refine s_val (.int .i64 (k : Int)) (by kernel_rfl) (fun _ => by kernel_rfl) ?_
  refine s_val (.slice A l.length cap) (by kernel_rfl) (fun _ => by kernel_rfl) ?_
  refine s_val (.int .i64 (l.length : Int)) (by kernel_rfl) (fun _ => by kernel_rfl) ?_
  by_cases h1 : (k : Int) < (l.length : Int)
  · skip
    have hk : k < l.length := by omega
    obtain ⟨b, off, hA, hlt, hcell⟩ := hv (by omega)
    obtain ⟨s, hs⟩ : ∃ s, l[k] = s := ⟨_, rfl⟩
    have hsk : s.short := hs ▸ hl l[k] (List.getElem_mem hk)
    refine s_dec (p := (k : Int) < (l.length : Int)) true (by kernel_rfl) (fun _ => by kernel_rfl) (decide_eq_true (h1)) ?_
    refine s_nil ?_
    refine fin_seq ?_
    refine ok_true (by kernel_rfl) ?_
    refine ok_skip ?_
    refine fin_seq ?_
    refine ok_seq ?_
    refine ok_block ?_
    refine ok_seq ?_
    refine ok_draw (by kernel_rfl) (by kernel_rfl) ?_
    refine q_val (.slice A l.length cap) (by kernel_rfl) (fun _ => by kernel_rfl) ?_
    refine q_val (.int .i64 (k : Int)) (by kernel_rfl) (fun _ => by kernel_rfl) ?_
    refine q_val (.pointer (some ⟨b, off + k * 14, none⟩)) (by kernel_rfl) (run_ixA (b := b) (off := off) (c := cap) (n := l.length) (k := .i64) (j := (k : Int)) (e := 43) (sz := 14) rfl (by kernel_rfl) hA (by kernel_rfl) (by kernel_rfl) (by kernel_rfl) (by omega) (by omega) (by omega)) ?_
    refine q_val (.pointer (some ⟨b, off + k * 14 + 0, none⟩)) (by kernel_rfl) (fun _ => by kernel_rfl) ?_
    refine q_old (cutV s.lo) (a := ⟨b, off + k * 14 + 0, none⟩) (by kernel_rfl) rfl (by kernel_rfl) (fun w hO => elem_load spanC_len (fun j u h => (hO.below.cell (p := ⟨b, off + j, none⟩) hlt).trans (hcell j u h)) k 0 hk (by omega) _ (by rw [hs]; kernel_rfl)) ?_
    refine q_load 1 ⟨b1, (cutV c).cells, 41⟩ (off := 0) (cutV c) (by kernel_rfl) rfl (by kernel_rfl) (by kernel_rfl) (by kernel_rfl) ?_
    refine q_call (k := 44) (args := #[cutV s.lo, cutV c]) (.int .i64 (cmpC s.lo c)) (by kernel_rfl) (fun _ => by kernel_rfl) (fun w _ => rcmpC_any s.lo c w hsk.1 hc) ?_
    by_cases h2 : (cmpC s.lo c : Int) ≤ 0
    · skip
      refine q_dec (p := (cmpC s.lo c : Int) ≤ 0) true (by kernel_rfl) (fun _ => by kernel_rfl) (decide_eq_true (h2)) ?_
      refine q_val (.bool true) (by kernel_rfl) (fun _ => by kernel_rfl) ?_
      refine q_load 0 ⟨b2, (cutV d).cells, 41⟩ (off := 0) (cutV d) (by kernel_rfl) rfl (by kernel_rfl) (by kernel_rfl) (by kernel_rfl) ?_
      refine q_val (.slice A l.length cap) (by kernel_rfl) (fun _ => by kernel_rfl) ?_
      refine q_val (.int .i64 (k : Int)) (by kernel_rfl) (fun _ => by kernel_rfl) ?_
      refine q_val (.pointer (some ⟨b, off + k * 14, none⟩)) (by kernel_rfl) (run_ixA (b := b) (off := off) (c := cap) (n := l.length) (k := .i64) (j := (k : Int)) (e := 43) (sz := 14) rfl (by kernel_rfl) hA (by kernel_rfl) (by kernel_rfl) (by kernel_rfl) (by omega) (by omega) (by omega)) ?_
      refine q_val (.pointer (some ⟨b, off + k * 14 + 7, none⟩)) (by kernel_rfl) (fun _ => by kernel_rfl) ?_
      refine q_old (cutV s.hi) (a := ⟨b, off + k * 14 + 7, none⟩) (by kernel_rfl) rfl (by kernel_rfl) (fun w hO => elem_load spanC_len (fun j u h => (hO.below.cell (p := ⟨b, off + j, none⟩) hlt).trans (hcell j u h)) k 7 hk (by omega) _ (by rw [hs]; kernel_rfl)) ?_
      refine q_call (k := 44) (args := #[cutV d, cutV s.hi]) (.int .i64 (cmpC d s.hi)) (by kernel_rfl) (fun _ => by kernel_rfl) (fun w _ => rcmpC_any d s.hi w hd hsk.2) ?_
      by_cases h3 : (cmpC d s.hi : Int) ≤ 0
      · skip
        refine q_dec (p := (cmpC d s.hi : Int) ≤ 0) true (by kernel_rfl) (fun _ => by kernel_rfl) (decide_eq_true (h3)) ?_
        refine q_val (.bool true) (by kernel_rfl) (fun _ => by kernel_rfl) ?_
        refine q_nil ?_
        refine fin_seq ?_
        refine ok_true (by kernel_rfl) ?_
        refine ok_seq ?_
        refine ok_region ?_
        refine s_val (.bool true) (by kernel_rfl) (fun _ => by kernel_rfl) ?_
        refine s_nil ?_
        refine fin_seq ?_
        refine ok_ret ?_
        refine fin_block_ret ?_
        refine fin_seq_ret ?_
        refine fin_round_ret ?_
        refine fin_block_ret ?_
        refine fin_seq_ret ?_
        refine fin_ret (.bool true) Tryz.results30 (by kernel_rfl) ?_
        exact fun w hO => ⟨by rw [hrel.2, inL_drop l c d k hk, hs]; simp [h2, h3], hO.below⟩
      · skip
        refine q_dec (p := (cmpC d s.hi : Int) ≤ 0) false (by kernel_rfl) (fun _ => by kernel_rfl) (decide_eq_false (h3)) ?_
        refine q_val (.bool false) (by kernel_rfl) (fun _ => by kernel_rfl) ?_
        refine q_nil ?_
        refine fin_seq ?_
        refine ok_false (by kernel_rfl) ?_
        refine ok_skip ?_
        refine fin_block ?_
        refine fin_seq ?_
        refine ok_region ?_
        refine s_val (.int .i64 (k : Int)) (by kernel_rfl) (fun _ => by kernel_rfl) ?_
        refine s_sum (k := .i64) (((k + 1 : Nat) : Int)) (by kernel_rfl) (fun _ => by kernel_rfl) (IntWalk.i64_in _ (by omega)) ?_
        refine s_val (.int .i64 ((k + 1 : Nat) : Int)) (by kernel_rfl) (fun _ => by kernel_rfl) ?_
        refine s_nil ?_
        have hnext : inL l c d = inL (l.drop (k + 1)) c d := by rw [hrel.2, inL_drop l c d k hk, hs]; simp [h2, h3]
        exact fin_round (m' := l.length - (k + 1)) (by omega) ⟨k + 1, _, ⟨by omega, hnext⟩, rfl, upds_self _ ⟨by kernel_rfl, by kernel_rfl, by kernel_rfl, by kernel_rfl, trivial⟩, rfl⟩
    · skip
      refine q_dec (p := (cmpC s.lo c : Int) ≤ 0) false (by kernel_rfl) (fun _ => by kernel_rfl) (decide_eq_false (h2)) ?_
      refine q_val (.bool false) (by kernel_rfl) (fun _ => by kernel_rfl) ?_
      refine q_skip (by kernel_rfl) ?_
      refine q_skip (by kernel_rfl) ?_
      refine q_skip (by kernel_rfl) ?_
      refine q_skip (by kernel_rfl) ?_
      refine q_skip (by kernel_rfl) ?_
      refine q_skip (by kernel_rfl) ?_
      refine q_skip (by kernel_rfl) ?_
      refine q_skip (by kernel_rfl) ?_
      refine q_val (.bool false) (by kernel_rfl) (fun _ => by kernel_rfl) ?_
      refine q_nil ?_
      refine fin_seq ?_
      refine ok_false (by kernel_rfl) ?_
      refine ok_skip ?_
      refine fin_block ?_
      refine fin_seq ?_
      refine ok_region ?_
      refine s_val (.int .i64 (k : Int)) (by kernel_rfl) (fun _ => by kernel_rfl) ?_
      refine s_sum (k := .i64) (((k + 1 : Nat) : Int)) (by kernel_rfl) (fun _ => by kernel_rfl) (IntWalk.i64_in _ (by omega)) ?_
      refine s_val (.int .i64 ((k + 1 : Nat) : Int)) (by kernel_rfl) (fun _ => by kernel_rfl) ?_
      refine s_nil ?_
      have hnext : inL l c d = inL (l.drop (k + 1)) c d := by rw [hrel.2, inL_drop l c d k hk, hs]; simp [h2]
      exact fin_round (m' := l.length - (k + 1)) (by omega) ⟨k + 1, _, ⟨by omega, hnext⟩, rfl, upds_self _ ⟨by kernel_rfl, by kernel_rfl, by kernel_rfl, by kernel_rfl, trivial⟩, rfl⟩
  · skip
    refine s_dec (p := (k : Int) < (l.length : Int)) false (by kernel_rfl) (fun _ => by kernel_rfl) (decide_eq_false (h1)) ?_
    refine s_nil ?_
    refine fin_seq ?_
    refine ok_false (by kernel_rfl) ?_
    refine ok_exit ?_
    refine fin_seq_exit ?_
    refine fin_round_exit ?_
    refine fin_block_exit ?_
    refine fin_seq ?_
    refine ok_seq ?_
    refine ok_region ?_
    refine s_val (.bool false) (by kernel_rfl) (fun _ => by kernel_rfl) ?_
    refine s_nil ?_
    refine fin_seq ?_
    refine ok_ret ?_
    refine fin_ret (.bool false) Tryz.results30 (by kernel_rfl) ?_
    exact fun w hO => ⟨by rw [hrel.2, List.drop_of_length_le (by omega)]; rfl, hO.below⟩
end Go.Proofs.YtmlecnomdamgnaaGreat
end

section
/-
  linchpinref4.Same: two rows, span by span; nothing that was there is changed.
-/
namespace Go.Proofs.YtmlecnomdamgnaaGreat
open Go.RowKit
set_option maxRecDepth 100000
set_option linter.unusedVariables false
set_option linter.unusedSimpArgs false
set_option maxHeartbeats 2000000

deriving instance DecidableEq for Sp
theorem all2 (a b : Bool) : ([a, b].all id) = (a && b) := by simp
theorem sp_dec (u v : Sp) : decide (u = v) = (decide (u.lo = v.lo) && decide (u.hi = v.hi)) := by
  obtain ⟨a, b⟩ := u
  obtain ⟨a', b'⟩ := v
  simp only [Sp.mk.injEq, Bool.decide_and]
theorem eq_span (u v : Sp) (d : Nat) (w : World) : (Op.equalIn (d + 1 + 1 + 1 + 1) 43 (spanV u) (spanV v)).run Tryz.prog w = .ok (decide (u = v)) w := by
  have h := eq_agg (P := Tryz.prog) (d := d + 1 + 1 + 1) (t := 43) (xs := (spanV u).cells) (ys := (spanV v).cells) (bs := [decide (u.lo = v.lo), decide (u.hi = v.hi)]) Tryz.underlying43 (by kernel_rfl)
    ⟨by decide, ⟨cutV u.lo, cutV v.lo, fun w => ⟨by kernel_rfl, by kernel_rfl, eq_cut u.lo v.lo d w⟩⟩,
     by decide, ⟨cutV u.hi, cutV v.hi, fun w => ⟨by kernel_rfl, by kernel_rfl, eq_cut u.hi v.hi d w⟩⟩, trivial⟩ w
  rw [all2, ← sp_dec] at h
  exact h
theorem guard_span : Tryz.prog.eqGuardType Tryz.prog.depth 43 = false := by kernel_rfl
theorem binOp_agg_neq {P : Program} {t : TypeId} {xs ys : Array Value} {b : Bool} (w : World) (h : (Op.equalIn 10000 t (.agg xs) (.agg ys)).run P w = .ok b w) : (binOp .neq t (.agg xs) (.agg ys)).run P w = .ok (.bool (!b)) w := by
  have e : binOp .neq t (.agg xs) (.agg ys) = (do let r ← Op.equalIn 10000 t (.agg xs) (.agg ys); pure (.bool (!r))) := by first | rfl | simp [binOp]
  rw [e]
  simp only [Sem.run_bind, h, Result.andThen_ok, Sem.run_pure]
theorem run_ne_op {P : Program} {ρ : Operand → Value} {o : Oper} {t t' : TypeId} {x y : Operand} {xs ys : Array Value} {b : Bool} (ho : o.op = .binOp .neq t x y t') (hx : ρ x = .agg xs) (hy : ρ y = .agg ys) (hm : P.eqGuardType P.depth t = false)
    (h : ∀ w, (Op.equalIn 10000 t (.agg xs) (.agg ys)).run P w = .ok b w) (w : World) : (execOp ρ o).run P w = .ok (.value (.bool (!b))) w := by
  have h1 := run_eqGuard_agg (P := P) w .neq t x y xs ys hm
  have h2 := binOp_agg_neq w (h w)
  unfold execOp
  simp only [ho, hx, hy, Sem.run_bind, h1, Result.andThen_ok, h2, Sem.run_pure]
theorem op_ne_span {ρ : Operand → Value} {o : Oper} {t' : TypeId} {x y : Operand} {u v : Sp} {b : Bool} (ho : o.op = .binOp .neq 43 x y t') (hx : ρ x = spanV u) (hy : ρ y = spanV v) (hb : decide (u = v) = b) (w : World) : (execOp ρ o).run Tryz.prog w = .ok (.value (.bool (!b))) w :=
  run_ne_op ho hx hy guard_span (fun w => by rw [← hb]; exact eq_span u v 9996 w) w
theorem same_step {a b : List Sp} {k : Nat} (ha : k < a.length) (hb : k < b.length) (h : a.take k = b.take k) (e : a[k] = b[k]) : a.take (k + 1) = b.take (k + 1) := by
  rw [List.take_succ_eq_append_getElem ha, List.take_succ_eq_append_getElem hb, h, e]

theorem rsame_any (A B : Option Addr) (cap capb : Nat) (a b : List Sp) (W : World) (hv : Reads spanC W W.heap.size A a) (hu : Reads spanC W W.heap.size B b) (hn : a.length ≤ 1000000) (hm : b.length ≤ 1000000) :
    Calls Tryz.prog 14 #[.slice A a.length cap, .slice B b.length capb] W fun e w' => e = .returned (.bool (decide (a = b))) ∧ Below W.heap.size W w' := by
  refine calls_ok (n := 26) Tryz.func14 rfl (by kernel_rfl) (by kernel_rfl) ?_
  refine ok_seq ?_
  refine ok_region ?_
  refine s_val (.bool false) (by kernel_rfl) (fun _ => by kernel_rfl) ?_
  refine s_nil ?_
  refine fin_seq ?_
  refine ok_seq ?_
  refine ok_seq ?_
  refine ok_region ?_
  refine s_val (.slice A a.length cap) (by kernel_rfl) (fun _ => by kernel_rfl) ?_
  refine s_val (.int .i64 (a.length : Int)) (by kernel_rfl) (fun _ => by kernel_rfl) ?_
  refine s_val (.slice B b.length capb) (by kernel_rfl) (fun _ => by kernel_rfl) ?_
  refine s_val (.int .i64 (b.length : Int)) (by kernel_rfl) (fun _ => by kernel_rfl) ?_
  by_cases h1 : (a.length : Int) = (b.length : Int)
  · skip
    refine s_ndec (p := (a.length : Int) = (b.length : Int)) true (by kernel_rfl) (fun _ => by kernel_rfl) (decide_eq_true (h1)) ?_
    refine s_nil ?_
    refine fin_seq ?_
    refine ok_false (by kernel_rfl) ?_
    refine ok_skip ?_
    refine fin_seq ?_
    refine ok_seq ?_
    refine ok_seq ?_
    refine ok_region ?_
    refine s_val (.int .i64 0) (by kernel_rfl) (fun _ => by kernel_rfl) ?_
    refine s_nil ?_
    refine fin_seq ?_
    refine ok_block ?_
    refine ok_loop (fun L f m => ∃ (k : Nat) (j : Nat → Value), (k ≤ a.length ∧ a.take k = b.take k) ∧ L = [] ∧ f = upds j [(0, .slice A a.length cap), (1, .slice B b.length capb), (5, .int .i64 (k : Int))] ∧ m = a.length - k) (a.length - 0) ⟨0, _, ⟨Nat.zero_le _, by rw [List.take_zero, List.take_zero]⟩, rfl, upds_self _ ⟨by kernel_rfl, by kernel_rfl, by kernel_rfl, trivial⟩, rfl⟩ ?_
    rintro L f m ⟨k, j, hrel, rfl, rfl, rfl⟩
    have hkl := hrel.1
    refine ok_seq ?_
    refine ok_seq ?_
    refine ok_region ?_
    refine s_val (.int .i64 (k : Int)) (by kernel_rfl) (fun _ => by kernel_rfl) ?_
    refine s_val (.slice A a.length cap) (by kernel_rfl) (fun _ => by kernel_rfl) ?_
    refine s_val (.int .i64 (a.length : Int)) (by kernel_rfl) (fun _ => by kernel_rfl) ?_
    by_cases h2 : (k : Int) < (a.length : Int)
    · skip
      have hk : k < a.length := by omega
      have hkb : k < b.length := by omega
      obtain ⟨g, off, hA, hlt, hcell⟩ := hv (by omega)
      obtain ⟨gb, ofh, hB, hlu, hcelu⟩ := hu (by omega)
      obtain ⟨s, hs⟩ : ∃ s, a[k] = s := ⟨_, rfl⟩
      obtain ⟨t, ht⟩ : ∃ t, b[k] = t := ⟨_, rfl⟩
      refine s_dec (p := (k : Int) < (a.length : Int)) true (by kernel_rfl) (fun _ => by kernel_rfl) (decide_eq_true (h2)) ?_
      refine s_nil ?_
      refine fin_seq ?_
      refine ok_true (by kernel_rfl) ?_
      refine ok_skip ?_
      refine fin_seq ?_
      refine ok_seq ?_
      refine ok_block ?_
      refine ok_seq ?_
      refine ok_draw (by kernel_rfl) (by kernel_rfl) ?_
      refine q_val (.slice A a.length cap) (by kernel_rfl) (fun _ => by kernel_rfl) ?_
      refine q_val (.int .i64 (k : Int)) (by kernel_rfl) (fun _ => by kernel_rfl) ?_
      refine q_val (.pointer (some ⟨g, off + k * 14, none⟩)) (by kernel_rfl) (run_ixA (b := g) (off := off) (c := cap) (n := a.length) (k := .i64) (j := (k : Int)) (e := 43) (sz := 14) rfl (by kernel_rfl) hA (by kernel_rfl) (by kernel_rfl) (by kernel_rfl) (by omega) (by omega) (by omega)) ?_
      refine q_old (spanV s) (a := ⟨g, off + k * 14, none⟩) (by kernel_rfl) rfl (by kernel_rfl) (fun w hO => elem_load spanC_len (fun j u h => (hO.below.cell (p := ⟨g, off + j, none⟩) hlt).trans (hcell j u h)) k 0 hk (by omega) _ (by rw [hs]; kernel_rfl)) ?_
      refine q_val (.slice B b.length capb) (by kernel_rfl) (fun _ => by kernel_rfl) ?_
      refine q_val (.int .i64 (k : Int)) (by kernel_rfl) (fun _ => by kernel_rfl) ?_
      refine q_val (.pointer (some ⟨gb, ofh + k * 14, none⟩)) (by kernel_rfl) (run_ixA (b := gb) (off := ofh) (c := capb) (n := b.length) (k := .i64) (j := (k : Int)) (e := 43) (sz := 14) rfl (by kernel_rfl) hB (by kernel_rfl) (by kernel_rfl) (by kernel_rfl) (by omega) (by omega) (by omega)) ?_
      refine q_old (spanV t) (a := ⟨gb, ofh + k * 14, none⟩) (by kernel_rfl) rfl (by kernel_rfl) (fun w hO => elem_load spanC_len (fun j u h => (hO.below.cell (p := ⟨gb, ofh + j, none⟩) hlu).trans (hcelu j u h)) k 0 hkb (by omega) _ (by rw [ht]; kernel_rfl)) ?_
      by_cases h3 : s = t
      · skip
        refine q_val (.bool false) (by kernel_rfl) (op_ne_span rfl (by kernel_rfl) (by kernel_rfl) (decide_eq_true (h3))) ?_
        refine q_nil ?_
        refine fin_seq ?_
        refine ok_false (by kernel_rfl) ?_
        refine ok_skip ?_
        refine fin_block ?_
        refine fin_seq ?_
        refine ok_region ?_
        refine s_val (.int .i64 (k : Int)) (by kernel_rfl) (fun _ => by kernel_rfl) ?_
        refine s_sum (k := .i64) (((k + 1 : Nat) : Int)) (by kernel_rfl) (fun _ => by kernel_rfl) (IntWalk.i64_in _ (by omega)) ?_
        refine s_val (.int .i64 ((k + 1 : Nat) : Int)) (by kernel_rfl) (fun _ => by kernel_rfl) ?_
        refine s_nil ?_
        have hnext : a.take (k + 1) = b.take (k + 1) := same_step hk hkb hrel.2 (by rw [hs, ht]; assumption)
        exact fin_round (m' := a.length - (k + 1)) (by omega) ⟨k + 1, _, ⟨by omega, hnext⟩, rfl, upds_self _ ⟨by kernel_rfl, by kernel_rfl, by kernel_rfl, trivial⟩, rfl⟩
      · skip
        refine q_val (.bool true) (by kernel_rfl) (op_ne_span rfl (by kernel_rfl) (by kernel_rfl) (decide_eq_false (h3))) ?_
        refine q_nil ?_
        refine fin_seq ?_
        refine ok_true (by kernel_rfl) ?_
        refine ok_seq ?_
        refine ok_region ?_
        refine s_val (.bool false) (by kernel_rfl) (fun _ => by kernel_rfl) ?_
        refine s_nil ?_
        refine fin_seq ?_
        refine ok_ret ?_
        refine fin_block_ret ?_
        refine fin_seq_ret ?_
        refine fin_round_ret ?_
        refine fin_block_ret ?_
        refine fin_seq_ret ?_
        refine fin_ret (.bool false) Tryz.results14 (by kernel_rfl) ?_
        exact fun w hO => ⟨by rw [decide_eq_false (show ¬ a = b from fun e => by subst e; first | omega | exact absurd (hs.symm.trans ht) (by assumption))], hO.below⟩
    · skip
      refine s_dec (p := (k : Int) < (a.length : Int)) false (by kernel_rfl) (fun _ => by kernel_rfl) (decide_eq_false (h2)) ?_
      refine s_nil ?_
      refine fin_seq ?_
      refine ok_false (by kernel_rfl) ?_
      refine ok_exit ?_
      refine fin_seq_exit ?_
      refine fin_round_exit ?_
      refine fin_block_exit ?_
      refine fin_seq ?_
      refine ok_seq ?_
      refine ok_region ?_
      refine s_val (.bool true) (by kernel_rfl) (fun _ => by kernel_rfl) ?_
      refine s_nil ?_
      refine fin_seq ?_
      refine ok_ret ?_
      refine fin_ret (.bool true) Tryz.results14 (by kernel_rfl) ?_
      exact fun w hO => ⟨by rw [decide_eq_true (show a = b from by have h := hrel.2; rwa [List.take_of_length_le (by omega), List.take_of_length_le (by omega)] at h)], hO.below⟩
  · skip
    refine s_ndec (p := (a.length : Int) = (b.length : Int)) false (by kernel_rfl) (fun _ => by kernel_rfl) (decide_eq_false (h1)) ?_
    refine s_nil ?_
    refine fin_seq ?_
    refine ok_true (by kernel_rfl) ?_
    refine ok_seq ?_
    refine ok_region ?_
    refine s_val (.bool false) (by kernel_rfl) (fun _ => by kernel_rfl) ?_
    refine s_nil ?_
    refine fin_seq ?_
    refine ok_ret ?_
    refine fin_seq_ret ?_
    refine fin_ret (.bool false) Tryz.results14 (by kernel_rfl) ?_
    exact fun w hO => ⟨by rw [decide_eq_false (show ¬ a = b from fun e => by subst e; first | omega | exact absurd (hs.symm.trans ht) (by assumption))], hO.below⟩
end Go.Proofs.YtmlecnomdamgnaaGreat
end

section
/-
  linchpinref4: May, Has, Same: what they return for slices of spans whose strings have at most a million bytes; nothing that was there is changed.
-/
namespace Go.Proofs.YtmlecnomdamgnaaGreat
open Go.RowKit
set_option maxRecDepth 100000
set_option linter.unusedVariables false
set_option linter.unusedSimpArgs false
set_option maxHeartbeats 2000000

theorem row_take_step {l : List Sp} {k : Nat} (hk : k < l.length) (h : rowMay (l.take k) = true) (hs : l[k].may = true) (hc : ∀ h0 : 0 < k, cmpC (l[k - 1]'(by omega)).hi l[k].lo < 0) : rowMay (l.take (k + 1)) = true := by
  rw [List.take_succ_eq_append_getElem hk]
  refine row_snoc h hs fun t ht => ?_
  cases k with
  | zero => simp at ht
  | succ k =>
    have e := List.take_succ_eq_append_getElem (l := l) (i := k) (by omega)
    rw [e, List.getLast?_concat] at ht
    obtain rfl : l[k] = t := Option.some.inj ht
    exact hc (by omega)
theorem row_pair : ∀ {l : List Sp}, rowMay l = true → ∀ k (hk : k < l.length) (h0 : 0 < k), cmpC (l[k - 1]'(by omega)).hi l[k].lo < 0
  | [], _, k, hk, _ => by simp at hk
  | s :: l, h, k, hk, h0 => by
    cases k with
    | zero => omega
    | succ k =>
      cases k with
      | zero => exact row_after h _ (List.getElem_mem _)
      | succ k => exact row_pair (row_tail h) (k + 1) (by simpa using hk) (by omega)
theorem any_drop (l : List Sp) (v : Ver) (k : Nat) (hk : k < l.length) : (l.drop k).any (holdsC · v) = (holdsC l[k] v || (l.drop (k + 1)).any (holdsC · v)) := by
  rw [List.drop_eq_getElem_cons hk, List.any_cons]

theorem rrowMay_any (A : Option Addr) (cap : Nat) (l : List Sp) (W : World) (hv : Reads spanC W W.heap.size A l) (hn : l.length ≤ 1000000) (hl : ShortL l) :
    Calls Tryz.prog 27 #[.slice A l.length cap] W fun e w' => e = .returned (.bool (rowMay l)) ∧ Below W.heap.size W w' := by
  refine calls_ok (n := 35) Tryz.func27 rfl (by kernel_rfl) (by kernel_rfl) ?_
  refine ok_seq ?_
  refine ok_region ?_
  refine s_val (.bool false) (by kernel_rfl) (fun _ => by kernel_rfl) ?_
  refine s_nil ?_
  refine fin_seq ?_
  refine ok_seq ?_
  refine ok_seq ?_
  refine ok_region ?_
  refine s_val (.int .i64 0) (by kernel_rfl) (fun _ => by kernel_rfl) ?_
  refine s_nil ?_
  refine fin_seq ?_
  refine ok_block ?_
  refine ok_loop (fun L f m => ∃ (k : Nat) (j : Nat → Value), (k ≤ l.length ∧ rowMay (l.take k) = true) ∧ L = [] ∧ f = upds j [(0, .slice A l.length cap), (3, .int .i64 (k : Int))] ∧ m = l.length - k) (l.length - 0) ⟨0, _, ⟨Nat.zero_le _, by rw [List.take_zero]; rfl⟩, rfl, upds_self _ ⟨by kernel_rfl, by kernel_rfl, trivial⟩, rfl⟩ ?_
  rintro L f m ⟨k, j, hrel, rfl, rfl, rfl⟩
  have hkl := hrel.1
  refine ok_seq ?_
  refine ok_seq ?_
  refine ok_region ?_
  refine s_val (.int .i64 (k : Int)) (by kernel_rfl) (fun _ => by kernel_rfl) ?_
  refine s_val (.slice A l.length cap) (by kernel_rfl) (fun _ => by kernel_rfl) ?_
  refine s_val (.int .i64 (l.length : Int)) (by kernel_rfl) (fun _ => by kernel_rfl) ?_
  by_cases h1 : (k : Int) < (l.length : Int)
  · skip
    have hk : k < l.length := by omega
    obtain ⟨b, off, hA, hlt, hcell⟩ := hv (by omega)
    obtain ⟨s, hs⟩ : ∃ s, l[k] = s := ⟨_, rfl⟩
    have hsk : s.short := hs ▸ hl l[k] (List.getElem_mem hk)
    refine s_dec (p := (k : Int) < (l.length : Int)) true (by kernel_rfl) (fun _ => by kernel_rfl) (decide_eq_true (h1)) ?_
    refine s_nil ?_
    refine fin_seq ?_
    refine ok_true (by kernel_rfl) ?_
    refine ok_skip ?_
    refine fin_seq ?_
    refine ok_seq ?_
    refine ok_block ?_
    refine ok_seq ?_
    refine ok_draw (by kernel_rfl) (by kernel_rfl) ?_
    refine q_val (.slice A l.length cap) (by kernel_rfl) (fun _ => by kernel_rfl) ?_
    refine q_val (.int .i64 (k : Int)) (by kernel_rfl) (fun _ => by kernel_rfl) ?_
    refine q_val (.pointer (some ⟨b, off + k * 14, none⟩)) (by kernel_rfl) (run_ixA (b := b) (off := off) (c := cap) (n := l.length) (k := .i64) (j := (k : Int)) (e := 43) (sz := 14) rfl (by kernel_rfl) hA (by kernel_rfl) (by kernel_rfl) (by kernel_rfl) (by omega) (by omega) (by omega)) ?_
    refine q_old (spanV s) (a := ⟨b, off + k * 14, none⟩) (by kernel_rfl) rfl (by kernel_rfl) (fun w hO => elem_load spanC_len (fun j u h => (hO.below.cell (p := ⟨b, off + j, none⟩) hlt).trans (hcell j u h)) k 0 hk (by omega) _ (by rw [hs]; kernel_rfl)) ?_
    refine q_call (k := 45) (args := #[spanV s]) (.bool s.may) (by kernel_rfl) (fun _ => by kernel_rfl) (fun w _ => rspanMay_any s w hsk) ?_
    cases h2 : s.may with
    | true =>
      refine q_val (.bool false) (by kernel_rfl) (fun _ => by kernel_rfl) ?_
      refine q_val (.bool false) (by kernel_rfl) (fun _ => by kernel_rfl) ?_
      refine q_val (.int .i64 (k : Int)) (by kernel_rfl) (fun _ => by kernel_rfl) ?_
      by_cases h3 : (0 : Int) < (k : Int)
      · skip
        have hk1 : k - 1 < l.length := by omega
        obtain ⟨r, hr⟩ : ∃ r, l[k - 1] = r := ⟨_, rfl⟩
        have hrk : r.short := hr ▸ hl l[k - 1] (List.getElem_mem hk1)
        refine q_dec (p := (0 : Int) < (k : Int)) true (by kernel_rfl) (fun _ => by kernel_rfl) (decide_eq_true (h3)) ?_
        refine q_val (.bool true) (by kernel_rfl) (fun _ => by kernel_rfl) ?_
        refine q_val (.slice A l.length cap) (by kernel_rfl) (fun _ => by kernel_rfl) ?_
        refine q_val (.int .i64 (k : Int)) (by kernel_rfl) (fun _ => by kernel_rfl) ?_
        refine q_sum (k := .i64) (((k : Int) : Int) - 1) (by kernel_rfl) (fun _ => by kernel_rfl) (IntWalk.i64_in _ (by omega)) ?_
        refine q_val (.pointer (some ⟨b, off + (k - 1) * 14, none⟩)) (by kernel_rfl) (run_ixA (b := b) (off := off) (c := cap) (n := l.length) (k := .i64) (j := ((k : Int) : Int) - 1) (e := 43) (sz := 14) rfl (by kernel_rfl) hA (by kernel_rfl) (by kernel_rfl) (by kernel_rfl) (by omega) (by omega) (by omega)) ?_
        refine q_val (.pointer (some ⟨b, off + (k - 1) * 14 + 7, none⟩)) (by kernel_rfl) (fun _ => by kernel_rfl) ?_
        refine q_old (cutV r.hi) (a := ⟨b, off + (k - 1) * 14 + 7, none⟩) (by kernel_rfl) rfl (by kernel_rfl) (fun w hO => elem_load spanC_len (fun j u h => (hO.below.cell (p := ⟨b, off + j, none⟩) hlt).trans (hcell j u h)) (k - 1) 7 hk1 (by omega) _ (by rw [hr]; kernel_rfl)) ?_
        refine q_val (.slice A l.length cap) (by kernel_rfl) (fun _ => by kernel_rfl) ?_
        refine q_val (.int .i64 (k : Int)) (by kernel_rfl) (fun _ => by kernel_rfl) ?_
        refine q_val (.pointer (some ⟨b, off + k * 14, none⟩)) (by kernel_rfl) (run_ixA (b := b) (off := off) (c := cap) (n := l.length) (k := .i64) (j := (k : Int)) (e := 43) (sz := 14) rfl (by kernel_rfl) hA (by kernel_rfl) (by kernel_rfl) (by kernel_rfl) (by omega) (by omega) (by omega)) ?_
        refine q_val (.pointer (some ⟨b, off + k * 14 + 0, none⟩)) (by kernel_rfl) (fun _ => by kernel_rfl) ?_
        refine q_old (cutV s.lo) (a := ⟨b, off + k * 14 + 0, none⟩) (by kernel_rfl) rfl (by kernel_rfl) (fun w hO => elem_load spanC_len (fun j u h => (hO.below.cell (p := ⟨b, off + j, none⟩) hlt).trans (hcell j u h)) k 0 hk (by omega) _ (by rw [hs]; kernel_rfl)) ?_
        refine q_call (k := 44) (args := #[cutV r.hi, cutV s.lo]) (.int .i64 (cmpC r.hi s.lo)) (by kernel_rfl) (fun _ => by kernel_rfl) (fun w _ => rcmpC_any r.hi s.lo w hrk.2 hsk.1) ?_
        by_cases h4 : (0 : Int) ≤ cmpC r.hi s.lo
        · skip
          refine q_dec (p := (0 : Int) ≤ cmpC r.hi s.lo) true (by kernel_rfl) (fun _ => by kernel_rfl) (decide_eq_true (h4)) ?_
          refine q_val (.bool true) (by kernel_rfl) (fun _ => by kernel_rfl) ?_
          refine q_val (.bool true) (by kernel_rfl) (fun _ => by kernel_rfl) ?_
          refine q_nil ?_
          refine fin_seq ?_
          refine ok_true (by kernel_rfl) ?_
          refine ok_seq ?_
          refine ok_region ?_
          refine s_val (.bool false) (by kernel_rfl) (fun _ => by kernel_rfl) ?_
          refine s_nil ?_
          refine fin_seq ?_
          refine ok_ret ?_
          refine fin_block_ret ?_
          refine fin_seq_ret ?_
          refine fin_round_ret ?_
          refine fin_block_ret ?_
          refine fin_seq_ret ?_
          refine fin_ret (.bool false) Tryz.results27 (by kernel_rfl) ?_
          exact fun w hO => ⟨by rw [show rowMay l = false from by cases hm : rowMay l with | false => rfl | true => first | (have h := row_mem hm l[k] (List.getElem_mem hk); rw [hs] at h; simp_all; done) | (have h := row_pair hm k hk (by omega); rw [hs, hr] at h; omega)], hO.below⟩
        · skip
          refine q_dec (p := (0 : Int) ≤ cmpC r.hi s.lo) false (by kernel_rfl) (fun _ => by kernel_rfl) (decide_eq_false (h4)) ?_
          refine q_val (.bool false) (by kernel_rfl) (fun _ => by kernel_rfl) ?_
          refine q_val (.bool false) (by kernel_rfl) (fun _ => by kernel_rfl) ?_
          refine q_nil ?_
          refine fin_seq ?_
          refine ok_false (by kernel_rfl) ?_
          refine ok_skip ?_
          refine fin_block ?_
          refine fin_seq ?_
          refine ok_region ?_
          refine s_val (.int .i64 (k : Int)) (by kernel_rfl) (fun _ => by kernel_rfl) ?_
          refine s_sum (k := .i64) (((k + 1 : Nat) : Int)) (by kernel_rfl) (fun _ => by kernel_rfl) (IntWalk.i64_in _ (by omega)) ?_
          refine s_val (.int .i64 ((k + 1 : Nat) : Int)) (by kernel_rfl) (fun _ => by kernel_rfl) ?_
          refine s_nil ?_
          have hnext : rowMay (l.take (k + 1)) = true := row_take_step hk hrel.2 (by rw [hs]; assumption) (fun _ => by rw [hr, hs]; omega)
          exact fin_round (m' := l.length - (k + 1)) (by omega) ⟨k + 1, _, ⟨by omega, hnext⟩, rfl, upds_self _ ⟨by kernel_rfl, by kernel_rfl, trivial⟩, rfl⟩
      · skip
        refine q_dec (p := (0 : Int) < (k : Int)) false (by kernel_rfl) (fun _ => by kernel_rfl) (decide_eq_false (h3)) ?_
        refine q_val (.bool false) (by kernel_rfl) (fun _ => by kernel_rfl) ?_
        refine q_skip (by kernel_rfl) ?_
        refine q_skip (by kernel_rfl) ?_
        refine q_skip (by kernel_rfl) ?_
        refine q_skip (by kernel_rfl) ?_
        refine q_skip (by kernel_rfl) ?_
        refine q_skip (by kernel_rfl) ?_
        refine q_skip (by kernel_rfl) ?_
        refine q_skip (by kernel_rfl) ?_
        refine q_skip (by kernel_rfl) ?_
        refine q_skip (by kernel_rfl) ?_
        refine q_skip (by kernel_rfl) ?_
        refine q_skip (by kernel_rfl) ?_
        refine q_skip (by kernel_rfl) ?_
        refine q_val (.bool false) (by kernel_rfl) (fun _ => by kernel_rfl) ?_
        refine q_val (.bool false) (by kernel_rfl) (fun _ => by kernel_rfl) ?_
        refine q_nil ?_
        refine fin_seq ?_
        refine ok_false (by kernel_rfl) ?_
        refine ok_skip ?_
        refine fin_block ?_
        refine fin_seq ?_
        refine ok_region ?_
        refine s_val (.int .i64 (k : Int)) (by kernel_rfl) (fun _ => by kernel_rfl) ?_
        refine s_sum (k := .i64) (((k + 1 : Nat) : Int)) (by kernel_rfl) (fun _ => by kernel_rfl) (IntWalk.i64_in _ (by omega)) ?_
        refine s_val (.int .i64 ((k + 1 : Nat) : Int)) (by kernel_rfl) (fun _ => by kernel_rfl) ?_
        refine s_nil ?_
        have hnext : rowMay (l.take (k + 1)) = true := row_take_step hk hrel.2 (by rw [hs]; assumption) (fun h0 => absurd h0 (by omega))
        exact fin_round (m' := l.length - (k + 1)) (by omega) ⟨k + 1, _, ⟨by omega, hnext⟩, rfl, upds_self _ ⟨by kernel_rfl, by kernel_rfl, trivial⟩, rfl⟩
    | false =>
      refine q_val (.bool true) (by kernel_rfl) (fun _ => by kernel_rfl) ?_
      refine q_val (.bool true) (by kernel_rfl) (fun _ => by kernel_rfl) ?_
      refine q_skip (by kernel_rfl) ?_
      refine q_skip (by kernel_rfl) ?_
      refine q_skip (by kernel_rfl) ?_
      refine q_skip (by kernel_rfl) ?_
      refine q_skip (by kernel_rfl) ?_
      refine q_skip (by kernel_rfl) ?_
      refine q_skip (by kernel_rfl) ?_
      refine q_skip (by kernel_rfl) ?_
      refine q_skip (by kernel_rfl) ?_
      refine q_skip (by kernel_rfl) ?_
      refine q_skip (by kernel_rfl) ?_
      refine q_skip (by kernel_rfl) ?_
      refine q_skip (by kernel_rfl) ?_
      refine q_skip (by kernel_rfl) ?_
      refine q_skip (by kernel_rfl) ?_
      refine q_skip (by kernel_rfl) ?_
      refine q_skip (by kernel_rfl) ?_
      refine q_val (.bool true) (by kernel_rfl) (fun _ => by kernel_rfl) ?_
      refine q_nil ?_
      refine fin_seq ?_
      refine ok_true (by kernel_rfl) ?_
      refine ok_seq ?_
      refine ok_region ?_
      refine s_val (.bool false) (by kernel_rfl) (fun _ => by kernel_rfl) ?_
      refine s_nil ?_
      refine fin_seq ?_
      refine ok_ret ?_
      refine fin_block_ret ?_
      refine fin_seq_ret ?_
      refine fin_round_ret ?_
      refine fin_block_ret ?_
      refine fin_seq_ret ?_
      refine fin_ret (.bool false) Tryz.results27 (by kernel_rfl) ?_
      exact fun w hO => ⟨by rw [show rowMay l = false from by cases hm : rowMay l with | false => rfl | true => first | (have h := row_mem hm l[k] (List.getElem_mem hk); rw [hs] at h; simp_all; done) | (have h := row_pair hm k hk (by omega); rw [hs, hr] at h; omega)], hO.below⟩
  · skip
    refine s_dec (p := (k : Int) < (l.length : Int)) false (by kernel_rfl) (fun _ => by kernel_rfl) (decide_eq_false (h1)) ?_
    refine s_nil ?_
    refine fin_seq ?_
    refine ok_false (by kernel_rfl) ?_
    refine ok_exit ?_
    refine fin_seq_exit ?_
    refine fin_round_exit ?_
    refine fin_block_exit ?_
    refine fin_seq ?_
    refine ok_seq ?_
    refine ok_region ?_
    refine s_val (.bool true) (by kernel_rfl) (fun _ => by kernel_rfl) ?_
    refine s_nil ?_
    refine fin_seq ?_
    refine ok_ret ?_
    refine fin_ret (.bool true) Tryz.results27 (by kernel_rfl) ?_
    exact fun w hO => ⟨by rw [show rowMay l = true from by have h := hrel.2; rwa [List.take_of_length_le (by omega)] at h], hO.below⟩
end Go.Proofs.YtmlecnomdamgnaaGreat
end

section
/-
  linchpinref4.grow: a row with a stretch behind it; it may write into the slice that it is lent; of all other memory nothing is changed.
-/
namespace Go.Proofs.YtmlecnomdamgnaaGreat
open Go.RowKit
set_option maxRecDepth 100000
set_option linter.unusedVariables false
set_option linter.unusedSimpArgs false
set_option maxHeartbeats 2000000

/-- The value v is a slice of the spans l that lies in ob, a caller's own. -/
def SlS (v : Value) (l : List Sp) (ob : List Blk) : Prop := Sl 43 14 v l.length (l.flatMap spanC) ob
theorem spanInfo : (Tryz.prog.info? 43).map (fun i => (i.zero.map (·.cells.size), i.size, i.bytes)) = some (some 14, 14, 144) := by kernel_rfl
theorem span_info : ∃ i z, Tryz.prog.info? 43 = some i ∧ i.zero = some z ∧ i.size = 14 ∧ z.cells.size = 14 ∧ i.bytes = 144 := by
  have h := spanInfo
  cases hi : Tryz.prog.info? 43 with
  | none => rw [hi] at h; cases h
  | some i =>
    rw [hi] at h
    simp only [Option.map_some, Option.some.injEq, Prod.mk.injEq] at h
    cases hz : i.zero with
    | none => rw [hz] at h; simp at h
    | some z => rw [hz] at h; simp at h; exact ⟨i, z, rfl, hz, h.2.1, h.1, h.2.2⟩
theorem span_cells (s : Sp) : ∀ u ∈ spanC s, u.oneCell' = true := by
  intro u hu
  unfold spanC spanV at hu
  simp only [Value.cells, List.mem_cons, List.not_mem_nil, or_false] at hu
  rcases hu with rfl | rfl | rfl | rfl | rfl | rfl | rfl | rfl | rfl | rfl | rfl | rfl | rfl | rfl <;> rfl
theorem grow_app {l : List Sp} {c d : Cu} (h : ∀ s ∈ l.getLast?, ¬ cmpC s.hi c = 0) : growL l c d = l ++ [⟨c, d⟩] := by
  unfold growL
  cases hg : l.getLast? with
  | none => have : l = [] := by simpa using hg
            subst this; rfl
  | some s => dsimp only; rw [if_neg (h s hg)]
theorem grow_set {l : List Sp} {c d : Cu} {s : Sp} (h0 : 0 < l.length) (hs : l[l.length - 1]'(by omega) = s) (h : cmpC s.hi c = 0) : growL l c d = l.set (l.length - 1) ⟨s.lo, d⟩ := by
  have hg : l.getLast? = some s := by rw [List.getLast?_eq_getElem?, List.getElem?_eq_getElem (by omega), hs]
  unfold growL
  rw [hg]
  dsimp only
  rw [if_pos h, List.dropLast_eq_take, List.set_eq_take_append_cons_drop, if_pos (by omega), List.drop_of_length_le (by omega)]
theorem grow_len_set {l : List Sp} {k : Nat} {y : Sp} : (l.set k y).length = l.length := List.length_set
theorem last_at {l : List Sp} (h0 : 0 < l.length) {s t : Sp} (hs : l[l.length - 1]'(by omega) = s) (ht : t ∈ l.getLast?) : t = s := by
  rw [List.getLast?_eq_getElem?, List.getElem?_eq_getElem (by omega), hs] at ht
  exact (Option.some.inj ht).symm

theorem grow_any (A : Option Addr) (cap : Nat) (l : List Sp) (ob : List Blk) (c d : Cu) (W : World) (hv : SlS (.slice A l.length cap) l ob) (hO : Own (ob.map Blk.b) W W ob) (hn : l.length ≤ 1000000) (hl : ShortL l) (hc : c.short) (hd : d.short) :
    Calls Tryz.prog 31 #[.slice A l.length cap, cutV c, cutV d] W fun e w' => ∃ v' ob', e = .returned v' ∧ SlS v' (growL l c d) ob' ∧ Own (ob.map Blk.b) W w' ob' := by
  unfold SlS at hv ⊢
  refine calls_okL (n := 35) hO Tryz.func31 rfl (by kernel_rfl) (by kernel_rfl) ?_
  refine ok_seq ?_
  refine ok_region ?_
  refine s_box (cutV c) (by kernel_rfl) rfl (by kernel_rfl) (fun b1 => ?_)
  refine s_box (cutV d) (by kernel_rfl) rfl (by kernel_rfl) (fun b2 => ?_)
  refine s_val (.slice none 0 0) (by kernel_rfl) (fun _ => by kernel_rfl) ?_
  refine s_nil ?_
  refine fin_seq ?_
  refine ok_seq ?_
  refine ok_seq ?_
  refine ok_region ?_
  refine s_val (.slice A l.length cap) (by kernel_rfl) (fun _ => by kernel_rfl) ?_
  refine s_val (.int .i64 (l.length : Int)) (by kernel_rfl) (fun _ => by kernel_rfl) ?_
  refine s_sum (k := .i64) (((l.length : Int) : Int) - 1) (by kernel_rfl) (fun _ => by kernel_rfl) (IntWalk.i64_in _ (by omega)) ?_
  refine s_val (.int .i64 (((l.length : Int) : Int) - 1)) (by kernel_rfl) (fun _ => by kernel_rfl) ?_
  refine s_nil ?_
  refine fin_seq ?_
  refine ok_seq ?_
  refine ok_draw (by kernel_rfl) (by kernel_rfl) ?_
  refine q_val (.int .i64 (((l.length : Int) : Int) - 1)) (by kernel_rfl) (fun _ => by kernel_rfl) ?_
  by_cases h1 : (0 : Int) ≤ ((l.length : Int) : Int) - 1
  · skip
    obtain ⟨g, cur, rfl, rfl, hcap, hmax, hsz, hcur⟩ := hv.block (by omega)
    obtain ⟨s, hs⟩ : ∃ s, l[l.length - 1]'(by omega) = s := ⟨_, rfl⟩
    have hsk : s.short := hs ▸ hl _ (List.getElem_mem _)
    refine q_dec (p := (0 : Int) ≤ ((l.length : Int) : Int) - 1) true (by kernel_rfl) (fun _ => by kernel_rfl) (decide_eq_true (h1)) ?_
    refine q_val (.bool true) (by kernel_rfl) (fun _ => by kernel_rfl) ?_
    refine q_val (.slice (some ⟨g, 0, none⟩) l.length cap) (by kernel_rfl) (fun _ => by kernel_rfl) ?_
    refine q_val (.int .i64 (((l.length : Int) : Int) - 1)) (by kernel_rfl) (fun _ => by kernel_rfl) ?_
    refine q_val (.pointer (some ⟨g, (l.length - 1) * 14, none⟩)) (by kernel_rfl) (run_ixsl (b := g) (off := 0) (n := l.length) (c := cap) (k := .i64) (j := (l.length : Int) - 1) (e := 43) (sz := 14) rfl (by kernel_rfl) (by kernel_rfl) (by kernel_rfl) (by kernel_rfl) (by omega) (by omega) (by omega)) ?_
    refine q_val (.pointer (some ⟨g, (l.length - 1) * 14 + 7, none⟩)) (by kernel_rfl) (fun _ => by kernel_rfl) ?_
    refine q_load 2 ⟨g, cur, 43⟩ (off := (l.length - 1) * 14 + 7) (cutV s.hi) (by kernel_rfl) rfl (by kernel_rfl) (by kernel_rfl) (read_part spanC_len hcur (l.length - 1) 7 (by omega) (by omega) _ (by rw [hs]; kernel_rfl)) ?_
    refine q_load 1 ⟨b1, (cutV c).cells, 41⟩ (off := 0) (cutV c) (by kernel_rfl) rfl (by kernel_rfl) (by kernel_rfl) (by kernel_rfl) ?_
    refine q_call (k := 44) (args := #[cutV s.hi, cutV c]) (.int .i64 (cmpC s.hi c)) (by kernel_rfl) (fun _ => by kernel_rfl) (fun w _ => rcmpC_any s.hi c w hsk.2 hc) ?_
    by_cases h2 : (cmpC s.hi c : Int) = 0
    · skip
      refine q_dec (p := (cmpC s.hi c : Int) = 0) true (by kernel_rfl) (fun _ => by kernel_rfl) (decide_eq_true (h2)) ?_
      refine q_val (.bool true) (by kernel_rfl) (fun _ => by kernel_rfl) ?_
      refine q_nil ?_
      refine fin_seq ?_
      refine ok_true (by kernel_rfl) ?_
      refine ok_seq ?_
      refine ok_region ?_
      refine s_val (.slice (some ⟨g, 0, none⟩) l.length cap) (by kernel_rfl) (fun _ => by kernel_rfl) ?_
      refine s_val (.int .i64 (((l.length : Int) : Int) - 1)) (by kernel_rfl) (fun _ => by kernel_rfl) ?_
      refine s_load 0 ⟨b2, (cutV d).cells, 41⟩ (off := 0) (cutV d) (by kernel_rfl) rfl (by kernel_rfl) (by kernel_rfl) (by kernel_rfl) ?_
      refine s_val (.pointer (some ⟨g, (l.length - 1) * 14, none⟩)) (by kernel_rfl) (run_ixsl (b := g) (off := 0) (n := l.length) (c := cap) (k := .i64) (j := (l.length : Int) - 1) (e := 43) (sz := 14) rfl (by kernel_rfl) (by kernel_rfl) (by kernel_rfl) (by kernel_rfl) (by omega) (by omega) (by omega)) ?_
      refine s_val (.pointer (some ⟨g, (l.length - 1) * 14 + 7, none⟩)) (by kernel_rfl) (fun _ => by kernel_rfl) ?_
      refine s_storeS 2 ⟨g, cur, 43⟩ (off := (l.length - 1) * 14 + 7) (cutV d) 7 (by kernel_rfl) rfl rfl (by kernel_rfl) (by kernel_rfl) (by kernel_rfl) (by kernel_rfl) (by kernel_rfl) (by show (l.length - 1) * 14 + 7 + 7 ≤ cur.size; omega) (by kernel_rfl) ?_
      refine s_nil ?_
      refine fin_seq ?_
      refine ok_seq ?_
      refine ok_region ?_
      refine s_val (.slice (some ⟨g, 0, none⟩) l.length cap) (by kernel_rfl) (fun _ => by kernel_rfl) ?_
      refine s_val (.slice (some ⟨g, 0, none⟩) l.length cap) (by kernel_rfl) (fun _ => by kernel_rfl) ?_
      refine s_nil ?_
      refine fin_seq ?_
      refine ok_ret ?_
      refine fin_seq_ret ?_
      refine fin_ret (.slice (some ⟨g, 0, none⟩) l.length cap) Tryz.results31 (by kernel_rfl) ?_
      have hse := store_elem spanC_len hcur (l.length - 1) 7 (by omega) (cutV d).cells ⟨s.lo, d⟩ (show 7 + 7 ≤ 14 by decide) (by rw [hs]; rfl)
      refine fun w hO => ⟨_, [⟨g, storeIn cur ((l.length - 1) * 14 + 7) (cutV d).cells, 43⟩], rfl, ?_, Own.take hO (fun x hx => by simp only [List.mem_singleton] at hx; subst hx; simp) (by simp)⟩
      rw [grow_set (by omega) hs (by assumption), List.length_set]
      exact ⟨by rw [flat_len spanC_len, List.length_set], .inr ⟨g, cap, _, rfl, rfl, hcap, hmax, by rw [hse.2]; exact hsz, hse.1⟩⟩
    · skip
      refine q_dec (p := (cmpC s.hi c : Int) = 0) false (by kernel_rfl) (fun _ => by kernel_rfl) (decide_eq_false (h2)) ?_
      refine q_val (.bool false) (by kernel_rfl) (fun _ => by kernel_rfl) ?_
      refine q_nil ?_
      refine fin_seq ?_
      refine ok_false (by kernel_rfl) ?_
      refine ok_skip ?_
      refine fin_seq ?_
      refine ok_seq ?_
      refine ok_region ?_
      refine s_val (.slice (some ⟨g, 0, none⟩) l.length cap) (by kernel_rfl) (fun _ => by kernel_rfl) ?_
      refine s_load 1 ⟨b1, (cutV c).cells, 41⟩ (off := 0) (cutV c) (by kernel_rfl) rfl (by kernel_rfl) (by kernel_rfl) (by kernel_rfl) ?_
      refine s_load 0 ⟨b2, (cutV d).cells, 41⟩ (off := 0) (cutV d) (by kernel_rfl) rfl (by kernel_rfl) (by kernel_rfl) (by kernel_rfl) ?_
      refine s_val (.agg #[.int .i64 c.e, .int .i64 c.v.maj, .int .i64 c.v.min, .int .i64 c.v.pat, .string (mkS c.v.pre), .string (mkS c.v.build), .bool c.aft, .int .i64 d.e, .int .i64 d.v.maj, .int .i64 d.v.min, .int .i64 d.v.pat, .string (mkS d.v.pre), .string (mkS d.v.build), .bool d.aft]) (by kernel_rfl) (fun _ => by kernel_rfl) ?_
      refine s_lit 43 #[.int .i64 c.e, .int .i64 c.v.maj, .int .i64 c.v.min, .int .i64 c.v.pat, .string (mkS c.v.pre), .string (mkS c.v.build), .bool c.aft, .int .i64 d.e, .int .i64 d.v.maj, .int .i64 d.v.min, .int .i64 d.v.pat, .string (mkS d.v.pre), .string (mkS d.v.build), .bool d.aft] (by kernel_rfl) rfl (fun _ => by kernel_rfl) (fun b3 => ?_)
      refine s_cast (L' := [⟨b3, #[.int .i64 c.e, .int .i64 c.v.maj, .int .i64 c.v.min, .int .i64 c.v.pat, .string (mkS c.v.pre), .string (mkS c.v.build), .bool c.aft, .int .i64 d.e, .int .i64 d.v.maj, .int .i64 d.v.min, .int .i64 d.v.pat, .string (mkS d.v.pre), .string (mkS d.v.build), .bool d.aft], 43⟩, ⟨b2, (cutV d).cells, 41⟩, ⟨b1, (cutV c).cells, 41⟩] ++ [⟨g, cur, 43⟩] ++ []) (by simp) ?_
      obtain ⟨i, z, e1, e2, e3, e4, e5⟩ := span_info
      refine s_append (sz := 14) (by kernel_rfl) rfl Tryz.underlying22 e1 e2 e3 e4 (by kernel_rfl) hv (a := ⟨b3, 0, none⟩) (m := 1) (c := 1) (news := spanC ⟨c, d⟩) (by kernel_rfl) rfl (fun w hO j u hj => ?_) (span_cells _) (by unfold maxLen; omega) (by rw [e5]; omega) (fun v' ob' hv' => ?_)
      · rw [add_off, cell_of_row w b3 (0 + j) (spanC ⟨c, d⟩).toArray 43 _ (hO.held ⟨b3, (spanC ⟨c, d⟩).toArray, 43⟩ (List.mem_append_left _ (List.mem_append_left _ (List.mem_cons_self ..))))]; simpa using hj
      refine s_val (v') (by kernel_rfl) (fun _ => by kernel_rfl) ?_
      refine s_nil ?_
      refine fin_seq ?_
      refine ok_ret ?_
      refine fin_ret (v') Tryz.results31 (by kernel_rfl) ?_
      refine fun w hO => ⟨v', ob', rfl, by rw [grow_app (fun t ht => by rw [last_at (by omega) hs ht]; assumption)]; simpa using hv', Own.take hO (fun x hx => List.mem_append_left _ (List.mem_append_right _ hx)) ?_⟩
      have := hO.apart; rw [List.append_nil, List.map_append, List.nodup_append] at this; exact this.2.1
  · skip
    refine q_dec (p := (0 : Int) ≤ ((l.length : Int) : Int) - 1) false (by kernel_rfl) (fun _ => by kernel_rfl) (decide_eq_false (h1)) ?_
    refine q_val (.bool false) (by kernel_rfl) (fun _ => by kernel_rfl) ?_
    refine q_skip (by kernel_rfl) ?_
    refine q_skip (by kernel_rfl) ?_
    refine q_skip (by kernel_rfl) ?_
    refine q_skip (by kernel_rfl) ?_
    refine q_skip (by kernel_rfl) ?_
    refine q_skip (by kernel_rfl) ?_
    refine q_skip (by kernel_rfl) ?_
    refine q_skip (by kernel_rfl) ?_
    refine q_val (.bool false) (by kernel_rfl) (fun _ => by kernel_rfl) ?_
    refine q_nil ?_
    refine fin_seq ?_
    refine ok_false (by kernel_rfl) ?_
    refine ok_skip ?_
    refine fin_seq ?_
    refine ok_seq ?_
    refine ok_region ?_
    refine s_val (.slice A l.length cap) (by kernel_rfl) (fun _ => by kernel_rfl) ?_
    refine s_load 1 ⟨b1, (cutV c).cells, 41⟩ (off := 0) (cutV c) (by kernel_rfl) rfl (by kernel_rfl) (by kernel_rfl) (by kernel_rfl) ?_
    refine s_load 0 ⟨b2, (cutV d).cells, 41⟩ (off := 0) (cutV d) (by kernel_rfl) rfl (by kernel_rfl) (by kernel_rfl) (by kernel_rfl) ?_
    refine s_val (.agg #[.int .i64 c.e, .int .i64 c.v.maj, .int .i64 c.v.min, .int .i64 c.v.pat, .string (mkS c.v.pre), .string (mkS c.v.build), .bool c.aft, .int .i64 d.e, .int .i64 d.v.maj, .int .i64 d.v.min, .int .i64 d.v.pat, .string (mkS d.v.pre), .string (mkS d.v.build), .bool d.aft]) (by kernel_rfl) (fun _ => by kernel_rfl) ?_
    refine s_lit 43 #[.int .i64 c.e, .int .i64 c.v.maj, .int .i64 c.v.min, .int .i64 c.v.pat, .string (mkS c.v.pre), .string (mkS c.v.build), .bool c.aft, .int .i64 d.e, .int .i64 d.v.maj, .int .i64 d.v.min, .int .i64 d.v.pat, .string (mkS d.v.pre), .string (mkS d.v.build), .bool d.aft] (by kernel_rfl) rfl (fun _ => by kernel_rfl) (fun b3 => ?_)
    refine s_cast (L' := [⟨b3, #[.int .i64 c.e, .int .i64 c.v.maj, .int .i64 c.v.min, .int .i64 c.v.pat, .string (mkS c.v.pre), .string (mkS c.v.build), .bool c.aft, .int .i64 d.e, .int .i64 d.v.maj, .int .i64 d.v.min, .int .i64 d.v.pat, .string (mkS d.v.pre), .string (mkS d.v.build), .bool d.aft], 43⟩, ⟨b2, (cutV d).cells, 41⟩, ⟨b1, (cutV c).cells, 41⟩] ++ ob ++ []) (by simp) ?_
    obtain ⟨i, z, e1, e2, e3, e4, e5⟩ := span_info
    refine s_append (sz := 14) (by kernel_rfl) rfl Tryz.underlying22 e1 e2 e3 e4 (by kernel_rfl) hv (a := ⟨b3, 0, none⟩) (m := 1) (c := 1) (news := spanC ⟨c, d⟩) (by kernel_rfl) rfl (fun w hO j u hj => ?_) (span_cells _) (by unfold maxLen; omega) (by rw [e5]; omega) (fun v' ob' hv' => ?_)
    · rw [add_off, cell_of_row w b3 (0 + j) (spanC ⟨c, d⟩).toArray 43 _ (hO.held ⟨b3, (spanC ⟨c, d⟩).toArray, 43⟩ (List.mem_append_left _ (List.mem_append_left _ (List.mem_cons_self ..))))]; simpa using hj
    refine s_val (v') (by kernel_rfl) (fun _ => by kernel_rfl) ?_
    refine s_nil ?_
    refine fin_seq ?_
    refine ok_ret ?_
    refine fin_ret (v') Tryz.results31 (by kernel_rfl) ?_
    refine fun w hO => ⟨v', ob', rfl, by rw [grow_app (fun t ht => by have : l = [] := List.eq_nil_of_length_eq_zero (by omega); subst this; simp at ht)]; simpa using hv', Own.take hO (fun x hx => List.mem_append_left _ (List.mem_append_right _ hx)) ?_⟩
    have := hO.apart; rw [List.append_nil, List.map_append, List.nodup_append] at this; exact this.2.1
end Go.Proofs.YtmlecnomdamgnaaGreat
end

section
/-
  linchpinref4.put: a cut into its place among rising ones; what it hands back is the slice that came in, or a new one; of all other memory nothing is changed.
-/
namespace Go.Proofs.YtmlecnomdamgnaaGreat
open Go.RowKit
set_option maxRecDepth 100000
set_option linter.unusedVariables false
set_option linter.unusedSimpArgs false
set_option maxHeartbeats 2000000

theorem putL_at {c : Cu} : ∀ {l : List Cu} (k : Nat) (hk : k < l.length), (∀ x ∈ l.take k, cmpC x c < 0) → cmpC l[k] c = 0 → putL c l = l
  | [], k, hk, _, _ => by simp at hk
  | d :: r, 0, hk, _, h => by
    have h' : cmpC d c = 0 := h
    unfold putL
    rw [if_neg (by omega), if_pos h']
  | d :: r, k + 1, hk, ht, h => by
    have hd : cmpC d c < 0 := ht d (by simp)
    unfold putL
    rw [if_pos hd, putL_at (l := r) k (by simpa using hk) (fun x hx => ht x (by simp [hx])) h]
theorem putL_ins {c : Cu} : ∀ {l : List Cu} (k : Nat) (hk : k ≤ l.length), (∀ x ∈ l.take k, cmpC x c < 0) → (∀ h : k < l.length, ¬ cmpC l[k] c < 0 ∧ ¬ cmpC l[k] c = 0) → putL c l = l.take k ++ c :: l.drop k
  | [], k, hk, _, _ => by obtain rfl : k = 0 := by simpa using hk
                          rfl
  | d :: r, 0, hk, _, h => by
    have h' : ¬ cmpC d c < 0 ∧ ¬ cmpC d c = 0 := h (by simp)
    unfold putL
    rw [if_neg h'.1, if_neg h'.2]; rfl
  | d :: r, k + 1, hk, ht, h => by
    have hd : cmpC d c < 0 := ht d (by simp)
    unfold putL
    rw [if_pos hd, putL_ins (l := r) k (by simpa using hk) (fun x hx => ht x (by simp [hx])) (fun h0 => h (by simpa using h0))]; rfl
def cutC (s : Cu) : List Value := (cutV s).cells.toList
theorem cutC_len (s : Cu) : (cutC s).length = 7 := rfl
def ShortC (l : List Cu) : Prop := ∀ s ∈ l, s.short
/-- The value v is a slice of the cuts l that lies in ob. -/
def SlC (v : Value) (l : List Cu) (ob : List Blk) : Prop := Sl 41 7 v l.length (l.flatMap cutC) ob
theorem cutInfo : (Tryz.prog.info? 41).map (fun i => (i.zero.map (·.cells.size), i.size, i.bytes)) = some (some 7, 7, 72) := by kernel_rfl
theorem cut_info : ∃ i z, Tryz.prog.info? 41 = some i ∧ i.zero = some z ∧ i.size = 7 ∧ z.cells.size = 7 ∧ i.bytes = 72 := by
  have h := cutInfo
  cases hi : Tryz.prog.info? 41 with
  | none => rw [hi] at h; cases h
  | some i =>
    rw [hi] at h
    simp only [Option.map_some, Option.some.injEq, Prod.mk.injEq] at h
    cases hz : i.zero with
    | none => rw [hz] at h; simp at h
    | some z => rw [hz] at h; simp at h; exact ⟨i, z, rfl, hz, h.2.1, h.1, h.2.2⟩
theorem cut_cells (s : Cu) : ∀ u ∈ cutC s, u.oneCell' = true := by
  intro u hu
  unfold cutC cutV at hu
  simp only [Value.cells, List.mem_cons, List.not_mem_nil, or_false] at hu
  rcases hu with rfl | rfl | rfl | rfl | rfl | rfl | rfl <;> rfl
theorem cuts_cells (l : List Cu) : ∀ u ∈ l.flatMap cutC, u.oneCell' = true := fun u hu => by
  obtain ⟨x, _, hx⟩ := List.mem_flatMap.1 hu
  exact cut_cells x u hx
theorem flat_drop {α : Type} {g : α → List Value} {sz : Nat} (hg : ∀ x, (g x).length = sz) (l : List α) (k : Nat) (hk : k ≤ l.length) : (l.drop k).flatMap g = (l.flatMap g).drop (k * sz) := by
  have e : l.flatMap g = (l.take k).flatMap g ++ (l.drop k).flatMap g := by rw [← List.flatMap_append, List.take_append_drop]
  have e2 : ((l.take k).flatMap g).length = k * sz := by rw [flat_len hg, List.length_take, Nat.min_eq_left hk]
  rw [e, ← e2, List.drop_left]
theorem flat_take {α : Type} {g : α → List Value} {sz : Nat} (hg : ∀ x, (g x).length = sz) (l : List α) (k : Nat) (hk : k ≤ l.length) : (l.take k).flatMap g = (l.flatMap g).take (k * sz) := by
  have e : l.flatMap g = (l.take k).flatMap g ++ (l.drop k).flatMap g := by rw [← List.flatMap_append, List.take_append_drop]
  have e2 : ((l.take k).flatMap g).length = k * sz := by rw [flat_len hg, List.length_take, Nat.min_eq_left hk]
  rw [e, ← e2, List.take_left]
theorem head_cells {α : Type} {g : α → List Value} {sz : Nat} (hg : ∀ x, (g x).length = sz) {cur : Array Value} {l : List α} (ht : cur.toList.take (l.length * sz) = l.flatMap g) (k : Nat) (hk : k ≤ l.length) {j : Nat} {u : Value} (hj : ((l.take k).flatMap g)[j]? = some u) : cur[0 + j]? = some u := by
  rw [flat_take hg l k hk, ← ht, List.take_take, Nat.min_eq_left (Nat.mul_le_mul_right _ hk), List.getElem?_take] at hj
  split at hj
  · rw [Nat.zero_add]; simpa using hj
  · cases hj
theorem tail_cells {α : Type} {g : α → List Value} {sz : Nat} (hg : ∀ x, (g x).length = sz) {cur : Array Value} {l : List α} (ht : cur.toList.take (l.length * sz) = l.flatMap g) (k cap : Nat) (hk : k ≤ l.length) (hc : l.length ≤ cap) {j : Nat} {u : Value} (hj : ((l.drop k).flatMap g)[j]? = some u) : cur[(0 + if cap = k then 0 else k * sz) + j]? = some u := by
  by_cases h : cap = k
  · have : l.drop k = [] := List.drop_of_length_le (by omega)
    rw [this] at hj; simp at hj
  · rw [if_neg h, Nat.zero_add]
    rw [flat_drop hg l k hk, ← ht, List.getElem?_drop, List.getElem?_take] at hj
    split at hj
    · simpa using hj
    · cases hj
theorem Sl.to {T : TypeId} {sz : Nat} {v : Value} {n n' : Nat} {xs xs' : List Value} {ob : List Blk} (h : Sl T sz v n xs ob) (e : n = n') (e' : xs = xs') : Sl T sz v n' xs' ob := by subst e; subst e'; exact h

theorem put_any (A : Option Addr) (cap : Nat) (l : List Cu) (ob : List Blk) (c : Cu) (W : World) (hv : SlC (.slice A l.length cap) l ob) (hO : Own (ob.map Blk.b) W W ob) (h0 : 0 < l.length) (hn : l.length ≤ 3000000) (hl : ShortC l) (hc : c.short) :
    Calls Tryz.prog 51 #[.slice A l.length cap, cutV c] W fun e w' => ∃ v' ob', e = .returned v' ∧ SlC v' (putL c l) ob' ∧ Own (ob.map Blk.b) W w' ob' := by
  unfold SlC at hv ⊢
  obtain ⟨g, cur, rfl, rfl, hcap, hmax, hsz, hcur⟩ := hv.block h0
  refine calls_okL (n := 46) hO Tryz.func51 rfl (by kernel_rfl) (by kernel_rfl) ?_
  refine ok_seq ?_
  refine ok_region ?_
  refine s_box (cutV c) (by kernel_rfl) rfl (by kernel_rfl) (fun b1 => ?_)
  refine s_val (.slice none 0 0) (by kernel_rfl) (fun _ => by kernel_rfl) ?_
  refine s_nil ?_
  refine fin_seq ?_
  refine ok_seq ?_
  refine ok_region ?_
  refine s_val (.int .i64 0) (by kernel_rfl) (fun _ => by kernel_rfl) ?_
  refine s_nil ?_
  refine fin_seq ?_
  refine ok_seq ?_
  refine ok_block ?_
  refine ok_loop (fun L f m => ∃ (k : Nat) (j : Nat → Value), (k ≤ l.length ∧ ∀ x ∈ l.take k, cmpC x c < 0) ∧ L = [⟨b1, (cutV c).cells, 41⟩, ⟨g, cur, 41⟩] ∧ f = upds j [(0, .slice (some ⟨g, 0, none⟩) l.length cap), (3, .pointer (some ⟨b1, 0, none⟩)), (5, .int .i64 (k : Int))] ∧ m = l.length - k) (l.length - 0) ⟨0, _, ⟨Nat.zero_le _, by simp⟩, rfl, upds_self _ ⟨by kernel_rfl, by kernel_rfl, by kernel_rfl, trivial⟩, rfl⟩ ?_
  rintro L f m ⟨k, j, hrel, rfl, rfl, rfl⟩
  have hkl := hrel.1
  refine ok_seq ?_
  refine ok_seq ?_
  refine ok_draw (by kernel_rfl) (by kernel_rfl) ?_
  refine q_val (.int .i64 (k : Int)) (by kernel_rfl) (fun _ => by kernel_rfl) ?_
  refine q_val (.slice (some ⟨g, 0, none⟩) l.length cap) (by kernel_rfl) (fun _ => by kernel_rfl) ?_
  refine q_val (.int .i64 (l.length : Int)) (by kernel_rfl) (fun _ => by kernel_rfl) ?_
  by_cases h1 : (k : Int) < (l.length : Int)
  · skip
    have hk : k < l.length := by omega
    obtain ⟨s, hs⟩ : ∃ s, l[k] = s := ⟨_, rfl⟩
    have hsk : s.short := hs ▸ hl _ (List.getElem_mem _)
    refine q_dec (p := (k : Int) < (l.length : Int)) true (by kernel_rfl) (fun _ => by kernel_rfl) (decide_eq_true (h1)) ?_
    refine q_val (.bool true) (by kernel_rfl) (fun _ => by kernel_rfl) ?_
    refine q_val (.slice (some ⟨g, 0, none⟩) l.length cap) (by kernel_rfl) (fun _ => by kernel_rfl) ?_
    refine q_val (.int .i64 (k : Int)) (by kernel_rfl) (fun _ => by kernel_rfl) ?_
    refine q_val (.pointer (some ⟨g, k * 7, none⟩)) (by kernel_rfl) (run_ixsl (b := g) (off := 0) (n := l.length) (c := cap) (k := .i64) (j := (k : Int)) (e := 41) (sz := 7) rfl (by kernel_rfl) (by kernel_rfl) (by kernel_rfl) (by kernel_rfl) (by omega) (by omega) (by show 0 + k * 7 = k * 7; omega)) ?_
    refine q_load 1 ⟨g, cur, 41⟩ (off := k * 7) (cutV s) (by kernel_rfl) rfl (by kernel_rfl) (by kernel_rfl) (read_part cutC_len hcur k 0 (by omega) (by omega) _ (by rw [hs]; kernel_rfl)) ?_
    refine q_load 0 ⟨b1, (cutV c).cells, 41⟩ (off := 0) (cutV c) (by kernel_rfl) rfl (by kernel_rfl) (by kernel_rfl) (by kernel_rfl) ?_
    refine q_call (k := 44) (args := #[cutV s, cutV c]) (.int .i64 (cmpC s c)) (by kernel_rfl) (fun _ => by kernel_rfl) (fun w _ => rcmpC_any s c w hsk hc) ?_
    by_cases h2 : (cmpC s c : Int) < 0
    · skip
      refine q_dec (p := (cmpC s c : Int) < 0) true (by kernel_rfl) (fun _ => by kernel_rfl) (decide_eq_true (h2)) ?_
      refine q_val (.bool true) (by kernel_rfl) (fun _ => by kernel_rfl) ?_
      refine q_nil ?_
      refine fin_seq ?_
      refine ok_true (by kernel_rfl) ?_
      refine ok_skip ?_
      refine fin_seq ?_
      refine ok_block ?_
      refine ok_region ?_
      refine s_val (.int .i64 (k : Int)) (by kernel_rfl) (fun _ => by kernel_rfl) ?_
      refine s_sum (k := .i64) (((k + 1 : Nat) : Int)) (by kernel_rfl) (fun _ => by kernel_rfl) (IntWalk.i64_in _ (by omega)) ?_
      refine s_val (.int .i64 ((k + 1 : Nat) : Int)) (by kernel_rfl) (fun _ => by kernel_rfl) ?_
      refine s_nil ?_
      refine fin_block ?_
      have hnext : ∀ x ∈ l.take (k + 1), cmpC x c < 0 := by rw [List.take_succ_eq_append_getElem hk, hs]; intro x hx; rcases List.mem_append.1 hx with h | h; exact hrel.2 x h; obtain rfl : x = s := by simpa using h
                                                            assumption
      exact fin_round (m' := l.length - (k + 1)) (by omega) ⟨k + 1, _, ⟨by omega, hnext⟩, rfl, upds_self _ ⟨by kernel_rfl, by kernel_rfl, by kernel_rfl, trivial⟩, rfl⟩
    · skip
      refine q_dec (p := (cmpC s c : Int) < 0) false (by kernel_rfl) (fun _ => by kernel_rfl) (decide_eq_false (h2)) ?_
      refine q_val (.bool false) (by kernel_rfl) (fun _ => by kernel_rfl) ?_
      refine q_nil ?_
      refine fin_seq ?_
      refine ok_false (by kernel_rfl) ?_
      refine ok_exit ?_
      refine fin_seq_exit ?_
      refine fin_round_exit ?_
      refine fin_block_exit ?_
      refine fin_seq ?_
      refine ok_seq ?_
      refine ok_seq ?_
      refine ok_draw (by kernel_rfl) (by kernel_rfl) ?_
      refine q_val (.int .i64 (k : Int)) (by kernel_rfl) (fun _ => by kernel_rfl) ?_
      refine q_val (.slice (some ⟨g, 0, none⟩) l.length cap) (by kernel_rfl) (fun _ => by kernel_rfl) ?_
      refine q_val (.int .i64 (l.length : Int)) (by kernel_rfl) (fun _ => by kernel_rfl) ?_
      refine q_dec (p := (k : Int) < (l.length : Int)) true (by kernel_rfl) (fun _ => by kernel_rfl) (decide_eq_true (h1)) ?_
      refine q_val (.bool true) (by kernel_rfl) (fun _ => by kernel_rfl) ?_
      refine q_val (.slice (some ⟨g, 0, none⟩) l.length cap) (by kernel_rfl) (fun _ => by kernel_rfl) ?_
      refine q_val (.int .i64 (k : Int)) (by kernel_rfl) (fun _ => by kernel_rfl) ?_
      refine q_val (.pointer (some ⟨g, k * 7, none⟩)) (by kernel_rfl) (run_ixsl (b := g) (off := 0) (n := l.length) (c := cap) (k := .i64) (j := (k : Int)) (e := 41) (sz := 7) rfl (by kernel_rfl) (by kernel_rfl) (by kernel_rfl) (by kernel_rfl) (by omega) (by omega) (by show 0 + k * 7 = k * 7; omega)) ?_
      refine q_load 1 ⟨g, cur, 41⟩ (off := k * 7) (cutV s) (by kernel_rfl) rfl (by kernel_rfl) (by kernel_rfl) (read_part cutC_len hcur k 0 (by omega) (by omega) _ (by rw [hs]; kernel_rfl)) ?_
      refine q_load 0 ⟨b1, (cutV c).cells, 41⟩ (off := 0) (cutV c) (by kernel_rfl) rfl (by kernel_rfl) (by kernel_rfl) (by kernel_rfl) ?_
      refine q_call (k := 44) (args := #[cutV s, cutV c]) (.int .i64 (cmpC s c)) (by kernel_rfl) (fun _ => by kernel_rfl) (fun w _ => rcmpC_any s c w hsk hc) ?_
      by_cases h3 : (cmpC s c : Int) = 0
      · skip
        refine q_dec (p := (cmpC s c : Int) = 0) true (by kernel_rfl) (fun _ => by kernel_rfl) (decide_eq_true (h3)) ?_
        refine q_val (.bool true) (by kernel_rfl) (fun _ => by kernel_rfl) ?_
        refine q_nil ?_
        refine fin_seq ?_
        refine ok_true (by kernel_rfl) ?_
        refine ok_seq ?_
        refine ok_region ?_
        refine s_val (.slice (some ⟨g, 0, none⟩) l.length cap) (by kernel_rfl) (fun _ => by kernel_rfl) ?_
        refine s_val (.slice (some ⟨g, 0, none⟩) l.length cap) (by kernel_rfl) (fun _ => by kernel_rfl) ?_
        refine s_nil ?_
        refine fin_seq ?_
        refine ok_ret ?_
        refine fin_seq_ret ?_
        refine fin_ret (.slice (some ⟨g, 0, none⟩) l.length cap) Tryz.results51 (by kernel_rfl) ?_
        refine fun w hO => ⟨_, [⟨g, cur, 41⟩], rfl, ?_, Own.take hO (fun x hx => by simp only [List.mem_singleton] at hx; subst hx; simp) (by simp)⟩
        rw [putL_at k hk hrel.2 (by rw [hs]; assumption)]; exact hv
      · skip
        refine q_dec (p := (cmpC s c : Int) = 0) false (by kernel_rfl) (fun _ => by kernel_rfl) (decide_eq_false (h3)) ?_
        refine q_val (.bool false) (by kernel_rfl) (fun _ => by kernel_rfl) ?_
        refine q_nil ?_
        refine fin_seq ?_
        refine ok_false (by kernel_rfl) ?_
        refine ok_skip ?_
        refine fin_seq ?_
        refine ok_seq ?_
        obtain ⟨i, z, e1, e2, e3, e4, e5⟩ := cut_info
        refine ok_anyhL [⟨b1, (cutV c).cells, 41⟩, ⟨g, cur, 41⟩] (by kernel_rfl) (fun w hO => hO) ?_
        refine hl_take 0 _ (.slice (some ⟨g, 0, none⟩) l.length cap) rfl (by kernel_rfl) (by kernel_rfl) (by kernel_rfl) (pq_seq pq_body) (fun w hO => hO) (by kernel_rfl) (fun _ _ => by kernel_rfl) ?_
        refine hl_take 1 _ (.int .i64 (k : Int)) rfl (by kernel_rfl) (by kernel_rfl) (by kernel_rfl) (pq_seq pq_body) (fun w hO => hO) (by kernel_rfl) (fun _ _ => by kernel_rfl) ?_
        refine hl_take 2 _ (.slice (some ⟨g, 0, none⟩) k cap) rfl (by kernel_rfl) (by kernel_rfl) (by kernel_rfl) (pq_seq pq_body) (fun w hO => hO) (by kernel_rfl) (fun w _ => run_slhi (b := g) (off := 0) (n := l.length) (c := cap) (k := .i64) (j := (k : Int)) (e := 41) (sz := 7) rfl (by kernel_rfl) (by kernel_rfl) (by kernel_rfl) (by kernel_rfl) (by omega) (by omega) w) ?_
        refine hl_load 4 _ 0 ⟨b1, (cutV c).cells, 41⟩ (off := 0) (cutV c) rfl (by kernel_rfl) (by kernel_rfl) (by kernel_rfl) (pq_seq pq_body) (fun w hO => hO) (by kernel_rfl) rfl rfl (by kernel_rfl) (by kernel_rfl) ?_
        refine hl_take 7 _ (.slice (some ⟨g, 0, none⟩) l.length cap) rfl (by kernel_rfl) (by kernel_rfl) (by kernel_rfl) (pq_seq pq_body) (fun w hO => hO) (by kernel_rfl) (fun _ _ => by kernel_rfl) ?_
        refine hl_take 8 _ (.int .i64 (k : Int)) rfl (by kernel_rfl) (by kernel_rfl) (by kernel_rfl) (pq_seq pq_body) (fun w hO => hO) (by kernel_rfl) (fun _ _ => by kernel_rfl) ?_
        refine hl_take 9 _ (.slice (some ⟨g, 0 + (if cap = k then 0 else k * 7), none⟩) (l.length - k) (cap - k)) rfl (by kernel_rfl) (by kernel_rfl) (by kernel_rfl) (pq_seq pq_body) (fun w hO => hO) (by kernel_rfl) (fun w _ => run_sllo (b := g) (off := 0) (n := l.length) (c := cap) (k := .i64) (j := (k : Int)) (e := 41) (sz := 7) rfl (by kernel_rfl) (by kernel_rfl) (by kernel_rfl) (by kernel_rfl) (by omega) (by omega) w) ?_
        refine h_cast (L' := [] ++ [] ++ [⟨b1, (cutV c).cells, 41⟩, ⟨g, cur, 41⟩]) rfl ?_
        refine h_two 3 5 (by kernel_rfl) ?_ ?_
        · skip
          refine hl_append (E := []) (ob := []) (R := [⟨b1, (cutV c).cells, 41⟩, ⟨g, cur, 41⟩]) (sz := 7) _ rfl (by kernel_rfl) rfl Tryz.underlying44 e1 e2 e3 e4 (by kernel_rfl) (Sl.nil 41 7) (a := ⟨g, 0, none⟩) (m := k) (c := cap) (news := (l.take k).flatMap cutC) (by kernel_rfl) (by rw [flat_len cutC_len, List.length_take, Nat.min_eq_left (by omega)]) (fun w hO j u hj => ?_) (cuts_cells _) (by unfold maxLen; omega) (by rw [e5]; omega) (fun ob' w hO => Own.sub ([] ++ ob') hO) (fun va oa hva => ?_)
          · rw [add_off, cell_of_row w g (0 + j) cur 41 _ (hO.held ⟨g, cur, 41⟩ (by simp))]; exact head_cells cutC_len hcur k (by omega) hj
          refine h_one 5 (by kernel_rfl) ?_
          refine hl_lit _ 41 #[.int .i64 c.e, .int .i64 c.v.maj, .int .i64 c.v.min, .int .i64 c.v.pat, .string (mkS c.v.pre), .string (mkS c.v.build), .bool c.aft] rfl (by kernel_rfl) rfl (fun w hO => Own.sub ([] ++ oa) hO) (fun _ => by kernel_rfl) (fun b2 => ?_)
          refine h_cast (L' := [⟨b2, #[.int .i64 c.e, .int .i64 c.v.maj, .int .i64 c.v.min, .int .i64 c.v.pat, .string (mkS c.v.pre), .string (mkS c.v.build), .bool c.aft], 41⟩] ++ oa ++ [⟨b1, (cutV c).cells, 41⟩, ⟨g, cur, 41⟩]) (by simp) ?_
          refine h_one 6 (by kernel_rfl) ?_
          refine hl_append (E := [⟨b2, #[.int .i64 c.e, .int .i64 c.v.maj, .int .i64 c.v.min, .int .i64 c.v.pat, .string (mkS c.v.pre), .string (mkS c.v.build), .bool c.aft], 41⟩]) (ob := oa) (R := [⟨b1, (cutV c).cells, 41⟩, ⟨g, cur, 41⟩]) (sz := 7) _ rfl (by kernel_rfl) rfl Tryz.underlying44 e1 e2 e3 e4 (by kernel_rfl) hva (a := ⟨b2, 0, none⟩) (m := 1) (c := 1) (news := cutC c) (by kernel_rfl) (rfl) (fun w hO j u hj => ?_) (cut_cells _) (by unfold maxLen; omega) (by rw [e5]; omega) (fun ob' w hO => Own.sub ([⟨b2, #[.int .i64 c.e, .int .i64 c.v.maj, .int .i64 c.v.min, .int .i64 c.v.pat, .string (mkS c.v.pre), .string (mkS c.v.build), .bool c.aft], 41⟩] ++ ob') hO) (fun vb oq hvb => ?_)
          · rw [add_off, cell_of_row w b2 (0 + j) (cutC c).toArray 41 _ (hO.held ⟨b2, (cutC c).toArray, 41⟩ (List.mem_append_left _ (List.mem_append_left _ (List.mem_cons_self ..))))]; simpa using hj
          refine h_one 10 (by kernel_rfl) ?_
          refine hl_append (E := [⟨b2, #[.int .i64 c.e, .int .i64 c.v.maj, .int .i64 c.v.min, .int .i64 c.v.pat, .string (mkS c.v.pre), .string (mkS c.v.build), .bool c.aft], 41⟩]) (ob := oq) (R := [⟨b1, (cutV c).cells, 41⟩, ⟨g, cur, 41⟩]) (sz := 7) _ rfl (by kernel_rfl) rfl Tryz.underlying44 e1 e2 e3 e4 (by kernel_rfl) hvb (a := ⟨g, 0 + (if cap = k then 0 else k * 7), none⟩) (m := l.length - k) (c := cap - k) (news := (l.drop k).flatMap cutC) (by kernel_rfl) (by rw [flat_len cutC_len, List.length_drop]) (fun w hO j u hj => ?_) (cuts_cells _) (by unfold maxLen; omega) (by rw [e5]; omega) (fun ob' w hO => Own.sub ([⟨b2, #[.int .i64 c.e, .int .i64 c.v.maj, .int .i64 c.v.min, .int .i64 c.v.pat, .string (mkS c.v.pre), .string (mkS c.v.build), .bool c.aft], 41⟩] ++ ob') hO) (fun vc oc hvc => ?_)
          · rw [add_off, cell_of_row w g _ cur 41 _ (hO.held ⟨g, cur, 41⟩ (by simp))]; exact tail_cells cutC_len hcur k cap (by omega) hcap hj
          refine hl_take 11 _ vc rfl (by kernel_rfl) (by kernel_rfl) (by kernel_rfl) (pq_seq pq_body) (fun w hO => Own.sub ([⟨b2, #[.int .i64 c.e, .int .i64 c.v.maj, .int .i64 c.v.min, .int .i64 c.v.pat, .string (mkS c.v.pre), .string (mkS c.v.build), .bool c.aft], 41⟩] ++ oc) hO) (by kernel_rfl) (fun _ _ => by kernel_rfl) ?_
          refine h_done (by kernel_rfl) ?_
          refine fin_seq ?_
          refine ok_ret ?_
          refine fin_ret (vc) Tryz.results51 (by kernel_rfl) ?_
          refine fun w hO => ⟨vc, oc, rfl, ?_, Own.take hO (fun x hx => List.mem_append_left _ (List.mem_append_right _ hx)) ?_⟩
          · rw [putL_ins k (by omega) hrel.2 (fun h => by first | omega | (rw [hs]; exact ⟨by assumption, by assumption⟩))]
            exact hvc.to (by simp; omega) (by simp)
          · have := hO.apart; rw [List.map_append, List.map_append, List.nodup_append] at this; exact (List.nodup_append.1 this.1).2.1
        · skip
          refine hl_lit _ 41 #[.int .i64 c.e, .int .i64 c.v.maj, .int .i64 c.v.min, .int .i64 c.v.pat, .string (mkS c.v.pre), .string (mkS c.v.build), .bool c.aft] rfl (by kernel_rfl) rfl (fun w hO => hO) (fun _ => by kernel_rfl) (fun b2 => ?_)
          refine h_cast (L' := [⟨b2, #[.int .i64 c.e, .int .i64 c.v.maj, .int .i64 c.v.min, .int .i64 c.v.pat, .string (mkS c.v.pre), .string (mkS c.v.build), .bool c.aft], 41⟩] ++ [] ++ [⟨b1, (cutV c).cells, 41⟩, ⟨g, cur, 41⟩]) rfl ?_
          refine h_one 3 (by kernel_rfl) ?_
          refine hl_append (E := [⟨b2, #[.int .i64 c.e, .int .i64 c.v.maj, .int .i64 c.v.min, .int .i64 c.v.pat, .string (mkS c.v.pre), .string (mkS c.v.build), .bool c.aft], 41⟩]) (ob := []) (R := [⟨b1, (cutV c).cells, 41⟩, ⟨g, cur, 41⟩]) (sz := 7) _ rfl (by kernel_rfl) rfl Tryz.underlying44 e1 e2 e3 e4 (by kernel_rfl) (Sl.nil 41 7) (a := ⟨g, 0, none⟩) (m := k) (c := cap) (news := (l.take k).flatMap cutC) (by kernel_rfl) (by rw [flat_len cutC_len, List.length_take, Nat.min_eq_left (by omega)]) (fun w hO j u hj => ?_) (cuts_cells _) (by unfold maxLen; omega) (by rw [e5]; omega) (fun ob' w hO => Own.sub ([⟨b2, #[.int .i64 c.e, .int .i64 c.v.maj, .int .i64 c.v.min, .int .i64 c.v.pat, .string (mkS c.v.pre), .string (mkS c.v.build), .bool c.aft], 41⟩] ++ ob') hO) (fun va oa hva => ?_)
          · rw [add_off, cell_of_row w g (0 + j) cur 41 _ (hO.held ⟨g, cur, 41⟩ (by simp))]; exact head_cells cutC_len hcur k (by omega) hj
          refine h_one 6 (by kernel_rfl) ?_
          refine hl_append (E := [⟨b2, #[.int .i64 c.e, .int .i64 c.v.maj, .int .i64 c.v.min, .int .i64 c.v.pat, .string (mkS c.v.pre), .string (mkS c.v.build), .bool c.aft], 41⟩]) (ob := oa) (R := [⟨b1, (cutV c).cells, 41⟩, ⟨g, cur, 41⟩]) (sz := 7) _ rfl (by kernel_rfl) rfl Tryz.underlying44 e1 e2 e3 e4 (by kernel_rfl) hva (a := ⟨b2, 0, none⟩) (m := 1) (c := 1) (news := cutC c) (by kernel_rfl) (rfl) (fun w hO j u hj => ?_) (cut_cells _) (by unfold maxLen; omega) (by rw [e5]; omega) (fun ob' w hO => Own.sub ([⟨b2, #[.int .i64 c.e, .int .i64 c.v.maj, .int .i64 c.v.min, .int .i64 c.v.pat, .string (mkS c.v.pre), .string (mkS c.v.build), .bool c.aft], 41⟩] ++ ob') hO) (fun vb oq hvb => ?_)
          · rw [add_off, cell_of_row w b2 (0 + j) (cutC c).toArray 41 _ (hO.held ⟨b2, (cutC c).toArray, 41⟩ (List.mem_append_left _ (List.mem_append_left _ (List.mem_cons_self ..))))]; simpa using hj
          refine h_one 10 (by kernel_rfl) ?_
          refine hl_append (E := [⟨b2, #[.int .i64 c.e, .int .i64 c.v.maj, .int .i64 c.v.min, .int .i64 c.v.pat, .string (mkS c.v.pre), .string (mkS c.v.build), .bool c.aft], 41⟩]) (ob := oq) (R := [⟨b1, (cutV c).cells, 41⟩, ⟨g, cur, 41⟩]) (sz := 7) _ rfl (by kernel_rfl) rfl Tryz.underlying44 e1 e2 e3 e4 (by kernel_rfl) hvb (a := ⟨g, 0 + (if cap = k then 0 else k * 7), none⟩) (m := l.length - k) (c := cap - k) (news := (l.drop k).flatMap cutC) (by kernel_rfl) (by rw [flat_len cutC_len, List.length_drop]) (fun w hO j u hj => ?_) (cuts_cells _) (by unfold maxLen; omega) (by rw [e5]; omega) (fun ob' w hO => Own.sub ([⟨b2, #[.int .i64 c.e, .int .i64 c.v.maj, .int .i64 c.v.min, .int .i64 c.v.pat, .string (mkS c.v.pre), .string (mkS c.v.build), .bool c.aft], 41⟩] ++ ob') hO) (fun vc oc hvc => ?_)
          · rw [add_off, cell_of_row w g _ cur 41 _ (hO.held ⟨g, cur, 41⟩ (by simp))]; exact tail_cells cutC_len hcur k cap (by omega) hcap hj
          refine hl_take 11 _ vc rfl (by kernel_rfl) (by kernel_rfl) (by kernel_rfl) (pq_seq pq_body) (fun w hO => Own.sub ([⟨b2, #[.int .i64 c.e, .int .i64 c.v.maj, .int .i64 c.v.min, .int .i64 c.v.pat, .string (mkS c.v.pre), .string (mkS c.v.build), .bool c.aft], 41⟩] ++ oc) hO) (by kernel_rfl) (fun _ _ => by kernel_rfl) ?_
          refine h_done (by kernel_rfl) ?_
          refine fin_seq ?_
          refine ok_ret ?_
          refine fin_ret (vc) Tryz.results51 (by kernel_rfl) ?_
          refine fun w hO => ⟨vc, oc, rfl, ?_, Own.take hO (fun x hx => List.mem_append_left _ (List.mem_append_right _ hx)) ?_⟩
          · rw [putL_ins k (by omega) hrel.2 (fun h => by first | omega | (rw [hs]; exact ⟨by assumption, by assumption⟩))]
            exact hvc.to (by simp; omega) (by simp)
          · have := hO.apart; rw [List.map_append, List.map_append, List.nodup_append] at this; exact (List.nodup_append.1 this.1).2.1
  · skip
    refine q_dec (p := (k : Int) < (l.length : Int)) false (by kernel_rfl) (fun _ => by kernel_rfl) (decide_eq_false (h1)) ?_
    refine q_val (.bool false) (by kernel_rfl) (fun _ => by kernel_rfl) ?_
    refine q_skip (by kernel_rfl) ?_
    refine q_skip (by kernel_rfl) ?_
    refine q_skip (by kernel_rfl) ?_
    refine q_skip (by kernel_rfl) ?_
    refine q_skip (by kernel_rfl) ?_
    refine q_skip (by kernel_rfl) ?_
    refine q_skip (by kernel_rfl) ?_
    refine q_val (.bool false) (by kernel_rfl) (fun _ => by kernel_rfl) ?_
    refine q_nil ?_
    refine fin_seq ?_
    refine ok_false (by kernel_rfl) ?_
    refine ok_exit ?_
    refine fin_seq_exit ?_
    refine fin_round_exit ?_
    refine fin_block_exit ?_
    refine fin_seq ?_
    refine ok_seq ?_
    refine ok_seq ?_
    refine ok_draw (by kernel_rfl) (by kernel_rfl) ?_
    refine q_val (.int .i64 (k : Int)) (by kernel_rfl) (fun _ => by kernel_rfl) ?_
    refine q_val (.slice (some ⟨g, 0, none⟩) l.length cap) (by kernel_rfl) (fun _ => by kernel_rfl) ?_
    refine q_val (.int .i64 (l.length : Int)) (by kernel_rfl) (fun _ => by kernel_rfl) ?_
    refine q_dec (p := (k : Int) < (l.length : Int)) false (by kernel_rfl) (fun _ => by kernel_rfl) (decide_eq_false (h1)) ?_
    refine q_val (.bool false) (by kernel_rfl) (fun _ => by kernel_rfl) ?_
    refine q_skip (by kernel_rfl) ?_
    refine q_skip (by kernel_rfl) ?_
    refine q_skip (by kernel_rfl) ?_
    refine q_skip (by kernel_rfl) ?_
    refine q_skip (by kernel_rfl) ?_
    refine q_skip (by kernel_rfl) ?_
    refine q_skip (by kernel_rfl) ?_
    refine q_val (.bool false) (by kernel_rfl) (fun _ => by kernel_rfl) ?_
    refine q_nil ?_
    refine fin_seq ?_
    refine ok_false (by kernel_rfl) ?_
    refine ok_skip ?_
    refine fin_seq ?_
    refine ok_seq ?_
    obtain ⟨i, z, e1, e2, e3, e4, e5⟩ := cut_info
    refine ok_anyhL [⟨b1, (cutV c).cells, 41⟩, ⟨g, cur, 41⟩] (by kernel_rfl) (fun w hO => hO) ?_
    refine hl_take 0 _ (.slice (some ⟨g, 0, none⟩) l.length cap) rfl (by kernel_rfl) (by kernel_rfl) (by kernel_rfl) (pq_seq pq_body) (fun w hO => hO) (by kernel_rfl) (fun _ _ => by kernel_rfl) ?_
    refine hl_take 1 _ (.int .i64 (k : Int)) rfl (by kernel_rfl) (by kernel_rfl) (by kernel_rfl) (pq_seq pq_body) (fun w hO => hO) (by kernel_rfl) (fun _ _ => by kernel_rfl) ?_
    refine hl_take 2 _ (.slice (some ⟨g, 0, none⟩) k cap) rfl (by kernel_rfl) (by kernel_rfl) (by kernel_rfl) (pq_seq pq_body) (fun w hO => hO) (by kernel_rfl) (fun w _ => run_slhi (b := g) (off := 0) (n := l.length) (c := cap) (k := .i64) (j := (k : Int)) (e := 41) (sz := 7) rfl (by kernel_rfl) (by kernel_rfl) (by kernel_rfl) (by kernel_rfl) (by omega) (by omega) w) ?_
    refine hl_load 4 _ 0 ⟨b1, (cutV c).cells, 41⟩ (off := 0) (cutV c) rfl (by kernel_rfl) (by kernel_rfl) (by kernel_rfl) (pq_seq pq_body) (fun w hO => hO) (by kernel_rfl) rfl rfl (by kernel_rfl) (by kernel_rfl) ?_
    refine hl_take 7 _ (.slice (some ⟨g, 0, none⟩) l.length cap) rfl (by kernel_rfl) (by kernel_rfl) (by kernel_rfl) (pq_seq pq_body) (fun w hO => hO) (by kernel_rfl) (fun _ _ => by kernel_rfl) ?_
    refine hl_take 8 _ (.int .i64 (k : Int)) rfl (by kernel_rfl) (by kernel_rfl) (by kernel_rfl) (pq_seq pq_body) (fun w hO => hO) (by kernel_rfl) (fun _ _ => by kernel_rfl) ?_
    refine hl_take 9 _ (.slice (some ⟨g, 0 + (if cap = k then 0 else k * 7), none⟩) (l.length - k) (cap - k)) rfl (by kernel_rfl) (by kernel_rfl) (by kernel_rfl) (pq_seq pq_body) (fun w hO => hO) (by kernel_rfl) (fun w _ => run_sllo (b := g) (off := 0) (n := l.length) (c := cap) (k := .i64) (j := (k : Int)) (e := 41) (sz := 7) rfl (by kernel_rfl) (by kernel_rfl) (by kernel_rfl) (by kernel_rfl) (by omega) (by omega) w) ?_
    refine h_cast (L' := [] ++ [] ++ [⟨b1, (cutV c).cells, 41⟩, ⟨g, cur, 41⟩]) rfl ?_
    refine h_two 3 5 (by kernel_rfl) ?_ ?_
    · skip
      refine hl_append (E := []) (ob := []) (R := [⟨b1, (cutV c).cells, 41⟩, ⟨g, cur, 41⟩]) (sz := 7) _ rfl (by kernel_rfl) rfl Tryz.underlying44 e1 e2 e3 e4 (by kernel_rfl) (Sl.nil 41 7) (a := ⟨g, 0, none⟩) (m := k) (c := cap) (news := (l.take k).flatMap cutC) (by kernel_rfl) (by rw [flat_len cutC_len, List.length_take, Nat.min_eq_left (by omega)]) (fun w hO j u hj => ?_) (cuts_cells _) (by unfold maxLen; omega) (by rw [e5]; omega) (fun ob' w hO => Own.sub ([] ++ ob') hO) (fun va oa hva => ?_)
      · rw [add_off, cell_of_row w g (0 + j) cur 41 _ (hO.held ⟨g, cur, 41⟩ (by simp))]; exact head_cells cutC_len hcur k (by omega) hj
      refine h_one 5 (by kernel_rfl) ?_
      refine hl_lit _ 41 #[.int .i64 c.e, .int .i64 c.v.maj, .int .i64 c.v.min, .int .i64 c.v.pat, .string (mkS c.v.pre), .string (mkS c.v.build), .bool c.aft] rfl (by kernel_rfl) rfl (fun w hO => Own.sub ([] ++ oa) hO) (fun _ => by kernel_rfl) (fun b2 => ?_)
      refine h_cast (L' := [⟨b2, #[.int .i64 c.e, .int .i64 c.v.maj, .int .i64 c.v.min, .int .i64 c.v.pat, .string (mkS c.v.pre), .string (mkS c.v.build), .bool c.aft], 41⟩] ++ oa ++ [⟨b1, (cutV c).cells, 41⟩, ⟨g, cur, 41⟩]) (by simp) ?_
      refine h_one 6 (by kernel_rfl) ?_
      refine hl_append (E := [⟨b2, #[.int .i64 c.e, .int .i64 c.v.maj, .int .i64 c.v.min, .int .i64 c.v.pat, .string (mkS c.v.pre), .string (mkS c.v.build), .bool c.aft], 41⟩]) (ob := oa) (R := [⟨b1, (cutV c).cells, 41⟩, ⟨g, cur, 41⟩]) (sz := 7) _ rfl (by kernel_rfl) rfl Tryz.underlying44 e1 e2 e3 e4 (by kernel_rfl) hva (a := ⟨b2, 0, none⟩) (m := 1) (c := 1) (news := cutC c) (by kernel_rfl) (rfl) (fun w hO j u hj => ?_) (cut_cells _) (by unfold maxLen; omega) (by rw [e5]; omega) (fun ob' w hO => Own.sub ([⟨b2, #[.int .i64 c.e, .int .i64 c.v.maj, .int .i64 c.v.min, .int .i64 c.v.pat, .string (mkS c.v.pre), .string (mkS c.v.build), .bool c.aft], 41⟩] ++ ob') hO) (fun vb oq hvb => ?_)
      · rw [add_off, cell_of_row w b2 (0 + j) (cutC c).toArray 41 _ (hO.held ⟨b2, (cutC c).toArray, 41⟩ (List.mem_append_left _ (List.mem_append_left _ (List.mem_cons_self ..))))]; simpa using hj
      refine h_one 10 (by kernel_rfl) ?_
      refine hl_append (E := [⟨b2, #[.int .i64 c.e, .int .i64 c.v.maj, .int .i64 c.v.min, .int .i64 c.v.pat, .string (mkS c.v.pre), .string (mkS c.v.build), .bool c.aft], 41⟩]) (ob := oq) (R := [⟨b1, (cutV c).cells, 41⟩, ⟨g, cur, 41⟩]) (sz := 7) _ rfl (by kernel_rfl) rfl Tryz.underlying44 e1 e2 e3 e4 (by kernel_rfl) hvb (a := ⟨g, 0 + (if cap = k then 0 else k * 7), none⟩) (m := l.length - k) (c := cap - k) (news := (l.drop k).flatMap cutC) (by kernel_rfl) (by rw [flat_len cutC_len, List.length_drop]) (fun w hO j u hj => ?_) (cuts_cells _) (by unfold maxLen; omega) (by rw [e5]; omega) (fun ob' w hO => Own.sub ([⟨b2, #[.int .i64 c.e, .int .i64 c.v.maj, .int .i64 c.v.min, .int .i64 c.v.pat, .string (mkS c.v.pre), .string (mkS c.v.build), .bool c.aft], 41⟩] ++ ob') hO) (fun vc oc hvc => ?_)
      · rw [add_off, cell_of_row w g _ cur 41 _ (hO.held ⟨g, cur, 41⟩ (by simp))]; exact tail_cells cutC_len hcur k cap (by omega) hcap hj
      refine hl_take 11 _ vc rfl (by kernel_rfl) (by kernel_rfl) (by kernel_rfl) (pq_seq pq_body) (fun w hO => Own.sub ([⟨b2, #[.int .i64 c.e, .int .i64 c.v.maj, .int .i64 c.v.min, .int .i64 c.v.pat, .string (mkS c.v.pre), .string (mkS c.v.build), .bool c.aft], 41⟩] ++ oc) hO) (by kernel_rfl) (fun _ _ => by kernel_rfl) ?_
      refine h_done (by kernel_rfl) ?_
      refine fin_seq ?_
      refine ok_ret ?_
      refine fin_ret (vc) Tryz.results51 (by kernel_rfl) ?_
      refine fun w hO => ⟨vc, oc, rfl, ?_, Own.take hO (fun x hx => List.mem_append_left _ (List.mem_append_right _ hx)) ?_⟩
      · rw [putL_ins k (by omega) hrel.2 (fun h => by first | omega | (rw [hs]; exact ⟨by assumption, by assumption⟩))]
        exact hvc.to (by simp; omega) (by simp)
      · have := hO.apart; rw [List.map_append, List.map_append, List.nodup_append] at this; exact (List.nodup_append.1 this.1).2.1
    · skip
      refine hl_lit _ 41 #[.int .i64 c.e, .int .i64 c.v.maj, .int .i64 c.v.min, .int .i64 c.v.pat, .string (mkS c.v.pre), .string (mkS c.v.build), .bool c.aft] rfl (by kernel_rfl) rfl (fun w hO => hO) (fun _ => by kernel_rfl) (fun b2 => ?_)
      refine h_cast (L' := [⟨b2, #[.int .i64 c.e, .int .i64 c.v.maj, .int .i64 c.v.min, .int .i64 c.v.pat, .string (mkS c.v.pre), .string (mkS c.v.build), .bool c.aft], 41⟩] ++ [] ++ [⟨b1, (cutV c).cells, 41⟩, ⟨g, cur, 41⟩]) rfl ?_
      refine h_one 3 (by kernel_rfl) ?_
      refine hl_append (E := [⟨b2, #[.int .i64 c.e, .int .i64 c.v.maj, .int .i64 c.v.min, .int .i64 c.v.pat, .string (mkS c.v.pre), .string (mkS c.v.build), .bool c.aft], 41⟩]) (ob := []) (R := [⟨b1, (cutV c).cells, 41⟩, ⟨g, cur, 41⟩]) (sz := 7) _ rfl (by kernel_rfl) rfl Tryz.underlying44 e1 e2 e3 e4 (by kernel_rfl) (Sl.nil 41 7) (a := ⟨g, 0, none⟩) (m := k) (c := cap) (news := (l.take k).flatMap cutC) (by kernel_rfl) (by rw [flat_len cutC_len, List.length_take, Nat.min_eq_left (by omega)]) (fun w hO j u hj => ?_) (cuts_cells _) (by unfold maxLen; omega) (by rw [e5]; omega) (fun ob' w hO => Own.sub ([⟨b2, #[.int .i64 c.e, .int .i64 c.v.maj, .int .i64 c.v.min, .int .i64 c.v.pat, .string (mkS c.v.pre), .string (mkS c.v.build), .bool c.aft], 41⟩] ++ ob') hO) (fun va oa hva => ?_)
      · rw [add_off, cell_of_row w g (0 + j) cur 41 _ (hO.held ⟨g, cur, 41⟩ (by simp))]; exact head_cells cutC_len hcur k (by omega) hj
      refine h_one 6 (by kernel_rfl) ?_
      refine hl_append (E := [⟨b2, #[.int .i64 c.e, .int .i64 c.v.maj, .int .i64 c.v.min, .int .i64 c.v.pat, .string (mkS c.v.pre), .string (mkS c.v.build), .bool c.aft], 41⟩]) (ob := oa) (R := [⟨b1, (cutV c).cells, 41⟩, ⟨g, cur, 41⟩]) (sz := 7) _ rfl (by kernel_rfl) rfl Tryz.underlying44 e1 e2 e3 e4 (by kernel_rfl) hva (a := ⟨b2, 0, none⟩) (m := 1) (c := 1) (news := cutC c) (by kernel_rfl) (rfl) (fun w hO j u hj => ?_) (cut_cells _) (by unfold maxLen; omega) (by rw [e5]; omega) (fun ob' w hO => Own.sub ([⟨b2, #[.int .i64 c.e, .int .i64 c.v.maj, .int .i64 c.v.min, .int .i64 c.v.pat, .string (mkS c.v.pre), .string (mkS c.v.build), .bool c.aft], 41⟩] ++ ob') hO) (fun vb oq hvb => ?_)
      · rw [add_off, cell_of_row w b2 (0 + j) (cutC c).toArray 41 _ (hO.held ⟨b2, (cutC c).toArray, 41⟩ (List.mem_append_left _ (List.mem_append_left _ (List.mem_cons_self ..))))]; simpa using hj
      refine h_one 10 (by kernel_rfl) ?_
      refine hl_append (E := [⟨b2, #[.int .i64 c.e, .int .i64 c.v.maj, .int .i64 c.v.min, .int .i64 c.v.pat, .string (mkS c.v.pre), .string (mkS c.v.build), .bool c.aft], 41⟩]) (ob := oq) (R := [⟨b1, (cutV c).cells, 41⟩, ⟨g, cur, 41⟩]) (sz := 7) _ rfl (by kernel_rfl) rfl Tryz.underlying44 e1 e2 e3 e4 (by kernel_rfl) hvb (a := ⟨g, 0 + (if cap = k then 0 else k * 7), none⟩) (m := l.length - k) (c := cap - k) (news := (l.drop k).flatMap cutC) (by kernel_rfl) (by rw [flat_len cutC_len, List.length_drop]) (fun w hO j u hj => ?_) (cuts_cells _) (by unfold maxLen; omega) (by rw [e5]; omega) (fun ob' w hO => Own.sub ([⟨b2, #[.int .i64 c.e, .int .i64 c.v.maj, .int .i64 c.v.min, .int .i64 c.v.pat, .string (mkS c.v.pre), .string (mkS c.v.build), .bool c.aft], 41⟩] ++ ob') hO) (fun vc oc hvc => ?_)
      · rw [add_off, cell_of_row w g _ cur 41 _ (hO.held ⟨g, cur, 41⟩ (by simp))]; exact tail_cells cutC_len hcur k cap (by omega) hcap hj
      refine hl_take 11 _ vc rfl (by kernel_rfl) (by kernel_rfl) (by kernel_rfl) (pq_seq pq_body) (fun w hO => Own.sub ([⟨b2, #[.int .i64 c.e, .int .i64 c.v.maj, .int .i64 c.v.min, .int .i64 c.v.pat, .string (mkS c.v.pre), .string (mkS c.v.build), .bool c.aft], 41⟩] ++ oc) hO) (by kernel_rfl) (fun _ _ => by kernel_rfl) ?_
      refine h_done (by kernel_rfl) ?_
      refine fin_seq ?_
      refine ok_ret ?_
      refine fin_ret (vc) Tryz.results51 (by kernel_rfl) ?_
      refine fun w hO => ⟨vc, oc, rfl, ?_, Own.take hO (fun x hx => List.mem_append_left _ (List.mem_append_right _ hx)) ?_⟩
      · rw [putL_ins k (by omega) hrel.2 (fun h => by first | omega | (rw [hs]; exact ⟨by assumption, by assumption⟩))]
        exact hvc.to (by simp; omega) (by simp)
      · have := hO.apart; rw [List.map_append, List.map_append, List.nodup_append] at this; exact (List.nodup_append.1 this.1).2.1
end Go.Proofs.YtmlecnomdamgnaaGreat
end

section
/-
  linchpinref4.cuts: the rising cuts of spans that came in, in a new slice; of all other memory nothing is changed.
-/
namespace Go.Proofs.YtmlecnomdamgnaaGreat
open Go.RowKit
set_option maxRecDepth 100000
set_option linter.unusedVariables false
set_option linter.unusedSimpArgs false
set_option maxHeartbeats 2000000

theorem Own.lend {M : List Nat} {W w : World} {L : List Blk} (h : Own M W w L) : Own (L.map Blk.b) w w L :=
  ⟨rfl, rfl, rfl, Nat.le_refl _, Nat.le_refl _, fun _ _ _ => rfl, h.held, fun x hx => .inr (List.mem_map.2 ⟨x, hx, rfl⟩), h.apart⟩
theorem SlC.form {v : Value} {l : List Cu} {ob : List Blk} (h : SlC v l ob) : ∃ A cap, v = .slice A l.length cap := by
  rcases h.2 with ⟨h1, h2, _⟩ | ⟨g, cap, cur, h1, _⟩
  · exact ⟨none, 0, by rw [h1, h2]⟩
  · exact ⟨_, cap, h1⟩
theorem put_call {M : List Nat} {W w : World} {v : Value} {l : List Cu} {ob : List Blk} (c : Cu) (hO : Own M W w ob) (hv : SlC v l ob) (h0 : 0 < l.length) (hn : l.length ≤ 3000000) (hl : ShortC l) (hc : c.short) :
    Calls Tryz.prog 51 #[v, cutV c] w fun e w' => ∃ v' ob', e = .returned v' ∧ SlC v' (putL c l) ob' ∧ Own M W w' ob' := by
  obtain ⟨A, cap, rfl⟩ := hv.form
  refine (put_any A cap l ob c w hv hO.lend h0 hn hl hc).mono fun e w' ⟨v', ob', h1, h2, h3⟩ => ⟨v', ob', h1, h2, ?_⟩
  have := Own.join (R := []) (by simpa using hO) h3
  simpa using this
theorem putL_len (c : Cu) : ∀ (l : List Cu), (putL c l).length ≤ l.length + 1 ∧ 0 < (putL c l).length
  | [] => ⟨by simp [putL], by simp [putL]⟩
  | d :: r => by
    have ih := putL_len c r
    unfold putL
    split
    · simp; omega
    · split <;> simp
theorem putL_short {c : Cu} (hc : c.short) {l : List Cu} (hl : ShortC l) : ShortC (putL c l) := fun x hx => by
  rcases putL_mem c l x hx with rfl | h
  · exact hc
  · exact hl x h
theorem cuts_step (l : List Sp) (k : Nat) (hk : k < l.length) : cutsL (l.take (k + 1)) = putL l[k].hi (putL l[k].lo (cutsL (l.take k))) := by
  unfold cutsL
  rw [List.take_succ_eq_append_getElem hk, List.foldl_append]; rfl
theorem cuts_size (l : List Sp) (hl : ShortL l) : ∀ (k : Nat), k ≤ l.length → (cutsL (l.take k)).length ≤ 2 + 2 * k ∧ 0 < (cutsL (l.take k)).length ∧ ShortC (cutsL (l.take k))
  | 0, _ => ⟨by simp [cutsL], by simp [cutsL], fun x hx => by
      simp only [cutsL, List.take_zero, List.foldl_nil, List.mem_cons, List.not_mem_nil, or_false] at hx
      rcases hx with rfl | rfl <;> exact ⟨by simp [endC, Ver.zero], by simp [endC, Ver.zero]⟩⟩
  | k + 1, h => by
    have ih := cuts_size l hl k (by omega)
    have hs := hl l[k] (List.getElem_mem _)
    rw [cuts_step l k h]
    have e1 := putL_len l[k].lo (cutsL (l.take k))
    have e2 := putL_len l[k].hi (putL l[k].lo (cutsL (l.take k)))
    exact ⟨by omega, e2.2, putL_short hs.2 (putL_short hs.1 ih.2.2)⟩

theorem rfirst_any (W : World) : Calls Tryz.prog 49 #[] W fun e w' => e = .returned (cutV (endC (-1))) ∧ Below W.heap.size W w' := by
  refine calls_ok (n := 2) Tryz.func49 rfl (by kernel_rfl) (by kernel_rfl) ?_
  refine ok_seq ?_
  refine ok_region ?_
  refine s_alloc_at (.agg #[.int .i64 0, .int .i64 0, .int .i64 0, .int .i64 0, .string ⟨#[]⟩, .string ⟨#[]⟩, .bool false]) (by kernel_rfl) rfl (by kernel_rfl) (fun b1 => ?_)
  refine s_nil ?_
  refine fin_seq ?_
  refine ok_seq ?_
  refine ok_region ?_
  refine s_val (.agg #[.int .i64 (-1), .int .i64 0, .int .i64 0, .int .i64 0, .string ⟨#[]⟩, .string ⟨#[]⟩, .bool false]) (by kernel_rfl) (fun _ => by kernel_rfl) ?_
  refine s_store_at 0 ⟨b1, #[.int .i64 0, .int .i64 0, .int .i64 0, .int .i64 0, .string ⟨#[]⟩, .string ⟨#[]⟩, .bool false], 41⟩ (off := 0) (.agg #[.int .i64 (-1), .int .i64 0, .int .i64 0, .int .i64 0, .string ⟨#[]⟩, .string ⟨#[]⟩, .bool false]) (by kernel_rfl) rfl rfl (by kernel_rfl) (by kernel_rfl) (by kernel_rfl) (by kernel_rfl) (by kernel_rfl) ?_
  refine s_nil ?_
  refine fin_seq ?_
  refine ok_ret ?_
  refine fin_cell 0 ⟨b1, #[.int .i64 (-1), .int .i64 0, .int .i64 0, .int .i64 0, .string ⟨#[]⟩, .string ⟨#[]⟩, .bool false], 41⟩ (off := 0) (.agg #[.int .i64 (-1), .int .i64 0, .int .i64 0, .int .i64 0, .string ⟨#[]⟩, .string ⟨#[]⟩, .bool false]) Tryz.results49 (by kernel_rfl) (by kernel_rfl) (by kernel_rfl) ?_
  exact fun w hO => ⟨rfl, hO.below⟩
theorem rlast_any (W : World) : Calls Tryz.prog 50 #[] W fun e w' => e = .returned (cutV (endC (1))) ∧ Below W.heap.size W w' := by
  refine calls_ok (n := 2) Tryz.func50 rfl (by kernel_rfl) (by kernel_rfl) ?_
  refine ok_seq ?_
  refine ok_region ?_
  refine s_alloc_at (.agg #[.int .i64 0, .int .i64 0, .int .i64 0, .int .i64 0, .string ⟨#[]⟩, .string ⟨#[]⟩, .bool false]) (by kernel_rfl) rfl (by kernel_rfl) (fun b1 => ?_)
  refine s_nil ?_
  refine fin_seq ?_
  refine ok_seq ?_
  refine ok_region ?_
  refine s_val (.agg #[.int .i64 1, .int .i64 0, .int .i64 0, .int .i64 0, .string ⟨#[]⟩, .string ⟨#[]⟩, .bool false]) (by kernel_rfl) (fun _ => by kernel_rfl) ?_
  refine s_store_at 0 ⟨b1, #[.int .i64 0, .int .i64 0, .int .i64 0, .int .i64 0, .string ⟨#[]⟩, .string ⟨#[]⟩, .bool false], 41⟩ (off := 0) (.agg #[.int .i64 1, .int .i64 0, .int .i64 0, .int .i64 0, .string ⟨#[]⟩, .string ⟨#[]⟩, .bool false]) (by kernel_rfl) rfl rfl (by kernel_rfl) (by kernel_rfl) (by kernel_rfl) (by kernel_rfl) (by kernel_rfl) ?_
  refine s_nil ?_
  refine fin_seq ?_
  refine ok_ret ?_
  refine fin_cell 0 ⟨b1, #[.int .i64 1, .int .i64 0, .int .i64 0, .int .i64 0, .string ⟨#[]⟩, .string ⟨#[]⟩, .bool false], 41⟩ (off := 0) (.agg #[.int .i64 1, .int .i64 0, .int .i64 0, .int .i64 0, .string ⟨#[]⟩, .string ⟨#[]⟩, .bool false]) Tryz.results50 (by kernel_rfl) (by kernel_rfl) (by kernel_rfl) ?_
  exact fun w hO => ⟨rfl, hO.below⟩
theorem cuts_any (A : Option Addr) (cap : Nat) (l : List Sp) (W : World) (hv : Reads spanC W W.heap.size A l) (hn : l.length ≤ 1000000) (hl : ShortL l) :
    Calls Tryz.prog 29 #[.slice A l.length cap] W fun e w' => ∃ v' ob', e = .returned v' ∧ SlC v' (cutsL l) ob' ∧ Own [] W w' ob' := by
  refine calls_ok (n := 28) Tryz.func29 rfl (by kernel_rfl) (by kernel_rfl) ?_
  refine ok_seq ?_
  refine ok_region ?_
  refine s_val (.slice none 0 0) (by kernel_rfl) (fun _ => by kernel_rfl) ?_
  refine s_nil ?_
  refine fin_seq ?_
  refine ok_seq ?_
  refine ok_region ?_
  refine s_call (k := 49) (args := #[]) (cutV (endC (-1))) (by kernel_rfl) (fun _ => by kernel_rfl) (fun w _ => rfirst_any w) ?_
  refine s_call (k := 50) (args := #[]) (cutV (endC 1)) (by kernel_rfl) (fun _ => by kernel_rfl) (fun w _ => rlast_any w) ?_
  refine s_lit 41 #[.int .i64 ((endC (-1)).e), .int .i64 ((endC (-1)).v.maj), .int .i64 ((endC (-1)).v.min), .int .i64 ((endC (-1)).v.pat), .string (mkS (endC (-1)).v.pre), .string (mkS (endC (-1)).v.build), .bool ((endC (-1)).aft), .int .i64 ((endC 1).e), .int .i64 ((endC 1).v.maj), .int .i64 ((endC 1).v.min), .int .i64 ((endC 1).v.pat), .string (mkS (endC 1).v.pre), .string (mkS (endC 1).v.build), .bool ((endC 1).aft)] (by kernel_rfl) rfl (fun _ => by kernel_rfl) (fun b1 => ?_)
  refine s_val (.slice (some ⟨b1, 0, none⟩) 2 2) (by kernel_rfl) (fun _ => by kernel_rfl) ?_
  refine s_nil ?_
  refine fin_seq ?_
  refine ok_seq ?_
  refine ok_seq ?_
  refine ok_region ?_
  refine s_val (.int .i64 0) (by kernel_rfl) (fun _ => by kernel_rfl) ?_
  refine s_nil ?_
  refine fin_seq ?_
  refine ok_block ?_
  have hstart : SlC (.slice (some ⟨b1, 0, none⟩) 2 2) (cutsL (l.take 0)) [⟨b1, #[.int .i64 ((endC (-1)).e), .int .i64 ((endC (-1)).v.maj), .int .i64 ((endC (-1)).v.min), .int .i64 ((endC (-1)).v.pat), .string (mkS (endC (-1)).v.pre), .string (mkS (endC (-1)).v.build), .bool ((endC (-1)).aft), .int .i64 ((endC 1).e), .int .i64 ((endC 1).v.maj), .int .i64 ((endC 1).v.min), .int .i64 ((endC 1).v.pat), .string (mkS (endC 1).v.pre), .string (mkS (endC 1).v.build), .bool ((endC 1).aft)], 41⟩] := ⟨rfl, .inr ⟨b1, 2, _, rfl, rfl, Nat.le_refl _, by unfold maxLen; omega, rfl, rfl⟩⟩
  refine ok_cast (L' := [⟨b1, #[.int .i64 ((endC (-1)).e), .int .i64 ((endC (-1)).v.maj), .int .i64 ((endC (-1)).v.min), .int .i64 ((endC (-1)).v.pat), .string (mkS (endC (-1)).v.pre), .string (mkS (endC (-1)).v.build), .bool ((endC (-1)).aft), .int .i64 ((endC 1).e), .int .i64 ((endC 1).v.maj), .int .i64 ((endC 1).v.min), .int .i64 ((endC 1).v.pat), .string (mkS (endC 1).v.pre), .string (mkS (endC 1).v.build), .bool ((endC 1).aft)], 41⟩] ++ []) rfl ?_
  refine ok_loop (fun L f m => ∃ (k : Nat) (v : Value) (ob : List Blk) (j : Nat → Value), (k ≤ l.length ∧ SlC v (cutsL (l.take k)) ob) ∧ L = ob ++ [] ∧ f = upds j [(0, .slice A l.length cap), (3, v), (4, .int .i64 (k : Int))] ∧ m = l.length - k) (l.length - 0) ⟨0, _, [⟨b1, #[.int .i64 ((endC (-1)).e), .int .i64 ((endC (-1)).v.maj), .int .i64 ((endC (-1)).v.min), .int .i64 ((endC (-1)).v.pat), .string (mkS (endC (-1)).v.pre), .string (mkS (endC (-1)).v.build), .bool ((endC (-1)).aft), .int .i64 ((endC 1).e), .int .i64 ((endC 1).v.maj), .int .i64 ((endC 1).v.min), .int .i64 ((endC 1).v.pat), .string (mkS (endC 1).v.pre), .string (mkS (endC 1).v.build), .bool ((endC 1).aft)], 41⟩], _, ⟨Nat.zero_le _, hstart⟩, rfl, upds_self _ ⟨by kernel_rfl, by kernel_rfl, by kernel_rfl, trivial⟩, rfl⟩ ?_
  rintro L f m ⟨k, v, ob, j, hrel, rfl, rfl, rfl⟩
  have hkl := hrel.1
  refine ok_seq ?_
  refine ok_seq ?_
  refine ok_region ?_
  refine s_val (.int .i64 (k : Int)) (by kernel_rfl) (fun _ => by kernel_rfl) ?_
  refine s_val (.slice A l.length cap) (by kernel_rfl) (fun _ => by kernel_rfl) ?_
  refine s_val (.int .i64 (l.length : Int)) (by kernel_rfl) (fun _ => by kernel_rfl) ?_
  by_cases h1 : (k : Int) < (l.length : Int)
  · skip
    have hk : k < l.length := by omega
    obtain ⟨b, off, hA, hlt, hcell⟩ := hv (by omega)
    obtain ⟨s, hs⟩ : ∃ s, l[k] = s := ⟨_, rfl⟩
    have hsk : s.short := hs ▸ hl _ (List.getElem_mem _)
    have hcz := cuts_size l hl k hkl
    refine s_dec (p := (k : Int) < (l.length : Int)) true (by kernel_rfl) (fun _ => by kernel_rfl) (decide_eq_true (h1)) ?_
    refine s_nil ?_
    refine fin_seq ?_
    refine ok_true (by kernel_rfl) ?_
    refine ok_skip ?_
    refine fin_seq ?_
    refine ok_seq ?_
    refine ok_block ?_
    refine ok_cast (L' := ob) (by simp) ?_
    refine ok_anyhL [] (by kernel_rfl) (fun w hO => Own.take hO (by simp) (by simp)) ?_
    refine hl_take 0 _ (v) rfl (by kernel_rfl) (by kernel_rfl) (by kernel_rfl) (pq_block (pq_seq (pq_round (pq_block (pq_seq pq_body))))) (fun w hO => Own.take hO (by simp) (by simp)) (by kernel_rfl) (fun _ _ => by kernel_rfl) ?_
    refine hl_take 1 _ (.slice A l.length cap) rfl (by kernel_rfl) (by kernel_rfl) (by kernel_rfl) (pq_block (pq_seq (pq_round (pq_block (pq_seq pq_body))))) (fun w hO => Own.take hO (by simp) (by simp)) (by kernel_rfl) (fun _ _ => by kernel_rfl) ?_
    refine hl_take 2 _ (.int .i64 (k : Int)) rfl (by kernel_rfl) (by kernel_rfl) (by kernel_rfl) (pq_block (pq_seq (pq_round (pq_block (pq_seq pq_body))))) (fun w hO => Own.take hO (by simp) (by simp)) (by kernel_rfl) (fun _ _ => by kernel_rfl) ?_
    refine hl_take 3 _ (.pointer (some ⟨b, off + k * 14, none⟩)) rfl (by kernel_rfl) (by kernel_rfl) (by kernel_rfl) (pq_block (pq_seq (pq_round (pq_block (pq_seq pq_body))))) (fun w hO => Own.take hO (by simp) (by simp)) (by kernel_rfl) (fun w _ => run_ixA (b := b) (off := off) (c := cap) (n := l.length) (k := .i64) (j := (k : Int)) (e := 43) (sz := 14) rfl (by kernel_rfl) hA (by kernel_rfl) (by kernel_rfl) (by kernel_rfl) (by omega) (by omega) (by show off + k * 14 = off + k * 14; rfl) w) ?_
    refine hl_take 4 _ (.pointer (some ⟨b, off + k * 14 + 0, none⟩)) rfl (by kernel_rfl) (by kernel_rfl) (by kernel_rfl) (pq_block (pq_seq (pq_round (pq_block (pq_seq pq_body))))) (fun w hO => Own.take hO (by simp) (by simp)) (by kernel_rfl) (fun _ _ => by kernel_rfl) ?_
    refine hl_old 5 _ (a := ⟨b, off + k * 14 + 0, none⟩) (cutV s.lo) rfl (by kernel_rfl) (by kernel_rfl) (by kernel_rfl) (pq_block (pq_seq (pq_round (pq_block (pq_seq pq_body))))) (fun w hO => Own.take hO (by simp) (by simp)) (by kernel_rfl) rfl (by kernel_rfl) (fun w hO => elem_load spanC_len (fun j u h => (hO.below.cell (p := ⟨b, off + j, none⟩) hlt).trans (hcell j u h)) k 0 hk (by omega) _ (by rw [hs]; kernel_rfl)) ?_
    refine hl_take 7 _ (.slice A l.length cap) rfl (by kernel_rfl) (by kernel_rfl) (by kernel_rfl) (pq_block (pq_seq (pq_round (pq_block (pq_seq pq_body))))) (fun w hO => Own.take hO (by simp) (by simp)) (by kernel_rfl) (fun _ _ => by kernel_rfl) ?_
    refine hl_take 8 _ (.int .i64 (k : Int)) rfl (by kernel_rfl) (by kernel_rfl) (by kernel_rfl) (pq_block (pq_seq (pq_round (pq_block (pq_seq pq_body))))) (fun w hO => Own.take hO (by simp) (by simp)) (by kernel_rfl) (fun _ _ => by kernel_rfl) ?_
    refine hl_take 9 _ (.pointer (some ⟨b, off + k * 14, none⟩)) rfl (by kernel_rfl) (by kernel_rfl) (by kernel_rfl) (pq_block (pq_seq (pq_round (pq_block (pq_seq pq_body))))) (fun w hO => Own.take hO (by simp) (by simp)) (by kernel_rfl) (fun w _ => run_ixA (b := b) (off := off) (c := cap) (n := l.length) (k := .i64) (j := (k : Int)) (e := 43) (sz := 14) rfl (by kernel_rfl) hA (by kernel_rfl) (by kernel_rfl) (by kernel_rfl) (by omega) (by omega) (by show off + k * 14 = off + k * 14; rfl) w) ?_
    refine hl_take 10 _ (.pointer (some ⟨b, off + k * 14 + 7, none⟩)) rfl (by kernel_rfl) (by kernel_rfl) (by kernel_rfl) (pq_block (pq_seq (pq_round (pq_block (pq_seq pq_body))))) (fun w hO => Own.take hO (by simp) (by simp)) (by kernel_rfl) (fun _ _ => by kernel_rfl) ?_
    refine hl_old 11 _ (a := ⟨b, off + k * 14 + 7, none⟩) (cutV s.hi) rfl (by kernel_rfl) (by kernel_rfl) (by kernel_rfl) (pq_block (pq_seq (pq_round (pq_block (pq_seq pq_body))))) (fun w hO => Own.take hO (by simp) (by simp)) (by kernel_rfl) rfl (by kernel_rfl) (fun w hO => elem_load spanC_len (fun j u h => (hO.below.cell (p := ⟨b, off + j, none⟩) hlt).trans (hcell j u h)) k 7 hk (by omega) _ (by rw [hs]; kernel_rfl)) ?_
    have hp1 := putL_len s.lo (cutsL (l.take k))
    refine h_one 6 (by kernel_rfl) ?_
    refine hl_callx _ (k := 51) (args := #[v, cutV s.lo]) (fun v' L' => SlC v' (putL s.lo (cutsL (l.take k))) L') rfl (by kernel_rfl) (fun _ => by kernel_rfl) (fun w hO => put_call s.lo hO hrel.2 hcz.2.1 (by omega) hcz.2.2 hsk.1) (fun _ _ _ => (fun w hO => Own.take hO (by simp) (by simp))) (fun v1 ob1 hv1 => ?_)
    refine h_one 12 (by kernel_rfl) ?_
    refine hl_callx _ (k := 51) (args := #[v1, cutV s.hi]) (fun v' L' => SlC v' (putL s.hi (putL s.lo (cutsL (l.take k)))) L') rfl (by kernel_rfl) (fun _ => by kernel_rfl) (fun w hO => put_call s.hi hO hv1 hp1.2 (by omega) (putL_short hsk.1 hcz.2.2) hsk.2) (fun _ _ _ => (fun w hO => Own.take hO (by simp) (by simp))) (fun v2 ob2 hv2 => ?_)
    refine hl_take 13 _ (v2) rfl (by kernel_rfl) (by kernel_rfl) (by kernel_rfl) (pq_block (pq_seq (pq_round (pq_block (pq_seq pq_body))))) (fun w hO => Own.take hO (by simp) (by simp)) (by kernel_rfl) (fun _ _ => by kernel_rfl) ?_
    refine h_done (by kernel_rfl) ?_
    refine fin_cast (L' := ob2 ++ []) (by simp) ?_
    refine fin_block ?_
    refine fin_seq ?_
    refine ok_region ?_
    refine s_val (.int .i64 (k : Int)) (by kernel_rfl) (fun _ => by kernel_rfl) ?_
    refine s_sum (k := .i64) (((k + 1 : Nat) : Int)) (by kernel_rfl) (fun _ => by kernel_rfl) (IntWalk.i64_in _ (by omega)) ?_
    refine s_val (.int .i64 ((k + 1 : Nat) : Int)) (by kernel_rfl) (fun _ => by kernel_rfl) ?_
    refine s_nil ?_
    have hnext : SlC v2 (cutsL (l.take (k + 1))) ob2 := by rw [cuts_step l k hk, hs]; exact hv2
    exact fin_round (m' := l.length - (k + 1)) (by omega) ⟨k + 1, v2, ob2, _, ⟨by omega, hnext⟩, rfl, upds_self _ ⟨by kernel_rfl, by kernel_rfl, by kernel_rfl, trivial⟩, rfl⟩
  · skip
    refine s_dec (p := (k : Int) < (l.length : Int)) false (by kernel_rfl) (fun _ => by kernel_rfl) (decide_eq_false (h1)) ?_
    refine s_nil ?_
    refine fin_seq ?_
    refine ok_false (by kernel_rfl) ?_
    refine ok_exit ?_
    refine fin_seq_exit ?_
    refine fin_round_exit ?_
    refine fin_block_exit ?_
    refine fin_seq ?_
    refine ok_seq ?_
    refine ok_region ?_
    refine s_val (v) (by kernel_rfl) (fun _ => by kernel_rfl) ?_
    refine s_val (v) (by kernel_rfl) (fun _ => by kernel_rfl) ?_
    refine s_nil ?_
    refine fin_seq ?_
    refine ok_ret ?_
    refine fin_ret (v) Tryz.results29 (by kernel_rfl) ?_
    exact fun w hO => ⟨v, ob, rfl, by have h := hrel.2; rwa [List.take_of_length_le (by omega)] at h, by simpa using hO⟩
end Go.Proofs.YtmlecnomdamgnaaGreat
end

section
/-
  linchpinref4.Not: the stretches between cuts, a loop that grows a row of its own.
-/
namespace Go.Proofs.YtmlecnomdamgnaaGreat
open Go.RowKit
set_option maxRecDepth 100000
set_option linter.unusedVariables false
set_option linter.unusedSimpArgs false
set_option maxHeartbeats 2000000

section
variable {M : List Nat} {P : Program} {n : Nat} {ops : Array Oper} {W : World} {Q : Exit → Act → World → Prop} {L0 L : List Blk} {f : Nat → Value} {fuel : Nat} {listed : Array Bool} {rest : List Oper} {o : Oper}
theorem s_callo {k : FuncId} {args : Array Value} (R : Value → List Blk → Prop) (hw : want ops n f o = true) (he : ∀ w, (execOp (ev n f) o).run P w = .ok (.enter k args) w)
    (hc : ∀ w, Own M W w L → Calls P k args w fun e w' => ∃ v L', e = .returned v ∧ R v L' ∧ Own M W w' L') (h : ∀ v L', R v L' → Seg M P n ops W Q rest L' (upd f o.dst v)) : Seg M P n ops W Q (o :: rest) L f :=
  s_step hw fun w hO => wp_enter (he w) ((hc w hO).mono fun e w' ⟨v, L', e1, e2, e3⟩ => ⟨v, e1, (h v L' e2).go w' e3⟩)
theorem hl_sum {k : IntKind} (i : Nat) (oi : Oper) (z : Int) (hi : ops[i]? = some oi) (hs : Region.noSelect ops = true) (hf : Region.free .any ops listed i = true) (hr : (Region.ready .any ops listed).contains i = true)
    (hQ : PQ Q) (hsub : ∀ w, Own M W w L → Own M W w L0) (hw : want ops n f oi = true) (hrun : ∀ w, (execOp (ev n f) oi).run P w = .ok (.value (.int k (k.wrap z))) w) (hz : k.wrap z = z)
    (h : HSeg M P n ops W L0 Q fuel (listed.setIfInBounds i true) L (upd f oi.dst (.int k z))) : HSeg M P n ops W L0 Q (fuel + 1) listed L f :=
  hl_take i oi (.int k z) hi hs hf hr hQ hsub hw (fun w _ => by rw [hrun w, hz]) h
theorem Own.perm {w : World} {L' : List Blk} (h : Own M W w L) (hp : L.Perm L') : Own M W w L' :=
  h.take (fun x hx => hp.mem_iff.2 hx) ((hp.map Blk.b).nodup_iff.1 h.apart)
end
theorem SlS.form {v : Value} {l : List Sp} {ob : List Blk} (h : SlS v l ob) : ∃ A cap, v = .slice A l.length cap := by
  rcases h.2 with ⟨h1, h2, _⟩ | ⟨g, cap, cur, h1, _⟩
  · exact ⟨none, 0, by rw [h1, h2]⟩
  · exact ⟨_, cap, h1⟩
theorem grow_call {M : List Nat} {W w : World} {v : Value} {l : List Sp} {x : Blk} {ob : List Blk} (c d : Cu) (hO : Own M W w (x :: ob)) (hv : SlS v l ob) (hn : l.length ≤ 1000000) (hl : ShortL l) (hc : c.short) (hd : d.short) :
    Calls Tryz.prog 31 #[v, cutV c, cutV d] w fun e w' => ∃ v' L', e = .returned v' ∧ (∃ ob', L' = x :: ob' ∧ SlS v' (growL l c d) ob') ∧ Own M W w' L' := by
  obtain ⟨A, cap, rfl⟩ := hv.form
  refine (grow_any A cap l ob c d w hv (Own.lend (hO.sub [x])) hn hl hc hd).mono fun e w' ⟨v', ob', h1, h2, h3⟩ => ⟨v', x :: ob', h1, ⟨ob', rfl, h2⟩, ?_⟩
  have hp : Own M W w (ob ++ [x]) := hO.perm (List.perm_append_comm (l₁ := [x]) (l₂ := ob))
  exact (Own.join hp h3).perm (List.perm_append_comm (l₁ := ob') (l₂ := [x]))
theorem grow_len (l : List Sp) (c d : Cu) : (growL l c d).length ≤ l.length + 1 := by
  unfold growL
  split
  · split
    · first | (simp; done) | (simp; omega)
    · simp
  · simp
theorem grow_short {l : List Sp} {c d : Cu} (hl : ShortL l) (hc : c.short) (hd : d.short) : ShortL (growL l c d) := by
  unfold growL
  split
  · rename_i s hs
    split
    · intro x hx
      rcases List.mem_append.1 hx with h | h
      · exact hl x (List.dropLast_subset _ h)
      · obtain rfl : x = _ := by simpa using h
        exact ⟨(hl s (List.mem_of_getLast? hs)).1, hd⟩
    · intro x hx
      rcases List.mem_append.1 hx with h | h
      · exact hl x h
      · obtain rfl : x = _ := by simpa using h
        exact ⟨hc, hd⟩
  · intro x hx
    obtain rfl : x = _ := by simpa using hx
    exact ⟨hc, hd⟩
theorem build_step (p : Cu → Cu → Bool) (out : List Sp) (cs : List Cu) (k : Nat) (hk : k + 1 < cs.length) {c d : Cu} (hc : cs[k] = c) (hd : cs[k + 1] = d) : buildL p out (cs.drop k) = buildL p (if p c d then growL out c d else out) (cs.drop (k + 1)) := by
  rw [List.drop_eq_getElem_cons (show k < cs.length by omega), List.drop_eq_getElem_cons hk, hc, hd]
  conv => lhs; unfold buildL
theorem build_end (p : Cu → Cu → Bool) (out : List Sp) (cs : List Cu) (k : Nat) (hk : ¬ k + 1 < cs.length) : buildL p out (cs.drop k) = out := by
  have : (cs.drop k).length ≤ 1 := by rw [List.length_drop]; omega
  match h : cs.drop k with
  | [] => rfl
  | [x] => rfl
  | x :: y :: r => rw [h] at this; simp at this
structure Built (p : Cu → Cu → Bool) (cs : List Cu) (k : Nat) (v : Value) (out : List Sp) (ob : List Blk) : Prop where
  le : k ≤ cs.length
  sl : SlS v out ob
  len : out.length ≤ k
  short : ShortL out
  eq : buildL p [] cs = buildL p out (cs.drop k)
theorem Built.start (p : Cu → Cu → Bool) (cs : List Cu) : Built p cs 0 (.slice none 0 0) [] [] := ⟨Nat.zero_le _, Sl.nil _ _, Nat.le_refl _, fun s hs => by simp at hs, rfl⟩
theorem Built.keep {p : Cu → Cu → Bool} {cs : List Cu} {k : Nat} {v : Value} {out : List Sp} {ob : List Blk} (h : Built p cs k v out ob) (hk : k + 1 < cs.length) {c d : Cu} (hc : cs[k] = c) (hd : cs[k + 1] = d) (hp : p c d = false) : Built p cs (k + 1) v out ob :=
  ⟨by omega, h.sl, by have := h.len; omega, h.short, by rw [h.eq, build_step p out cs k hk hc hd, hp]; rfl⟩
theorem Built.grow {p : Cu → Cu → Bool} {cs : List Cu} {k : Nat} {v v2 : Value} {out : List Sp} {ob ob2 : List Blk} (h : Built p cs k v out ob) (hk : k + 1 < cs.length) {c d : Cu} (hc : cs[k] = c) (hd : cs[k + 1] = d) (hp : p c d = true) (hcs : c.short) (hds : d.short) (h2 : SlS v2 (growL out c d) ob2) : Built p cs (k + 1) v2 (growL out c d) ob2 :=
  ⟨by omega, h2, by have := h.len; have := grow_len out c d; omega, grow_short h.short hcs hds, by rw [h.eq, build_step p out cs k hk hc hd, hp]; rfl⟩

theorem rnot_any (A : Option Addr) (cap : Nat) (l : List Sp) (W : World) (hv : Reads spanC W W.heap.size A l) (hn : l.length ≤ 300000) (hl : ShortL l) :
    Calls Tryz.prog 13 #[.slice A l.length cap] W fun e w' => ∃ v' ob', e = .returned v' ∧ SlS v' (if rowMay l then notL l else []) ob' ∧ Own [] W w' ob' := by
  refine calls_ok (n := 42) Tryz.func13 rfl (by kernel_rfl) (by kernel_rfl) ?_
  refine ok_seq ?_
  refine ok_region ?_
  refine s_val (.slice none 0 0) (by kernel_rfl) (fun _ => by kernel_rfl) ?_
  refine s_nil ?_
  refine fin_seq ?_
  refine ok_seq ?_
  refine ok_seq ?_
  refine ok_region ?_
  refine s_val (.slice A l.length cap) (by kernel_rfl) (fun _ => by kernel_rfl) ?_
  refine s_call (k := 27) (args := #[.slice A l.length cap]) (.bool (rowMay l)) (by kernel_rfl) (fun _ => by kernel_rfl) (fun w hO => rrowMay_any A cap l w (hv.on hO.below hO.size) (by omega) hl) ?_
  cases h1 : rowMay l with
  | true =>
    refine s_val (.bool false) (by kernel_rfl) (fun _ => by kernel_rfl) ?_
    refine s_nil ?_
    refine fin_seq ?_
    refine ok_false (by kernel_rfl) ?_
    refine ok_skip ?_
    refine fin_seq ?_
    refine ok_seq ?_
    refine ok_region ?_
    refine s_val (.slice none 0 0) (by kernel_rfl) (fun _ => by kernel_rfl) ?_
    refine s_nil ?_
    refine fin_seq ?_
    refine ok_seq ?_
    refine ok_region ?_
    refine s_val (.slice A l.length cap) (by kernel_rfl) (fun _ => by kernel_rfl) ?_
    refine s_callo (k := 29) (args := #[.slice A l.length cap]) (fun v' L' => SlC v' (cutsL l) L') (by kernel_rfl) (fun _ => by kernel_rfl) (fun w hO => (cuts_any A cap l w (hv.on hO.below hO.size) (by omega) hl).mono fun e w' ⟨v', ob', h1, h2, h3⟩ => ⟨v', ob', h1, h2, by simpa using Own.joinN hO h3⟩) (fun cv oc hcv => ?_)
    have hcz := cuts_size l hl l.length (Nat.le_refl _)
    rw [List.take_length] at hcz
    obtain ⟨cs, hcs⟩ : ∃ cs, cs = cutsL l := ⟨_, rfl⟩
    rw [← hcs] at hcv hcz
    have hcsn := hcz.1
    have hcs0 := hcz.2.1
    have hcsS := hcz.2.2
    obtain ⟨B, ccap, rfl⟩ := hcv.form
    obtain ⟨g, cur, rfl, rfl, hccap, hcmax, hcsz, hcur⟩ := hcv.block hcs0
    refine s_val (.slice (some ⟨g, 0, none⟩) cs.length ccap) (by kernel_rfl) (fun _ => by kernel_rfl) ?_
    refine s_nil ?_
    refine fin_seq ?_
    refine ok_seq ?_
    refine ok_seq ?_
    refine ok_region ?_
    refine s_val (.int .i64 0) (by kernel_rfl) (fun _ => by kernel_rfl) ?_
    refine s_nil ?_
    refine fin_seq ?_
    refine ok_block ?_
    refine ok_loop (fun L f m => ∃ (k : Nat) (v : Value) (out : List Sp) (ob : List Blk) (j : Nat → Value), (Built (fun c d => !inL l c d) cs k v out ob) ∧ L = ⟨g, cur, 41⟩ :: ob ∧ f = upds j [(0, .slice A l.length cap), (3, v), (4, .slice (some ⟨g, 0, none⟩) cs.length ccap), (5, .int .i64 (k : Int))] ∧ m = cs.length - k) (cs.length - 0) ⟨0, _, [], [], _, Built.start _ cs, rfl, upds_self _ ⟨by kernel_rfl, by kernel_rfl, by kernel_rfl, by kernel_rfl, trivial⟩, rfl⟩ ?_
    rintro L f m ⟨k, v, out, ob, j, hrel, rfl, rfl, rfl⟩
    have hkl := hrel.le
    refine ok_seq ?_
    refine ok_seq ?_
    refine ok_region ?_
    refine s_val (.int .i64 (k : Int)) (by kernel_rfl) (fun _ => by kernel_rfl) ?_
    refine s_sum (k := .i64) (((k + 1 : Nat) : Int)) (by kernel_rfl) (fun _ => by kernel_rfl) (IntWalk.i64_in _ (by omega)) ?_
    refine s_val (.slice (some ⟨g, 0, none⟩) cs.length ccap) (by kernel_rfl) (fun _ => by kernel_rfl) ?_
    refine s_val (.int .i64 (cs.length : Int)) (by kernel_rfl) (fun _ => by kernel_rfl) ?_
    by_cases h2 : ((k + 1 : Nat) : Int) < (cs.length : Int)
    · skip
      have hk : k + 1 < cs.length := by omega
      obtain ⟨c, hc⟩ : ∃ c, cs[k] = c := ⟨_, rfl⟩
      obtain ⟨d, hd⟩ : ∃ d, cs[k + 1] = d := ⟨_, rfl⟩
      have hcS : c.short := hc ▸ hcsS _ (List.getElem_mem _)
      have hdS : d.short := hd ▸ hcsS _ (List.getElem_mem _)
      have hlen := hrel.len
      refine s_dec (p := ((k + 1 : Nat) : Int) < (cs.length : Int)) true (by kernel_rfl) (fun _ => by kernel_rfl) (decide_eq_true (h2)) ?_
      refine s_nil ?_
      refine fin_seq ?_
      refine ok_true (by kernel_rfl) ?_
      refine ok_skip ?_
      refine fin_seq ?_
      refine ok_seq ?_
      refine ok_block ?_
      refine ok_seq ?_
      refine ok_draw (by kernel_rfl) (by kernel_rfl) ?_
      refine q_val (.slice A l.length cap) (by kernel_rfl) (fun _ => by kernel_rfl) ?_
      refine q_val (.slice (some ⟨g, 0, none⟩) cs.length ccap) (by kernel_rfl) (fun _ => by kernel_rfl) ?_
      refine q_val (.int .i64 (k : Int)) (by kernel_rfl) (fun _ => by kernel_rfl) ?_
      refine q_val (.pointer (some ⟨g, k * 7, none⟩)) (by kernel_rfl) (run_ixsl (b := g) (off := 0) (n := cs.length) (c := ccap) (k := .i64) (j := (k : Int)) (e := 41) (sz := 7) rfl (by kernel_rfl) (by kernel_rfl) (by kernel_rfl) (by kernel_rfl) (by omega) (by omega) (by show 0 + k * 7 = k * 7; omega)) ?_
      refine q_load 0 ⟨g, cur, 41⟩ (off := k * 7) (cutV c) (by kernel_rfl) rfl (by kernel_rfl) (by kernel_rfl) (read_part cutC_len hcur k 0 (by omega) (by omega) _ (by rw [hc]; kernel_rfl)) ?_
      refine q_val (.slice (some ⟨g, 0, none⟩) cs.length ccap) (by kernel_rfl) (fun _ => by kernel_rfl) ?_
      refine q_val (.int .i64 (k : Int)) (by kernel_rfl) (fun _ => by kernel_rfl) ?_
      refine q_sum (k := .i64) (((k + 1 : Nat) : Int)) (by kernel_rfl) (fun _ => by kernel_rfl) (IntWalk.i64_in _ (by omega)) ?_
      refine q_val (.pointer (some ⟨g, (k + 1) * 7, none⟩)) (by kernel_rfl) (run_ixsl (b := g) (off := 0) (n := cs.length) (c := ccap) (k := .i64) (j := ((k + 1 : Nat) : Int)) (e := 41) (sz := 7) rfl (by kernel_rfl) (by kernel_rfl) (by kernel_rfl) (by kernel_rfl) (by omega) (by omega) (by show 0 + (k + 1) * 7 = (k + 1) * 7; omega)) ?_
      refine q_load 0 ⟨g, cur, 41⟩ (off := (k + 1) * 7) (cutV d) (by kernel_rfl) rfl (by kernel_rfl) (by kernel_rfl) (read_part cutC_len hcur (k + 1) 0 (by omega) (by omega) _ (by rw [hd]; kernel_rfl)) ?_
      refine q_call (k := 30) (args := #[.slice A l.length cap, cutV c, cutV d]) (.bool (inL l c d)) (by kernel_rfl) (fun _ => by kernel_rfl) (fun w hO => in_any A cap l c d w (hv.on hO.below hO.size) (by omega) hl hcS hdS) ?_
      cases h3 : inL l c d with
      | true =>
        refine q_val (.bool false) (by kernel_rfl) (fun _ => by kernel_rfl) ?_
        refine q_nil ?_
        refine fin_seq ?_
        refine ok_false (by kernel_rfl) ?_
        refine ok_skip ?_
        refine fin_block ?_
        refine fin_seq ?_
        refine ok_region ?_
        refine s_val (.int .i64 (k : Int)) (by kernel_rfl) (fun _ => by kernel_rfl) ?_
        refine s_sum (k := .i64) (((k + 1 : Nat) : Int)) (by kernel_rfl) (fun _ => by kernel_rfl) (IntWalk.i64_in _ (by omega)) ?_
        refine s_val (.int .i64 ((k + 1 : Nat) : Int)) (by kernel_rfl) (fun _ => by kernel_rfl) ?_
        refine s_nil ?_
        exact fin_round (m' := cs.length - (k + 1)) (by omega) ⟨k + 1, v, out, ob, _, hrel.keep hk hc hd (by simp [h1, h2, h3]), rfl, upds_self _ ⟨by kernel_rfl, by kernel_rfl, by kernel_rfl, by kernel_rfl, trivial⟩, rfl⟩
      | false =>
        refine q_val (.bool true) (by kernel_rfl) (fun _ => by kernel_rfl) ?_
        refine q_nil ?_
        refine fin_seq ?_
        refine ok_true (by kernel_rfl) ?_
        refine ok_anyhL [⟨g, cur, 41⟩] (by kernel_rfl) (fun w hO => Own.take hO (by simp) (by simp)) ?_
        refine hl_take 0 _ (v) rfl (by kernel_rfl) (by kernel_rfl) (by kernel_rfl) (pq_block (pq_seq (pq_round (pq_block (pq_seq pq_body))))) (fun w hO => Own.take hO (by simp) (by simp)) (by kernel_rfl) (fun _ _ => by kernel_rfl) ?_
        refine hl_take 1 _ (.slice (some ⟨g, 0, none⟩) cs.length ccap) rfl (by kernel_rfl) (by kernel_rfl) (by kernel_rfl) (pq_block (pq_seq (pq_round (pq_block (pq_seq pq_body))))) (fun w hO => Own.take hO (by simp) (by simp)) (by kernel_rfl) (fun _ _ => by kernel_rfl) ?_
        refine hl_take 2 _ (.int .i64 (k : Int)) rfl (by kernel_rfl) (by kernel_rfl) (by kernel_rfl) (pq_block (pq_seq (pq_round (pq_block (pq_seq pq_body))))) (fun w hO => Own.take hO (by simp) (by simp)) (by kernel_rfl) (fun _ _ => by kernel_rfl) ?_
        refine hl_take 3 _ (.pointer (some ⟨g, k * 7, none⟩)) rfl (by kernel_rfl) (by kernel_rfl) (by kernel_rfl) (pq_block (pq_seq (pq_round (pq_block (pq_seq pq_body))))) (fun w hO => Own.take hO (by simp) (by simp)) (by kernel_rfl) (fun w _ => run_ixsl (b := g) (off := 0) (n := cs.length) (c := ccap) (k := .i64) (j := (k : Int)) (e := 41) (sz := 7) rfl (by kernel_rfl) (by kernel_rfl) (by kernel_rfl) (by kernel_rfl) (by omega) (by omega) (by show 0 + k * 7 = k * 7; omega) w) ?_
        refine hl_load 4 _ 0 ⟨g, cur, 41⟩ (off := k * 7) (cutV c) rfl (by kernel_rfl) (by kernel_rfl) (by kernel_rfl) (pq_block (pq_seq (pq_round (pq_block (pq_seq pq_body))))) (fun w hO => Own.take hO (by simp) (by simp)) (by kernel_rfl) rfl rfl (by kernel_rfl) (read_part cutC_len hcur k 0 (by omega) (by omega) _ (by rw [hc]; kernel_rfl)) ?_
        refine hl_take 5 _ (.slice (some ⟨g, 0, none⟩) cs.length ccap) rfl (by kernel_rfl) (by kernel_rfl) (by kernel_rfl) (pq_block (pq_seq (pq_round (pq_block (pq_seq pq_body))))) (fun w hO => Own.take hO (by simp) (by simp)) (by kernel_rfl) (fun _ _ => by kernel_rfl) ?_
        refine hl_take 6 _ (.int .i64 (k : Int)) rfl (by kernel_rfl) (by kernel_rfl) (by kernel_rfl) (pq_block (pq_seq (pq_round (pq_block (pq_seq pq_body))))) (fun w hO => Own.take hO (by simp) (by simp)) (by kernel_rfl) (fun _ _ => by kernel_rfl) ?_
        refine hl_sum (k := .i64) 7 _ ((k + 1 : Nat) : Int) rfl (by kernel_rfl) (by kernel_rfl) (by kernel_rfl) (pq_block (pq_seq (pq_round (pq_block (pq_seq pq_body))))) (fun w hO => Own.take hO (by simp) (by simp)) (by kernel_rfl) (fun _ => by kernel_rfl) (IntWalk.i64_in _ (by omega)) ?_
        refine hl_take 8 _ (.pointer (some ⟨g, (k + 1) * 7, none⟩)) rfl (by kernel_rfl) (by kernel_rfl) (by kernel_rfl) (pq_block (pq_seq (pq_round (pq_block (pq_seq pq_body))))) (fun w hO => Own.take hO (by simp) (by simp)) (by kernel_rfl) (fun w _ => run_ixsl (b := g) (off := 0) (n := cs.length) (c := ccap) (k := .i64) (j := ((k + 1 : Nat) : Int)) (e := 41) (sz := 7) rfl (by kernel_rfl) (by kernel_rfl) (by kernel_rfl) (by kernel_rfl) (by omega) (by omega) (by show 0 + (k + 1) * 7 = (k + 1) * 7; omega) w) ?_
        refine hl_load 9 _ 0 ⟨g, cur, 41⟩ (off := (k + 1) * 7) (cutV d) rfl (by kernel_rfl) (by kernel_rfl) (by kernel_rfl) (pq_block (pq_seq (pq_round (pq_block (pq_seq pq_body))))) (fun w hO => Own.take hO (by simp) (by simp)) (by kernel_rfl) rfl rfl (by kernel_rfl) (read_part cutC_len hcur (k + 1) 0 (by omega) (by omega) _ (by rw [hd]; kernel_rfl)) ?_
        refine h_one 10 (by kernel_rfl) ?_
        refine hl_callx _ (k := 31) (args := #[v, cutV c, cutV d]) (fun v' L' => ∃ ob', L' = ⟨g, cur, 41⟩ :: ob' ∧ SlS v' (growL out c d) ob') rfl (by kernel_rfl) (fun _ => by kernel_rfl) (fun w hO => grow_call c d hO hrel.sl (by omega) hrel.short hcS hdS) (fun v' L' ⟨ob', e, _⟩ => by subst e; exact (fun w hO => Own.take hO (by simp) (by simp))) (fun v2 L2 hv2 => ?_)
        obtain ⟨ob2, rfl, hs2⟩ := hv2
        refine hl_take 11 _ (v2) rfl (by kernel_rfl) (by kernel_rfl) (by kernel_rfl) (pq_block (pq_seq (pq_round (pq_block (pq_seq pq_body))))) (fun w hO => Own.take hO (by simp) (by simp)) (by kernel_rfl) (fun _ _ => by kernel_rfl) ?_
        refine h_done (by kernel_rfl) ?_
        refine fin_block ?_
        refine fin_seq ?_
        refine ok_region ?_
        refine s_val (.int .i64 (k : Int)) (by kernel_rfl) (fun _ => by kernel_rfl) ?_
        refine s_sum (k := .i64) (((k + 1 : Nat) : Int)) (by kernel_rfl) (fun _ => by kernel_rfl) (IntWalk.i64_in _ (by omega)) ?_
        refine s_val (.int .i64 ((k + 1 : Nat) : Int)) (by kernel_rfl) (fun _ => by kernel_rfl) ?_
        refine s_nil ?_
        exact fin_round (m' := cs.length - (k + 1)) (by omega) ⟨k + 1, v2, growL out c d, ob2, _, hrel.grow hk hc hd (by simp [h1, h2, h3]) hcS hdS hs2, rfl, upds_self _ ⟨by kernel_rfl, by kernel_rfl, by kernel_rfl, by kernel_rfl, trivial⟩, rfl⟩
    · skip
      refine s_dec (p := ((k + 1 : Nat) : Int) < (cs.length : Int)) false (by kernel_rfl) (fun _ => by kernel_rfl) (decide_eq_false (h2)) ?_
      refine s_nil ?_
      refine fin_seq ?_
      refine ok_false (by kernel_rfl) ?_
      refine ok_exit ?_
      refine fin_seq_exit ?_
      refine fin_round_exit ?_
      refine fin_block_exit ?_
      refine fin_seq ?_
      refine ok_seq ?_
      refine ok_region ?_
      refine s_val (v) (by kernel_rfl) (fun _ => by kernel_rfl) ?_
      refine s_val (v) (by kernel_rfl) (fun _ => by kernel_rfl) ?_
      refine s_nil ?_
      refine fin_seq ?_
      refine ok_ret ?_
      refine fin_ret (v) Tryz.results13 (by kernel_rfl) ?_
      exact fun w hO => ⟨v, ob, rfl, by rw [if_pos rfl, show notL l = out from by unfold notL; rw [← hcs, hrel.eq, build_end _ _ _ _ (by omega)]]; exact hrel.sl, hO.sub [_]⟩
  | false =>
    refine s_val (.bool true) (by kernel_rfl) (fun _ => by kernel_rfl) ?_
    refine s_nil ?_
    refine fin_seq ?_
    refine ok_true (by kernel_rfl) ?_
    refine ok_seq ?_
    refine ok_region ?_
    refine s_val (.slice none 0 0) (by kernel_rfl) (fun _ => by kernel_rfl) ?_
    refine s_nil ?_
    refine fin_seq ?_
    refine ok_ret ?_
    refine fin_seq_ret ?_
    refine fin_ret (.slice none 0 0) Tryz.results13 (by kernel_rfl) ?_
    exact fun w hO => ⟨_, [], rfl, by rw [if_neg (by decide)]; exact Sl.nil _ _, by simpa using hO⟩
end Go.Proofs.YtmlecnomdamgnaaGreat
end

section
/-
  linchpinref4.Make: a row out of any spans.
-/
namespace Go.Proofs.YtmlecnomdamgnaaGreat
open Go.RowKit
set_option maxRecDepth 100000
set_option linter.unusedVariables false
set_option linter.unusedSimpArgs false
set_option maxHeartbeats 2000000

def allMay (l : List Sp) : Bool := l.all (·.may)
theorem allMay_mem {l : List Sp} : allMay l = true ↔ ∀ s ∈ l, s.may = true := by unfold allMay; rw [List.all_eq_true]
theorem allMay_take (l : List Sp) (k : Nat) (hk : k < l.length) (h : allMay (l.take k) = true) (hs : l[k].may = true) : allMay (l.take (k + 1)) = true := by
  rw [allMay_mem] at h ⊢
  rw [List.take_succ_eq_append_getElem hk]
  intro x hx
  rcases List.mem_append.1 hx with hx | hx
  · exact h x hx
  · obtain rfl : x = l[k] := by simpa using hx
    exact hs
theorem allMay_not (l : List Sp) (k : Nat) (hk : k < l.length) (hs : l[k].may = false) : allMay l = false := by
  cases h : allMay l with
  | false => rfl
  | true => rw [allMay_mem.1 h _ (List.getElem_mem hk)] at hs; cases hs

theorem rmake_any (A : Option Addr) (cap : Nat) (l : List Sp) (W : World) (hv : Reads spanC W W.heap.size A l) (hn : l.length ≤ 300000) (hl : ShortL l) :
    Calls Tryz.prog 28 #[.slice A l.length cap] W fun e w' => ∃ v' ob', e = .returned (.tuple #[v', .bool (allMay l)]) ∧ SlS v' (if allMay l then makeL l else []) ob' ∧ Own [] W w' ob' := by
  refine calls_ok (n := 52) Tryz.func28 rfl (by kernel_rfl) (by kernel_rfl) ?_
  refine ok_seq ?_
  refine ok_region ?_
  refine s_val (.slice none 0 0) (by kernel_rfl) (fun _ => by kernel_rfl) ?_
  refine s_val (.bool false) (by kernel_rfl) (fun _ => by kernel_rfl) ?_
  refine s_nil ?_
  refine fin_seq ?_
  refine ok_seq ?_
  refine ok_seq ?_
  refine ok_region ?_
  refine s_val (.int .i64 0) (by kernel_rfl) (fun _ => by kernel_rfl) ?_
  refine s_nil ?_
  refine fin_seq ?_
  refine ok_block ?_
  refine ok_loop (fun L f m => ∃ (k : Nat) (j : Nat → Value), (k ≤ l.length ∧ allMay (l.take k) = true) ∧ L = [] ∧ f = upds j [(0, .slice A l.length cap), (4, .int .i64 (k : Int))] ∧ m = l.length - k) (l.length - 0) ⟨0, _, ⟨Nat.zero_le _, by rw [List.take_zero]; rfl⟩, rfl, upds_self _ ⟨by kernel_rfl, by kernel_rfl, trivial⟩, rfl⟩ ?_
  rintro L f m ⟨k, j, hrel, rfl, rfl, rfl⟩
  have hkl := hrel.1
  refine ok_seq ?_
  refine ok_seq ?_
  refine ok_region ?_
  refine s_val (.int .i64 (k : Int)) (by kernel_rfl) (fun _ => by kernel_rfl) ?_
  refine s_val (.slice A l.length cap) (by kernel_rfl) (fun _ => by kernel_rfl) ?_
  refine s_val (.int .i64 (l.length : Int)) (by kernel_rfl) (fun _ => by kernel_rfl) ?_
  by_cases h1 : (k : Int) < (l.length : Int)
  · skip
    have hk : k < l.length := by omega
    obtain ⟨b, off, hA, hlt, hcell⟩ := hv (by omega)
    obtain ⟨s, hs⟩ : ∃ s, l[k] = s := ⟨_, rfl⟩
    have hsk : s.short := hs ▸ hl _ (List.getElem_mem _)
    refine s_dec (p := (k : Int) < (l.length : Int)) true (by kernel_rfl) (fun _ => by kernel_rfl) (decide_eq_true (h1)) ?_
    refine s_nil ?_
    refine fin_seq ?_
    refine ok_true (by kernel_rfl) ?_
    refine ok_skip ?_
    refine fin_seq ?_
    refine ok_seq ?_
    refine ok_block ?_
    refine ok_seq ?_
    refine ok_region ?_
    refine s_val (.slice A l.length cap) (by kernel_rfl) (fun _ => by kernel_rfl) ?_
    refine s_val (.int .i64 (k : Int)) (by kernel_rfl) (fun _ => by kernel_rfl) ?_
    refine s_val (.pointer (some ⟨b, off + k * 14, none⟩)) (by kernel_rfl) (run_ixA (b := b) (off := off) (c := cap) (n := l.length) (k := .i64) (j := (k : Int)) (e := 43) (sz := 14) rfl (by kernel_rfl) hA (by kernel_rfl) (by kernel_rfl) (by kernel_rfl) (by omega) (by omega) (by omega)) ?_
    refine s_old (spanV s) (a := ⟨b, off + k * 14, none⟩) (by kernel_rfl) rfl (by kernel_rfl) (fun w hO => elem_load spanC_len (fun j u h => (hO.below.cell (p := ⟨b, off + j, none⟩) hlt).trans (hcell j u h)) k 0 hk (by omega) _ (by rw [hs]; kernel_rfl)) ?_
    refine s_call (k := 45) (args := #[spanV s]) (.bool s.may) (by kernel_rfl) (fun _ => by kernel_rfl) (fun w _ => rspanMay_any s w hsk) ?_
    cases h2 : s.may with
    | true =>
      refine s_val (.bool false) (by kernel_rfl) (fun _ => by kernel_rfl) ?_
      refine s_nil ?_
      refine fin_seq ?_
      refine ok_false (by kernel_rfl) ?_
      refine ok_skip ?_
      refine fin_block ?_
      refine fin_seq ?_
      refine ok_region ?_
      refine s_val (.int .i64 (k : Int)) (by kernel_rfl) (fun _ => by kernel_rfl) ?_
      refine s_sum (k := .i64) (((k + 1 : Nat) : Int)) (by kernel_rfl) (fun _ => by kernel_rfl) (IntWalk.i64_in _ (by omega)) ?_
      refine s_val (.int .i64 ((k + 1 : Nat) : Int)) (by kernel_rfl) (fun _ => by kernel_rfl) ?_
      refine s_nil ?_
      have hnext : allMay (l.take (k + 1)) = true := allMay_take l k hk hrel.2 (by rw [hs]; assumption)
      exact fin_round (m' := l.length - (k + 1)) (by omega) ⟨k + 1, _, ⟨by omega, hnext⟩, rfl, upds_self _ ⟨by kernel_rfl, by kernel_rfl, trivial⟩, rfl⟩
    | false =>
      refine s_val (.bool true) (by kernel_rfl) (fun _ => by kernel_rfl) ?_
      refine s_nil ?_
      refine fin_seq ?_
      refine ok_true (by kernel_rfl) ?_
      refine ok_seq ?_
      refine ok_region ?_
      refine s_val (.slice none 0 0) (by kernel_rfl) (fun _ => by kernel_rfl) ?_
      refine s_val (.bool false) (by kernel_rfl) (fun _ => by kernel_rfl) ?_
      refine s_nil ?_
      refine fin_seq ?_
      refine ok_ret ?_
      refine fin_block_ret ?_
      refine fin_seq_ret ?_
      refine fin_round_ret ?_
      refine fin_block_ret ?_
      refine fin_seq_ret ?_
      refine fin_ret2 (.slice none 0 0) (.bool false) Tryz.results28 (by kernel_rfl) (by kernel_rfl) ?_
      exact fun w hO => ⟨_, [], by rw [allMay_not l k hk (by rw [hs]; assumption)], by rw [allMay_not l k hk (by rw [hs]; assumption), if_neg (by decide)]; exact Sl.nil _ _, by simpa using hO⟩
  · skip
    have hall : allMay l = true := by have h := hrel.2; rwa [List.take_of_length_le (by omega)] at h
    refine s_dec (p := (k : Int) < (l.length : Int)) false (by kernel_rfl) (fun _ => by kernel_rfl) (decide_eq_false (h1)) ?_
    refine s_nil ?_
    refine fin_seq ?_
    refine ok_false (by kernel_rfl) ?_
    refine ok_exit ?_
    refine fin_seq_exit ?_
    refine fin_round_exit ?_
    refine fin_block_exit ?_
    refine fin_seq ?_
    refine ok_seq ?_
    refine ok_region ?_
    refine s_val (.slice none 0 0) (by kernel_rfl) (fun _ => by kernel_rfl) ?_
    refine s_nil ?_
    refine fin_seq ?_
    refine ok_seq ?_
    refine ok_region ?_
    refine s_val (.slice A l.length cap) (by kernel_rfl) (fun _ => by kernel_rfl) ?_
    refine s_callo (k := 29) (args := #[.slice A l.length cap]) (fun v' L' => SlC v' (cutsL l) L') (by kernel_rfl) (fun _ => by kernel_rfl) (fun w hO => (cuts_any A cap l w (hv.on hO.below hO.size) (by omega) hl).mono fun e w' ⟨v', ob', h1, h2, h3⟩ => ⟨v', ob', h1, h2, by simpa using Own.joinN hO h3⟩) (fun cv oc hcv => ?_)
    have hcz := cuts_size l hl l.length (Nat.le_refl _)
    rw [List.take_length] at hcz
    obtain ⟨cs, hcs⟩ : ∃ cs, cs = cutsL l := ⟨_, rfl⟩
    rw [← hcs] at hcv hcz
    have hcsn := hcz.1
    have hcs0 := hcz.2.1
    have hcsS := hcz.2.2
    obtain ⟨B, ccap, rfl⟩ := hcv.form
    obtain ⟨g, cur, rfl, rfl, hccap, hcmax, hcsz, hcur⟩ := hcv.block hcs0
    refine s_val (.slice (some ⟨g, 0, none⟩) cs.length ccap) (by kernel_rfl) (fun _ => by kernel_rfl) ?_
    refine s_nil ?_
    refine fin_seq ?_
    refine ok_seq ?_
    refine ok_seq ?_
    refine ok_region ?_
    refine s_val (.int .i64 0) (by kernel_rfl) (fun _ => by kernel_rfl) ?_
    refine s_nil ?_
    refine fin_seq ?_
    refine ok_block ?_
    refine ok_loop (fun L f m => ∃ (k : Nat) (v : Value) (out : List Sp) (ob : List Blk) (j : Nat → Value), (Built (inL l) cs k v out ob) ∧ L = ⟨g, cur, 41⟩ :: ob ∧ f = upds j [(0, .slice A l.length cap), (5, v), (6, .slice (some ⟨g, 0, none⟩) cs.length ccap), (7, .int .i64 (k : Int))] ∧ m = cs.length - k) (cs.length - 0) ⟨0, _, [], [], _, Built.start _ cs, rfl, upds_self _ ⟨by kernel_rfl, by kernel_rfl, by kernel_rfl, by kernel_rfl, trivial⟩, rfl⟩ ?_
    rintro L f m ⟨k, v, out, ob, j, hrel, rfl, rfl, rfl⟩
    have hkl := hrel.le
    refine ok_seq ?_
    refine ok_seq ?_
    refine ok_region ?_
    refine s_val (.int .i64 (k : Int)) (by kernel_rfl) (fun _ => by kernel_rfl) ?_
    refine s_sum (k := .i64) (((k + 1 : Nat) : Int)) (by kernel_rfl) (fun _ => by kernel_rfl) (IntWalk.i64_in _ (by omega)) ?_
    refine s_val (.slice (some ⟨g, 0, none⟩) cs.length ccap) (by kernel_rfl) (fun _ => by kernel_rfl) ?_
    refine s_val (.int .i64 (cs.length : Int)) (by kernel_rfl) (fun _ => by kernel_rfl) ?_
    by_cases h3 : ((k + 1 : Nat) : Int) < (cs.length : Int)
    · skip
      have hk : k + 1 < cs.length := by omega
      obtain ⟨c, hc⟩ : ∃ c, cs[k] = c := ⟨_, rfl⟩
      obtain ⟨d, hd⟩ : ∃ d, cs[k + 1] = d := ⟨_, rfl⟩
      have hcS : c.short := hc ▸ hcsS _ (List.getElem_mem _)
      have hdS : d.short := hd ▸ hcsS _ (List.getElem_mem _)
      have hlen := hrel.len
      refine s_dec (p := ((k + 1 : Nat) : Int) < (cs.length : Int)) true (by kernel_rfl) (fun _ => by kernel_rfl) (decide_eq_true (h3)) ?_
      refine s_nil ?_
      refine fin_seq ?_
      refine ok_true (by kernel_rfl) ?_
      refine ok_skip ?_
      refine fin_seq ?_
      refine ok_seq ?_
      refine ok_block ?_
      refine ok_seq ?_
      refine ok_draw (by kernel_rfl) (by kernel_rfl) ?_
      refine q_val (.slice A l.length cap) (by kernel_rfl) (fun _ => by kernel_rfl) ?_
      refine q_val (.slice (some ⟨g, 0, none⟩) cs.length ccap) (by kernel_rfl) (fun _ => by kernel_rfl) ?_
      refine q_val (.int .i64 (k : Int)) (by kernel_rfl) (fun _ => by kernel_rfl) ?_
      refine q_val (.pointer (some ⟨g, k * 7, none⟩)) (by kernel_rfl) (run_ixsl (b := g) (off := 0) (n := cs.length) (c := ccap) (k := .i64) (j := (k : Int)) (e := 41) (sz := 7) rfl (by kernel_rfl) (by kernel_rfl) (by kernel_rfl) (by kernel_rfl) (by omega) (by omega) (by show 0 + k * 7 = k * 7; omega)) ?_
      refine q_load 0 ⟨g, cur, 41⟩ (off := k * 7) (cutV c) (by kernel_rfl) rfl (by kernel_rfl) (by kernel_rfl) (read_part cutC_len hcur k 0 (by omega) (by omega) _ (by rw [hc]; kernel_rfl)) ?_
      refine q_val (.slice (some ⟨g, 0, none⟩) cs.length ccap) (by kernel_rfl) (fun _ => by kernel_rfl) ?_
      refine q_val (.int .i64 (k : Int)) (by kernel_rfl) (fun _ => by kernel_rfl) ?_
      refine q_sum (k := .i64) (((k + 1 : Nat) : Int)) (by kernel_rfl) (fun _ => by kernel_rfl) (IntWalk.i64_in _ (by omega)) ?_
      refine q_val (.pointer (some ⟨g, (k + 1) * 7, none⟩)) (by kernel_rfl) (run_ixsl (b := g) (off := 0) (n := cs.length) (c := ccap) (k := .i64) (j := ((k + 1 : Nat) : Int)) (e := 41) (sz := 7) rfl (by kernel_rfl) (by kernel_rfl) (by kernel_rfl) (by kernel_rfl) (by omega) (by omega) (by show 0 + (k + 1) * 7 = (k + 1) * 7; omega)) ?_
      refine q_load 0 ⟨g, cur, 41⟩ (off := (k + 1) * 7) (cutV d) (by kernel_rfl) rfl (by kernel_rfl) (by kernel_rfl) (read_part cutC_len hcur (k + 1) 0 (by omega) (by omega) _ (by rw [hd]; kernel_rfl)) ?_
      refine q_call (k := 30) (args := #[.slice A l.length cap, cutV c, cutV d]) (.bool (inL l c d)) (by kernel_rfl) (fun _ => by kernel_rfl) (fun w hO => in_any A cap l c d w (hv.on hO.below hO.size) (by omega) hl hcS hdS) ?_
      refine q_nil ?_
      refine fin_seq ?_
      cases h4 : inL l c d with
      | true =>
        refine ok_true (by kernel_rfl) ?_
        refine ok_anyhL [⟨g, cur, 41⟩] (by kernel_rfl) (fun w hO => Own.take hO (by simp) (by simp)) ?_
        refine hl_take 0 _ (v) rfl (by kernel_rfl) (by kernel_rfl) (by kernel_rfl) (pq_block (pq_seq (pq_round (pq_block (pq_seq pq_body))))) (fun w hO => Own.take hO (by simp) (by simp)) (by kernel_rfl) (fun _ _ => by kernel_rfl) ?_
        refine hl_take 1 _ (.slice (some ⟨g, 0, none⟩) cs.length ccap) rfl (by kernel_rfl) (by kernel_rfl) (by kernel_rfl) (pq_block (pq_seq (pq_round (pq_block (pq_seq pq_body))))) (fun w hO => Own.take hO (by simp) (by simp)) (by kernel_rfl) (fun _ _ => by kernel_rfl) ?_
        refine hl_take 2 _ (.int .i64 (k : Int)) rfl (by kernel_rfl) (by kernel_rfl) (by kernel_rfl) (pq_block (pq_seq (pq_round (pq_block (pq_seq pq_body))))) (fun w hO => Own.take hO (by simp) (by simp)) (by kernel_rfl) (fun _ _ => by kernel_rfl) ?_
        refine hl_take 3 _ (.pointer (some ⟨g, k * 7, none⟩)) rfl (by kernel_rfl) (by kernel_rfl) (by kernel_rfl) (pq_block (pq_seq (pq_round (pq_block (pq_seq pq_body))))) (fun w hO => Own.take hO (by simp) (by simp)) (by kernel_rfl) (fun w _ => run_ixsl (b := g) (off := 0) (n := cs.length) (c := ccap) (k := .i64) (j := (k : Int)) (e := 41) (sz := 7) rfl (by kernel_rfl) (by kernel_rfl) (by kernel_rfl) (by kernel_rfl) (by omega) (by omega) (by show 0 + k * 7 = k * 7; omega) w) ?_
        refine hl_load 4 _ 0 ⟨g, cur, 41⟩ (off := k * 7) (cutV c) rfl (by kernel_rfl) (by kernel_rfl) (by kernel_rfl) (pq_block (pq_seq (pq_round (pq_block (pq_seq pq_body))))) (fun w hO => Own.take hO (by simp) (by simp)) (by kernel_rfl) rfl rfl (by kernel_rfl) (read_part cutC_len hcur k 0 (by omega) (by omega) _ (by rw [hc]; kernel_rfl)) ?_
        refine hl_take 5 _ (.slice (some ⟨g, 0, none⟩) cs.length ccap) rfl (by kernel_rfl) (by kernel_rfl) (by kernel_rfl) (pq_block (pq_seq (pq_round (pq_block (pq_seq pq_body))))) (fun w hO => Own.take hO (by simp) (by simp)) (by kernel_rfl) (fun _ _ => by kernel_rfl) ?_
        refine hl_take 6 _ (.int .i64 (k : Int)) rfl (by kernel_rfl) (by kernel_rfl) (by kernel_rfl) (pq_block (pq_seq (pq_round (pq_block (pq_seq pq_body))))) (fun w hO => Own.take hO (by simp) (by simp)) (by kernel_rfl) (fun _ _ => by kernel_rfl) ?_
        refine hl_sum (k := .i64) 7 _ ((k + 1 : Nat) : Int) rfl (by kernel_rfl) (by kernel_rfl) (by kernel_rfl) (pq_block (pq_seq (pq_round (pq_block (pq_seq pq_body))))) (fun w hO => Own.take hO (by simp) (by simp)) (by kernel_rfl) (fun _ => by kernel_rfl) (IntWalk.i64_in _ (by omega)) ?_
        refine hl_take 8 _ (.pointer (some ⟨g, (k + 1) * 7, none⟩)) rfl (by kernel_rfl) (by kernel_rfl) (by kernel_rfl) (pq_block (pq_seq (pq_round (pq_block (pq_seq pq_body))))) (fun w hO => Own.take hO (by simp) (by simp)) (by kernel_rfl) (fun w _ => run_ixsl (b := g) (off := 0) (n := cs.length) (c := ccap) (k := .i64) (j := ((k + 1 : Nat) : Int)) (e := 41) (sz := 7) rfl (by kernel_rfl) (by kernel_rfl) (by kernel_rfl) (by kernel_rfl) (by omega) (by omega) (by show 0 + (k + 1) * 7 = (k + 1) * 7; omega) w) ?_
        refine hl_load 9 _ 0 ⟨g, cur, 41⟩ (off := (k + 1) * 7) (cutV d) rfl (by kernel_rfl) (by kernel_rfl) (by kernel_rfl) (pq_block (pq_seq (pq_round (pq_block (pq_seq pq_body))))) (fun w hO => Own.take hO (by simp) (by simp)) (by kernel_rfl) rfl rfl (by kernel_rfl) (read_part cutC_len hcur (k + 1) 0 (by omega) (by omega) _ (by rw [hd]; kernel_rfl)) ?_
        refine h_one 10 (by kernel_rfl) ?_
        refine hl_callx _ (k := 31) (args := #[v, cutV c, cutV d]) (fun v' L' => ∃ ob', L' = ⟨g, cur, 41⟩ :: ob' ∧ SlS v' (growL out c d) ob') rfl (by kernel_rfl) (fun _ => by kernel_rfl) (fun w hO => grow_call c d hO hrel.sl (by omega) hrel.short hcS hdS) (fun v' L' ⟨ob', e, _⟩ => by subst e; exact (fun w hO => Own.take hO (by simp) (by simp))) (fun v2 L2 hv2 => ?_)
        obtain ⟨ob2, rfl, hs2⟩ := hv2
        refine hl_take 11 _ (v2) rfl (by kernel_rfl) (by kernel_rfl) (by kernel_rfl) (pq_block (pq_seq (pq_round (pq_block (pq_seq pq_body))))) (fun w hO => Own.take hO (by simp) (by simp)) (by kernel_rfl) (fun _ _ => by kernel_rfl) ?_
        refine h_done (by kernel_rfl) ?_
        refine fin_block ?_
        refine fin_seq ?_
        refine ok_region ?_
        refine s_val (.int .i64 (k : Int)) (by kernel_rfl) (fun _ => by kernel_rfl) ?_
        refine s_sum (k := .i64) (((k + 1 : Nat) : Int)) (by kernel_rfl) (fun _ => by kernel_rfl) (IntWalk.i64_in _ (by omega)) ?_
        refine s_val (.int .i64 ((k + 1 : Nat) : Int)) (by kernel_rfl) (fun _ => by kernel_rfl) ?_
        refine s_nil ?_
        exact fin_round (m' := cs.length - (k + 1)) (by omega) ⟨k + 1, v2, growL out c d, ob2, _, hrel.grow hk hc hd (by simp [h1, h3, h4]) hcS hdS hs2, rfl, upds_self _ ⟨by kernel_rfl, by kernel_rfl, by kernel_rfl, by kernel_rfl, trivial⟩, rfl⟩
      | false =>
        refine ok_false (by kernel_rfl) ?_
        refine ok_skip ?_
        refine fin_block ?_
        refine fin_seq ?_
        refine ok_region ?_
        refine s_val (.int .i64 (k : Int)) (by kernel_rfl) (fun _ => by kernel_rfl) ?_
        refine s_sum (k := .i64) (((k + 1 : Nat) : Int)) (by kernel_rfl) (fun _ => by kernel_rfl) (IntWalk.i64_in _ (by omega)) ?_
        refine s_val (.int .i64 ((k + 1 : Nat) : Int)) (by kernel_rfl) (fun _ => by kernel_rfl) ?_
        refine s_nil ?_
        exact fin_round (m' := cs.length - (k + 1)) (by omega) ⟨k + 1, v, out, ob, _, hrel.keep hk hc hd (by simp [h1, h3, h4]), rfl, upds_self _ ⟨by kernel_rfl, by kernel_rfl, by kernel_rfl, by kernel_rfl, trivial⟩, rfl⟩
    · skip
      refine s_dec (p := ((k + 1 : Nat) : Int) < (cs.length : Int)) false (by kernel_rfl) (fun _ => by kernel_rfl) (decide_eq_false (h3)) ?_
      refine s_nil ?_
      refine fin_seq ?_
      refine ok_false (by kernel_rfl) ?_
      refine ok_exit ?_
      refine fin_seq_exit ?_
      refine fin_round_exit ?_
      refine fin_block_exit ?_
      refine fin_seq ?_
      refine ok_seq ?_
      refine ok_region ?_
      refine s_val (v) (by kernel_rfl) (fun _ => by kernel_rfl) ?_
      refine s_val (v) (by kernel_rfl) (fun _ => by kernel_rfl) ?_
      refine s_val (.bool true) (by kernel_rfl) (fun _ => by kernel_rfl) ?_
      refine s_nil ?_
      refine fin_seq ?_
      refine ok_ret ?_
      refine fin_ret2 (v) (.bool true) Tryz.results28 (by kernel_rfl) (by kernel_rfl) ?_
      exact fun w hO => ⟨v, ob, by rw [hall], by rw [hall, if_pos rfl, show makeL l = out from by unfold makeL; rw [← hcs, hrel.eq, build_end _ _ _ _ (by omega)]]; exact hrel.sl, hO.sub [_]⟩
end Go.Proofs.YtmlecnomdamgnaaGreat
end
