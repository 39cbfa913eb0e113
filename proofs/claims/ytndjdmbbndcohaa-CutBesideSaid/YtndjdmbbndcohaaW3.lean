/-
  Package cut and the document's own answer for chapter 3: May, Compare, Ahead, SpanMay, Holds of both: what they return for cuts and versions whose strings have at most a million bytes; nothing that was there is changed.
-/
import Derived.Test.YtndjdmbbndcohaaSeq
import Derived.Test.YtndjdmbbndcohaaVCmp2
import Derived.Test.YtndjdmbbndcohaaR2Cmp
namespace Go.Proofs.Ytndjdmbbndcohaa
open Go.RowKit
set_option maxRecDepth 100000
set_option linter.unusedVariables false
set_option linter.unusedSimpArgs false
set_option maxHeartbeats 2000000

def Cu.short (c : Cu) : Prop := c.v.pre.length ≤ 1000000 ∧ c.v.build.length ≤ 1000000
def Ver.short (v : Ver) : Prop := v.pre.length ≤ 1000000 ∧ v.build.length ≤ 1000000
def Sp.short (s : Sp) : Prop := s.lo.short ∧ s.hi.short
theorem pos_short {v : Ver} (h : v.short) : (Cu.mk 0 v false).short := h
theorem mayC_0 {c : Cu} (h : c.e = 0) : c.may = (c.v.may && c.v.build.isEmpty) := by unfold Cu.may; rw [if_pos h]
theorem mayC_1 {c : Cu} (h : c.e = -1 ∨ c.e = 1) : c.may = decide (c = ⟨c.e, Ver.zero, false⟩) := by
  unfold Cu.may
  rw [if_neg (by omega), decide_eq_true h]
  obtain ⟨e, v, a⟩ := c
  simp only [Cu.mk.injEq, Bool.true_and, true_and, Bool.decide_and]
  cases a <;> simp
theorem mayC_n {c : Cu} (h0 : ¬ c.e = 0) (h : ¬ (c.e = -1 ∨ c.e = 1)) : c.may = false := by
  unfold Cu.may; rw [if_neg h0, decide_eq_false h]; rfl

theorem less_any (a b : Cu) (W : World) (ha : a.short) (hb : b.short) : Calls Try.prog 27 #[cutV a, cutV b] W fun e w' => e = .returned (.bool (lessC a b)) ∧ Below W.heap.size W w' := by
  refine calls_ok (n := 31) Try.func27 rfl (by kernel_rfl) (by kernel_rfl) ?_
  refine ok_seq ?_
  refine ok_region ?_
  refine s_box (cutV a) (by kernel_rfl) rfl (by kernel_rfl) (fun b1 => ?_)
  refine s_box (cutV b) (by kernel_rfl) rfl (by kernel_rfl) (fun b2 => ?_)
  refine s_val (.bool false) (by kernel_rfl) (fun _ => by kernel_rfl) ?_
  refine s_nil ?_
  refine fin_seq ?_
  refine ok_seq ?_
  refine ok_seq ?_
  refine ok_region ?_
  refine s_val (.pointer (some ⟨b1, 0, none⟩)) (by kernel_rfl) (fun _ => by kernel_rfl) ?_
  refine s_load 1 ⟨b1, (cutV a).cells, 25⟩ (off := 0) (.int .i64 a.e) (by kernel_rfl) rfl (by kernel_rfl) (by kernel_rfl) (by kernel_rfl) ?_
  refine s_val (.pointer (some ⟨b2, 0, none⟩)) (by kernel_rfl) (fun _ => by kernel_rfl) ?_
  refine s_load 0 ⟨b2, (cutV b).cells, 25⟩ (off := 0) (.int .i64 b.e) (by kernel_rfl) rfl (by kernel_rfl) (by kernel_rfl) (by kernel_rfl) ?_
  by_cases h1 : (a.e : Int) = b.e
  · skip
    refine s_ndec (p := (a.e : Int) = b.e) true (by kernel_rfl) (fun _ => by kernel_rfl) (decide_eq_true (h1)) ?_
    refine s_nil ?_
    refine fin_seq ?_
    refine ok_false (by kernel_rfl) ?_
    refine ok_skip ?_
    refine fin_seq ?_
    refine ok_seq ?_
    refine ok_seq ?_
    refine ok_region ?_
    refine s_val (.pointer (some ⟨b1, 1, none⟩)) (by kernel_rfl) (fun _ => by kernel_rfl) ?_
    refine s_load 1 ⟨b1, (cutV a).cells, 25⟩ (off := 1) (.agg #[.int .i64 a.v.maj, .int .i64 a.v.min, .int .i64 a.v.pat, .string (mkS a.v.pre), .string (mkS a.v.build)]) (by kernel_rfl) rfl (by kernel_rfl) (by kernel_rfl) (by kernel_rfl) ?_
    refine s_val (.pointer (some ⟨b2, 1, none⟩)) (by kernel_rfl) (fun _ => by kernel_rfl) ?_
    refine s_load 0 ⟨b2, (cutV b).cells, 25⟩ (off := 1) (.agg #[.int .i64 b.v.maj, .int .i64 b.v.min, .int .i64 b.v.pat, .string (mkS b.v.pre), .string (mkS b.v.build)]) (by kernel_rfl) rfl (by kernel_rfl) (by kernel_rfl) (by kernel_rfl) ?_
    refine s_call (k := 24) (args := #[.agg #[.int .i64 a.v.maj, .int .i64 a.v.min, .int .i64 a.v.pat, .string (mkS a.v.pre), .string (mkS a.v.build)], .agg #[.int .i64 b.v.maj, .int .i64 b.v.min, .int .i64 b.v.pat, .string (mkS b.v.pre), .string (mkS b.v.build)]]) (.int .i64 (cmpR a.v b.v)) (by kernel_rfl) (fun _ => by kernel_rfl) (fun w _ => vcompare_any a.v b.v w ha.1 ha.2 hb.1 hb.2) ?_
    refine s_nil ?_
    refine fin_seq ?_
    refine ok_block ?_
    refine ok_seq ?_
    refine ok_region ?_
    by_cases h2 : (cmpR a.v b.v : Int) = -1
    · skip
      refine s_dec (p := (cmpR a.v b.v : Int) = -1) true (by kernel_rfl) (fun _ => by kernel_rfl) (decide_eq_true (h2)) ?_
      refine s_val (.bool true) (by kernel_rfl) (fun _ => by kernel_rfl) ?_
      refine s_nil ?_
      refine fin_seq ?_
      refine ok_true (by kernel_rfl) ?_
      refine ok_seq ?_
      refine ok_region ?_
      refine s_val (.bool true) (by kernel_rfl) (fun _ => by kernel_rfl) ?_
      refine s_nil ?_
      refine fin_seq ?_
      refine ok_ret ?_
      refine fin_block_ret ?_
      refine fin_seq_ret ?_
      refine fin_ret (.bool true) Try.results27 (by kernel_rfl) ?_
      exact fun w hO => ⟨by rw [show lessC a b = true from by unfold lessC; simp [h1, h2]], hO.below⟩
    · skip
      refine s_dec (p := (cmpR a.v b.v : Int) = -1) false (by kernel_rfl) (fun _ => by kernel_rfl) (decide_eq_false (h2)) ?_
      refine s_val (.bool false) (by kernel_rfl) (fun _ => by kernel_rfl) ?_
      refine s_nil ?_
      refine fin_seq ?_
      refine ok_false (by kernel_rfl) ?_
      refine ok_seq ?_
      refine ok_region ?_
      by_cases h3 : (cmpR a.v b.v : Int) = 1
      · skip
        refine s_dec (p := (cmpR a.v b.v : Int) = 1) true (by kernel_rfl) (fun _ => by kernel_rfl) (decide_eq_true (h3)) ?_
        refine s_val (.bool true) (by kernel_rfl) (fun _ => by kernel_rfl) ?_
        refine s_nil ?_
        refine fin_seq ?_
        refine ok_true (by kernel_rfl) ?_
        refine ok_seq ?_
        refine ok_region ?_
        refine s_val (.bool false) (by kernel_rfl) (fun _ => by kernel_rfl) ?_
        refine s_nil ?_
        refine fin_seq ?_
        refine ok_ret ?_
        refine fin_block_ret ?_
        refine fin_seq_ret ?_
        refine fin_ret (.bool false) Try.results27 (by kernel_rfl) ?_
        exact fun w hO => ⟨by rw [show lessC a b = false from by unfold lessC; simp [h1, h2, h3]], hO.below⟩
      · skip
        refine s_dec (p := (cmpR a.v b.v : Int) = 1) false (by kernel_rfl) (fun _ => by kernel_rfl) (decide_eq_false (h3)) ?_
        refine s_val (.bool false) (by kernel_rfl) (fun _ => by kernel_rfl) ?_
        refine s_nil ?_
        refine fin_seq ?_
        refine ok_false (by kernel_rfl) ?_
        refine ok_skip ?_
        refine fin_block ?_
        refine fin_seq ?_
        refine ok_seq ?_
        refine ok_region ?_
        refine s_val (.pointer (some ⟨b1, 6, none⟩)) (by kernel_rfl) (fun _ => by kernel_rfl) ?_
        refine s_load 1 ⟨b1, (cutV a).cells, 25⟩ (off := 6) (.bool a.aft) (by kernel_rfl) rfl (by kernel_rfl) (by kernel_rfl) (by kernel_rfl) ?_
        cases h4 : a.aft with
        | true =>
          refine s_val (.bool false) (by kernel_rfl) (fun _ => by kernel_rfl) ?_
          refine s_val (.bool false) (by kernel_rfl) (fun _ => by kernel_rfl) ?_
          refine s_skip (by kernel_rfl) ?_
          refine s_skip (by kernel_rfl) ?_
          refine s_val (.bool false) (by kernel_rfl) (fun _ => by kernel_rfl) ?_
          refine s_val (.bool false) (by kernel_rfl) (fun _ => by kernel_rfl) ?_
          refine s_nil ?_
          refine fin_seq ?_
          refine ok_ret ?_
          refine fin_ret (.bool false) Try.results27 (by kernel_rfl) ?_
          exact fun w hO => ⟨by rw [show lessC a b = false from by unfold lessC; simp [h1, h2, h3, h4]], hO.below⟩
        | false =>
          refine s_val (.bool true) (by kernel_rfl) (fun _ => by kernel_rfl) ?_
          refine s_val (.bool true) (by kernel_rfl) (fun _ => by kernel_rfl) ?_
          refine s_val (.pointer (some ⟨b2, 6, none⟩)) (by kernel_rfl) (fun _ => by kernel_rfl) ?_
          refine s_load 0 ⟨b2, (cutV b).cells, 25⟩ (off := 6) (.bool b.aft) (by kernel_rfl) rfl (by kernel_rfl) (by kernel_rfl) (by kernel_rfl) ?_
          refine s_val (.bool b.aft) (by kernel_rfl) (fun _ => by kernel_rfl) ?_
          refine s_val (.bool b.aft) (by kernel_rfl) (fun _ => by kernel_rfl) ?_
          refine s_nil ?_
          refine fin_seq ?_
          refine ok_ret ?_
          refine fin_ret (.bool b.aft) Try.results27 (by kernel_rfl) ?_
          exact fun w hO => ⟨by rw [show lessC a b = b.aft from by unfold lessC; simp [h1, h2, h3, h4]], hO.below⟩
  · skip
    refine s_ndec (p := (a.e : Int) = b.e) false (by kernel_rfl) (fun _ => by kernel_rfl) (decide_eq_false (h1)) ?_
    refine s_nil ?_
    refine fin_seq ?_
    refine ok_true (by kernel_rfl) ?_
    refine ok_seq ?_
    refine ok_region ?_
    refine s_val (.pointer (some ⟨b1, 0, none⟩)) (by kernel_rfl) (fun _ => by kernel_rfl) ?_
    refine s_load 1 ⟨b1, (cutV a).cells, 25⟩ (off := 0) (.int .i64 a.e) (by kernel_rfl) rfl (by kernel_rfl) (by kernel_rfl) (by kernel_rfl) ?_
    refine s_val (.pointer (some ⟨b2, 0, none⟩)) (by kernel_rfl) (fun _ => by kernel_rfl) ?_
    refine s_load 0 ⟨b2, (cutV b).cells, 25⟩ (off := 0) (.int .i64 b.e) (by kernel_rfl) rfl (by kernel_rfl) (by kernel_rfl) (by kernel_rfl) ?_
    by_cases h5 : (a.e : Int) < b.e
    · skip
      refine s_dec (p := (a.e : Int) < b.e) true (by kernel_rfl) (fun _ => by kernel_rfl) (decide_eq_true (h5)) ?_
      refine s_val (.bool true) (by kernel_rfl) (fun _ => by kernel_rfl) ?_
      refine s_nil ?_
      refine fin_seq ?_
      refine ok_ret ?_
      refine fin_seq_ret ?_
      refine fin_ret (.bool true) Try.results27 (by kernel_rfl) ?_
      exact fun w hO => ⟨by rw [show lessC a b = true from by unfold lessC; simp [h1, h5]], hO.below⟩
    · skip
      refine s_dec (p := (a.e : Int) < b.e) false (by kernel_rfl) (fun _ => by kernel_rfl) (decide_eq_false (h5)) ?_
      refine s_val (.bool false) (by kernel_rfl) (fun _ => by kernel_rfl) ?_
      refine s_nil ?_
      refine fin_seq ?_
      refine ok_ret ?_
      refine fin_seq_ret ?_
      refine fin_ret (.bool false) Try.results27 (by kernel_rfl) ?_
      exact fun w hO => ⟨by rw [show lessC a b = false from by unfold lessC; simp [h1, h5]], hO.below⟩
theorem mayC_any (c : Cu) (W : World) (hc : c.short) : Calls Try.prog 11 #[cutV c] W fun e w' => e = .returned (.bool c.may) ∧ Below W.heap.size W w' := by
  refine calls_ok (n := 24) Try.func11 rfl (by kernel_rfl) (by kernel_rfl) ?_
  refine ok_seq ?_
  refine ok_region ?_
  refine s_box (cutV c) (by kernel_rfl) rfl (by kernel_rfl) (fun b1 => ?_)
  refine s_val (.bool false) (by kernel_rfl) (fun _ => by kernel_rfl) ?_
  refine s_nil ?_
  refine fin_seq ?_
  refine ok_seq ?_
  refine ok_seq ?_
  refine ok_region ?_
  refine s_val (.pointer (some ⟨b1, 0, none⟩)) (by kernel_rfl) (fun _ => by kernel_rfl) ?_
  refine s_load 0 ⟨b1, (cutV c).cells, 25⟩ (off := 0) (.int .i64 c.e) (by kernel_rfl) rfl (by kernel_rfl) (by kernel_rfl) (by kernel_rfl) ?_
  refine s_nil ?_
  refine fin_seq ?_
  refine ok_block ?_
  refine ok_seq ?_
  refine ok_seq ?_
  refine ok_region ?_
  by_cases h1 : (c.e : Int) = -1
  · skip
    refine s_dec (p := (c.e : Int) = -1) true (by kernel_rfl) (fun _ => by kernel_rfl) (decide_eq_true (h1)) ?_
    refine s_val (.bool true) (by kernel_rfl) (fun _ => by kernel_rfl) ?_
    refine s_nil ?_
    refine fin_seq ?_
    refine ok_true (by kernel_rfl) ?_
    refine ok_skip ?_
    refine fin_seq ?_
    refine ok_true (by kernel_rfl) ?_
    refine ok_seq ?_
    refine ok_region ?_
    refine s_load 0 ⟨b1, (cutV c).cells, 25⟩ (off := 0) (cutV c) (by kernel_rfl) rfl (by kernel_rfl) (by kernel_rfl) (by kernel_rfl) ?_
    refine s_val (.pointer (some ⟨b1, 0, none⟩)) (by kernel_rfl) (fun _ => by kernel_rfl) ?_
    refine s_load 0 ⟨b1, (cutV c).cells, 25⟩ (off := 0) (.int .i64 c.e) (by kernel_rfl) rfl (by kernel_rfl) (by kernel_rfl) (by kernel_rfl) ?_
    refine s_val (.agg #[.int .i64 c.e, .int .i64 0, .int .i64 0, .int .i64 0, .string ⟨#[]⟩, .string ⟨#[]⟩, .bool false]) (by kernel_rfl) (fun _ => by kernel_rfl) ?_
    by_cases h2 : c = ⟨c.e, Ver.zero, false⟩
    · skip
      refine s_val (.bool true) (by kernel_rfl) (op_eq_cut rfl (by kernel_rfl) (by kernel_rfl) (decide_eq_true (h2))) ?_
      refine s_val (.bool true) (by kernel_rfl) (fun _ => by kernel_rfl) ?_
      refine s_nil ?_
      refine fin_seq ?_
      refine ok_ret ?_
      refine fin_block_ret ?_
      refine fin_seq_ret ?_
      refine fin_ret (.bool true) Try.results11 (by kernel_rfl) ?_
      exact fun w hO => ⟨by rw [show c.may = true from by first | exact (mayC_1 (by omega)).trans (decide_eq_true (by assumption)) | exact (mayC_1 (by omega)).trans (decide_eq_false (by assumption)) | (rw [mayC_0 (by omega)]; simp [h1, h2]) | (rw [mayC_n (by omega) (by omega)])], hO.below⟩
    · skip
      refine s_val (.bool false) (by kernel_rfl) (op_eq_cut rfl (by kernel_rfl) (by kernel_rfl) (decide_eq_false (h2))) ?_
      refine s_val (.bool false) (by kernel_rfl) (fun _ => by kernel_rfl) ?_
      refine s_nil ?_
      refine fin_seq ?_
      refine ok_ret ?_
      refine fin_block_ret ?_
      refine fin_seq_ret ?_
      refine fin_ret (.bool false) Try.results11 (by kernel_rfl) ?_
      exact fun w hO => ⟨by rw [show c.may = false from by first | exact (mayC_1 (by omega)).trans (decide_eq_true (by assumption)) | exact (mayC_1 (by omega)).trans (decide_eq_false (by assumption)) | (rw [mayC_0 (by omega)]; simp [h1, h2]) | (rw [mayC_n (by omega) (by omega)])], hO.below⟩
  · skip
    refine s_dec (p := (c.e : Int) = -1) false (by kernel_rfl) (fun _ => by kernel_rfl) (decide_eq_false (h1)) ?_
    refine s_val (.bool false) (by kernel_rfl) (fun _ => by kernel_rfl) ?_
    refine s_nil ?_
    refine fin_seq ?_
    refine ok_false (by kernel_rfl) ?_
    refine ok_region ?_
    by_cases h3 : (c.e : Int) = 1
    · skip
      refine s_dec (p := (c.e : Int) = 1) true (by kernel_rfl) (fun _ => by kernel_rfl) (decide_eq_true (h3)) ?_
      refine s_val (.bool true) (by kernel_rfl) (fun _ => by kernel_rfl) ?_
      refine s_nil ?_
      refine fin_seq ?_
      refine ok_true (by kernel_rfl) ?_
      refine ok_seq ?_
      refine ok_region ?_
      refine s_load 0 ⟨b1, (cutV c).cells, 25⟩ (off := 0) (cutV c) (by kernel_rfl) rfl (by kernel_rfl) (by kernel_rfl) (by kernel_rfl) ?_
      refine s_val (.pointer (some ⟨b1, 0, none⟩)) (by kernel_rfl) (fun _ => by kernel_rfl) ?_
      refine s_load 0 ⟨b1, (cutV c).cells, 25⟩ (off := 0) (.int .i64 c.e) (by kernel_rfl) rfl (by kernel_rfl) (by kernel_rfl) (by kernel_rfl) ?_
      refine s_val (.agg #[.int .i64 c.e, .int .i64 0, .int .i64 0, .int .i64 0, .string ⟨#[]⟩, .string ⟨#[]⟩, .bool false]) (by kernel_rfl) (fun _ => by kernel_rfl) ?_
      by_cases h4 : c = ⟨c.e, Ver.zero, false⟩
      · skip
        refine s_val (.bool true) (by kernel_rfl) (op_eq_cut rfl (by kernel_rfl) (by kernel_rfl) (decide_eq_true (h4))) ?_
        refine s_val (.bool true) (by kernel_rfl) (fun _ => by kernel_rfl) ?_
        refine s_nil ?_
        refine fin_seq ?_
        refine ok_ret ?_
        refine fin_block_ret ?_
        refine fin_seq_ret ?_
        refine fin_ret (.bool true) Try.results11 (by kernel_rfl) ?_
        exact fun w hO => ⟨by rw [show c.may = true from by first | exact (mayC_1 (by omega)).trans (decide_eq_true (by assumption)) | exact (mayC_1 (by omega)).trans (decide_eq_false (by assumption)) | (rw [mayC_0 (by omega)]; simp [h1, h3, h4]) | (rw [mayC_n (by omega) (by omega)])], hO.below⟩
      · skip
        refine s_val (.bool false) (by kernel_rfl) (op_eq_cut rfl (by kernel_rfl) (by kernel_rfl) (decide_eq_false (h4))) ?_
        refine s_val (.bool false) (by kernel_rfl) (fun _ => by kernel_rfl) ?_
        refine s_nil ?_
        refine fin_seq ?_
        refine ok_ret ?_
        refine fin_block_ret ?_
        refine fin_seq_ret ?_
        refine fin_ret (.bool false) Try.results11 (by kernel_rfl) ?_
        exact fun w hO => ⟨by rw [show c.may = false from by first | exact (mayC_1 (by omega)).trans (decide_eq_true (by assumption)) | exact (mayC_1 (by omega)).trans (decide_eq_false (by assumption)) | (rw [mayC_0 (by omega)]; simp [h1, h3, h4]) | (rw [mayC_n (by omega) (by omega)])], hO.below⟩
    · skip
      refine s_dec (p := (c.e : Int) = 1) false (by kernel_rfl) (fun _ => by kernel_rfl) (decide_eq_false (h3)) ?_
      refine s_val (.bool false) (by kernel_rfl) (fun _ => by kernel_rfl) ?_
      refine s_nil ?_
      refine fin_seq ?_
      refine ok_false (by kernel_rfl) ?_
      refine ok_seq ?_
      refine ok_region ?_
      by_cases h5 : (c.e : Int) = 0
      · skip
        refine s_dec (p := (c.e : Int) = 0) true (by kernel_rfl) (fun _ => by kernel_rfl) (decide_eq_true (h5)) ?_
        refine s_val (.bool true) (by kernel_rfl) (fun _ => by kernel_rfl) ?_
        refine s_nil ?_
        refine fin_seq ?_
        refine ok_true (by kernel_rfl) ?_
        refine ok_seq ?_
        refine ok_region ?_
        refine s_val (.pointer (some ⟨b1, 1, none⟩)) (by kernel_rfl) (fun _ => by kernel_rfl) ?_
        refine s_val (.pointer (some ⟨b1, 5, none⟩)) (by kernel_rfl) (fun _ => by kernel_rfl) ?_
        refine s_load 0 ⟨b1, (cutV c).cells, 25⟩ (off := 5) (.string (mkS c.v.build)) (by kernel_rfl) rfl (by kernel_rfl) (by kernel_rfl) (by kernel_rfl) ?_
        by_cases h6 : (c.v.build : List UInt8) = []
        · skip
          refine s_val (.bool true) (by kernel_rfl) (run_streql (a := c.v.build) (b := ([])) rfl (by kernel_rfl) (by kernel_rfl) (decide_eq_true (h6))) ?_
          refine s_val (.bool true) (by kernel_rfl) (fun _ => by kernel_rfl) ?_
          refine s_val (.pointer (some ⟨b1, 1, none⟩)) (by kernel_rfl) (fun _ => by kernel_rfl) ?_
          refine s_load 0 ⟨b1, (cutV c).cells, 25⟩ (off := 1) (.agg #[.int .i64 c.v.maj, .int .i64 c.v.min, .int .i64 c.v.pat, .string (mkS c.v.pre), .string (mkS c.v.build)]) (by kernel_rfl) rfl (by kernel_rfl) (by kernel_rfl) (by kernel_rfl) ?_
          refine s_call (k := 25) (args := #[.agg #[.int .i64 c.v.maj, .int .i64 c.v.min, .int .i64 c.v.pat, .string (mkS c.v.pre), .string (mkS c.v.build)]]) (.bool c.v.may) (by kernel_rfl) (fun _ => by kernel_rfl) (fun w _ => may_any c.v w (Nat.lt_of_le_of_lt hc.1 (by decide)) (Nat.lt_of_le_of_lt hc.2 (by decide))) ?_
          refine s_val (.bool c.v.may) (by kernel_rfl) (fun _ => by kernel_rfl) ?_
          refine s_val (.bool c.v.may) (by kernel_rfl) (fun _ => by kernel_rfl) ?_
          refine s_nil ?_
          refine fin_seq ?_
          refine ok_ret ?_
          refine fin_block_ret ?_
          refine fin_seq_ret ?_
          refine fin_ret (.bool c.v.may) Try.results11 (by kernel_rfl) ?_
          exact fun w hO => ⟨by rw [show c.may = c.v.may from by first | exact (mayC_1 (by omega)).trans (decide_eq_true (by assumption)) | exact (mayC_1 (by omega)).trans (decide_eq_false (by assumption)) | (rw [mayC_0 (by omega)]; simp [h1, h3, h5, h6]) | (rw [mayC_n (by omega) (by omega)])], hO.below⟩
        · skip
          refine s_val (.bool false) (by kernel_rfl) (run_streql (a := c.v.build) (b := ([])) rfl (by kernel_rfl) (by kernel_rfl) (decide_eq_false (h6))) ?_
          refine s_val (.bool false) (by kernel_rfl) (fun _ => by kernel_rfl) ?_
          refine s_skip (by kernel_rfl) ?_
          refine s_skip (by kernel_rfl) ?_
          refine s_skip (by kernel_rfl) ?_
          refine s_val (.bool false) (by kernel_rfl) (fun _ => by kernel_rfl) ?_
          refine s_val (.bool false) (by kernel_rfl) (fun _ => by kernel_rfl) ?_
          refine s_nil ?_
          refine fin_seq ?_
          refine ok_ret ?_
          refine fin_block_ret ?_
          refine fin_seq_ret ?_
          refine fin_ret (.bool false) Try.results11 (by kernel_rfl) ?_
          exact fun w hO => ⟨by rw [show c.may = false from by first | exact (mayC_1 (by omega)).trans (decide_eq_true (by assumption)) | exact (mayC_1 (by omega)).trans (decide_eq_false (by assumption)) | (rw [mayC_0 (by omega)]; simp [h1, h3, h5, h6]) | (rw [mayC_n (by omega) (by omega)])], hO.below⟩
      · skip
        refine s_dec (p := (c.e : Int) = 0) false (by kernel_rfl) (fun _ => by kernel_rfl) (decide_eq_false (h5)) ?_
        refine s_val (.bool false) (by kernel_rfl) (fun _ => by kernel_rfl) ?_
        refine s_nil ?_
        refine fin_seq ?_
        refine ok_false (by kernel_rfl) ?_
        refine ok_skip ?_
        refine fin_block ?_
        refine fin_seq ?_
        refine ok_seq ?_
        refine ok_region ?_
        refine s_val (.bool false) (by kernel_rfl) (fun _ => by kernel_rfl) ?_
        refine s_nil ?_
        refine fin_seq ?_
        refine ok_ret ?_
        refine fin_ret (.bool false) Try.results11 (by kernel_rfl) ?_
        exact fun w hO => ⟨by rw [show c.may = false from by first | exact (mayC_1 (by omega)).trans (decide_eq_true (by assumption)) | exact (mayC_1 (by omega)).trans (decide_eq_false (by assumption)) | (rw [mayC_0 (by omega)]; simp [h1, h3, h5]) | (rw [mayC_n (by omega) (by omega)])], hO.below⟩
theorem rmayC_any (c : Cu) (W : World) (hc : c.short) : Calls Try.prog 12 #[cutV c] W fun e w' => e = .returned (.bool c.may) ∧ Below W.heap.size W w' := by
  refine calls_ok (n := 34) Try.func12 rfl (by kernel_rfl) (by kernel_rfl) ?_
  refine ok_seq ?_
  refine ok_region ?_
  refine s_box (cutV c) (by kernel_rfl) rfl (by kernel_rfl) (fun b1 => ?_)
  refine s_val (.bool false) (by kernel_rfl) (fun _ => by kernel_rfl) ?_
  refine s_nil ?_
  refine fin_seq ?_
  refine ok_seq ?_
  refine ok_seq ?_
  refine ok_region ?_
  refine s_val (.pointer (some ⟨b1, 0, none⟩)) (by kernel_rfl) (fun _ => by kernel_rfl) ?_
  refine s_load 0 ⟨b1, (cutV c).cells, 25⟩ (off := 0) (.int .i64 c.e) (by kernel_rfl) rfl (by kernel_rfl) (by kernel_rfl) (by kernel_rfl) ?_
  by_cases h1 : (c.e : Int) = 0
  · skip
    refine s_dec (p := (c.e : Int) = 0) true (by kernel_rfl) (fun _ => by kernel_rfl) (decide_eq_true (h1)) ?_
    refine s_nil ?_
    refine fin_seq ?_
    refine ok_true (by kernel_rfl) ?_
    refine ok_seq ?_
    refine ok_region ?_
    refine s_val (.pointer (some ⟨b1, 1, none⟩)) (by kernel_rfl) (fun _ => by kernel_rfl) ?_
    refine s_load 0 ⟨b1, (cutV c).cells, 25⟩ (off := 1) (.agg #[.int .i64 c.v.maj, .int .i64 c.v.min, .int .i64 c.v.pat, .string (mkS c.v.pre), .string (mkS c.v.build)]) (by kernel_rfl) rfl (by kernel_rfl) (by kernel_rfl) (by kernel_rfl) ?_
    refine s_call (k := 26) (args := #[.agg #[.int .i64 c.v.maj, .int .i64 c.v.min, .int .i64 c.v.pat, .string (mkS c.v.pre), .string (mkS c.v.build)]]) (.bool c.v.may) (by kernel_rfl) (fun _ => by kernel_rfl) (fun w _ => rmay_any c.v w hc.1 hc.2) ?_
    refine s_val (.bool c.v.may) (by kernel_rfl) (fun _ => by kernel_rfl) ?_
    cases h2 : c.v.may with
    | true =>
      refine s_val (.pointer (some ⟨b1, 1, none⟩)) (by kernel_rfl) (fun _ => by kernel_rfl) ?_
      refine s_val (.pointer (some ⟨b1, 5, none⟩)) (by kernel_rfl) (fun _ => by kernel_rfl) ?_
      refine s_load 0 ⟨b1, (cutV c).cells, 25⟩ (off := 5) (.string (mkS c.v.build)) (by kernel_rfl) rfl (by kernel_rfl) (by kernel_rfl) (by kernel_rfl) ?_
      by_cases h3 : (c.v.build : List UInt8) = []
      · skip
        refine s_val (.bool true) (by kernel_rfl) (run_streql (a := c.v.build) (b := ([])) rfl (by kernel_rfl) (by kernel_rfl) (decide_eq_true (h3))) ?_
        refine s_val (.bool true) (by kernel_rfl) (fun _ => by kernel_rfl) ?_
        refine s_val (.bool true) (by kernel_rfl) (fun _ => by kernel_rfl) ?_
        refine s_nil ?_
        refine fin_seq ?_
        refine ok_ret ?_
        refine fin_seq_ret ?_
        refine fin_ret (.bool true) Try.results12 (by kernel_rfl) ?_
        exact fun w hO => ⟨by rw [show c.may = true from by unfold Cu.may; simp [h1, h2, h3]], hO.below⟩
      · skip
        refine s_val (.bool false) (by kernel_rfl) (run_streql (a := c.v.build) (b := ([])) rfl (by kernel_rfl) (by kernel_rfl) (decide_eq_false (h3))) ?_
        refine s_val (.bool false) (by kernel_rfl) (fun _ => by kernel_rfl) ?_
        refine s_val (.bool false) (by kernel_rfl) (fun _ => by kernel_rfl) ?_
        refine s_nil ?_
        refine fin_seq ?_
        refine ok_ret ?_
        refine fin_seq_ret ?_
        refine fin_ret (.bool false) Try.results12 (by kernel_rfl) ?_
        exact fun w hO => ⟨by rw [show c.may = false from by unfold Cu.may; simp [h1, h2, h3]], hO.below⟩
    | false =>
      refine s_skip (by kernel_rfl) ?_
      refine s_skip (by kernel_rfl) ?_
      refine s_skip (by kernel_rfl) ?_
      refine s_skip (by kernel_rfl) ?_
      refine s_val (.bool false) (by kernel_rfl) (fun _ => by kernel_rfl) ?_
      refine s_val (.bool false) (by kernel_rfl) (fun _ => by kernel_rfl) ?_
      refine s_nil ?_
      refine fin_seq ?_
      refine ok_ret ?_
      refine fin_seq_ret ?_
      refine fin_ret (.bool false) Try.results12 (by kernel_rfl) ?_
      exact fun w hO => ⟨by rw [show c.may = false from by unfold Cu.may; simp [h1, h2]], hO.below⟩
  · skip
    refine s_dec (p := (c.e : Int) = 0) false (by kernel_rfl) (fun _ => by kernel_rfl) (decide_eq_false (h1)) ?_
    refine s_nil ?_
    refine fin_seq ?_
    refine ok_false (by kernel_rfl) ?_
    refine ok_skip ?_
    refine fin_seq ?_
    refine ok_seq ?_
    refine ok_region ?_
    refine s_val (.pointer (some ⟨b1, 0, none⟩)) (by kernel_rfl) (fun _ => by kernel_rfl) ?_
    refine s_load 0 ⟨b1, (cutV c).cells, 25⟩ (off := 0) (.int .i64 c.e) (by kernel_rfl) rfl (by kernel_rfl) (by kernel_rfl) (by kernel_rfl) ?_
    by_cases h4 : (c.e : Int) = -1
    · skip
      refine s_dec (p := (c.e : Int) = -1) true (by kernel_rfl) (fun _ => by kernel_rfl) (decide_eq_true (h4)) ?_
      refine s_val (.bool true) (by kernel_rfl) (fun _ => by kernel_rfl) ?_
      refine s_skip (by kernel_rfl) ?_
      refine s_skip (by kernel_rfl) ?_
      refine s_skip (by kernel_rfl) ?_
      refine s_val (.bool true) (by kernel_rfl) (fun _ => by kernel_rfl) ?_
      refine s_val (.bool true) (by kernel_rfl) (fun _ => by kernel_rfl) ?_
      refine s_val (.pointer (some ⟨b1, 1, none⟩)) (by kernel_rfl) (fun _ => by kernel_rfl) ?_
      refine s_load 0 ⟨b1, (cutV c).cells, 25⟩ (off := 1) (.agg #[.int .i64 c.v.maj, .int .i64 c.v.min, .int .i64 c.v.pat, .string (mkS c.v.pre), .string (mkS c.v.build)]) (by kernel_rfl) rfl (by kernel_rfl) (by kernel_rfl) (by kernel_rfl) ?_
      refine s_val (.agg #[.int .i64 0, .int .i64 0, .int .i64 0, .string ⟨#[]⟩, .string ⟨#[]⟩]) (by kernel_rfl) (fun _ => by kernel_rfl) ?_
      by_cases h5 : c.v = Ver.zero
      · skip
        refine s_val (.bool true) (by kernel_rfl) (op_eq_ver rfl (by kernel_rfl) (by kernel_rfl) (decide_eq_true (h5))) ?_
        refine s_val (.bool true) (by kernel_rfl) (fun _ => by kernel_rfl) ?_
        refine s_val (.bool true) (by kernel_rfl) (fun _ => by kernel_rfl) ?_
        refine s_val (.pointer (some ⟨b1, 6, none⟩)) (by kernel_rfl) (fun _ => by kernel_rfl) ?_
        refine s_load 0 ⟨b1, (cutV c).cells, 25⟩ (off := 6) (.bool c.aft) (by kernel_rfl) rfl (by kernel_rfl) (by kernel_rfl) (by kernel_rfl) ?_
        cases h6 : c.aft with
        | true =>
          refine s_val (.bool false) (by kernel_rfl) (fun _ => by kernel_rfl) ?_
          refine s_val (.bool false) (by kernel_rfl) (fun _ => by kernel_rfl) ?_
          refine s_val (.bool false) (by kernel_rfl) (fun _ => by kernel_rfl) ?_
          refine s_nil ?_
          refine fin_seq ?_
          refine ok_ret ?_
          refine fin_ret (.bool false) Try.results12 (by kernel_rfl) ?_
          exact fun w hO => ⟨by rw [show c.may = false from by unfold Cu.may; simp [h1, h4, h5, h6]], hO.below⟩
        | false =>
          refine s_val (.bool true) (by kernel_rfl) (fun _ => by kernel_rfl) ?_
          refine s_val (.bool true) (by kernel_rfl) (fun _ => by kernel_rfl) ?_
          refine s_val (.bool true) (by kernel_rfl) (fun _ => by kernel_rfl) ?_
          refine s_nil ?_
          refine fin_seq ?_
          refine ok_ret ?_
          refine fin_ret (.bool true) Try.results12 (by kernel_rfl) ?_
          exact fun w hO => ⟨by rw [show c.may = true from by unfold Cu.may; simp [h1, h4, h5, h6]], hO.below⟩
      · skip
        refine s_val (.bool false) (by kernel_rfl) (op_eq_ver rfl (by kernel_rfl) (by kernel_rfl) (decide_eq_false (h5))) ?_
        refine s_val (.bool false) (by kernel_rfl) (fun _ => by kernel_rfl) ?_
        refine s_val (.bool false) (by kernel_rfl) (fun _ => by kernel_rfl) ?_
        refine s_skip (by kernel_rfl) ?_
        refine s_skip (by kernel_rfl) ?_
        refine s_skip (by kernel_rfl) ?_
        refine s_val (.bool false) (by kernel_rfl) (fun _ => by kernel_rfl) ?_
        refine s_val (.bool false) (by kernel_rfl) (fun _ => by kernel_rfl) ?_
        refine s_nil ?_
        refine fin_seq ?_
        refine ok_ret ?_
        refine fin_ret (.bool false) Try.results12 (by kernel_rfl) ?_
        exact fun w hO => ⟨by rw [show c.may = false from by unfold Cu.may; simp [h1, h4, h5]], hO.below⟩
    · skip
      refine s_dec (p := (c.e : Int) = -1) false (by kernel_rfl) (fun _ => by kernel_rfl) (decide_eq_false (h4)) ?_
      refine s_val (.bool false) (by kernel_rfl) (fun _ => by kernel_rfl) ?_
      refine s_val (.pointer (some ⟨b1, 0, none⟩)) (by kernel_rfl) (fun _ => by kernel_rfl) ?_
      refine s_load 0 ⟨b1, (cutV c).cells, 25⟩ (off := 0) (.int .i64 c.e) (by kernel_rfl) rfl (by kernel_rfl) (by kernel_rfl) (by kernel_rfl) ?_
      by_cases h7 : (c.e : Int) = 1
      · skip
        refine s_dec (p := (c.e : Int) = 1) true (by kernel_rfl) (fun _ => by kernel_rfl) (decide_eq_true (h7)) ?_
        refine s_val (.bool true) (by kernel_rfl) (fun _ => by kernel_rfl) ?_
        refine s_val (.bool true) (by kernel_rfl) (fun _ => by kernel_rfl) ?_
        refine s_val (.pointer (some ⟨b1, 1, none⟩)) (by kernel_rfl) (fun _ => by kernel_rfl) ?_
        refine s_load 0 ⟨b1, (cutV c).cells, 25⟩ (off := 1) (.agg #[.int .i64 c.v.maj, .int .i64 c.v.min, .int .i64 c.v.pat, .string (mkS c.v.pre), .string (mkS c.v.build)]) (by kernel_rfl) rfl (by kernel_rfl) (by kernel_rfl) (by kernel_rfl) ?_
        refine s_val (.agg #[.int .i64 0, .int .i64 0, .int .i64 0, .string ⟨#[]⟩, .string ⟨#[]⟩]) (by kernel_rfl) (fun _ => by kernel_rfl) ?_
        by_cases h8 : c.v = Ver.zero
        · skip
          refine s_val (.bool true) (by kernel_rfl) (op_eq_ver rfl (by kernel_rfl) (by kernel_rfl) (decide_eq_true (h8))) ?_
          refine s_val (.bool true) (by kernel_rfl) (fun _ => by kernel_rfl) ?_
          refine s_val (.bool true) (by kernel_rfl) (fun _ => by kernel_rfl) ?_
          refine s_val (.pointer (some ⟨b1, 6, none⟩)) (by kernel_rfl) (fun _ => by kernel_rfl) ?_
          refine s_load 0 ⟨b1, (cutV c).cells, 25⟩ (off := 6) (.bool c.aft) (by kernel_rfl) rfl (by kernel_rfl) (by kernel_rfl) (by kernel_rfl) ?_
          cases h9 : c.aft with
          | true =>
            refine s_val (.bool false) (by kernel_rfl) (fun _ => by kernel_rfl) ?_
            refine s_val (.bool false) (by kernel_rfl) (fun _ => by kernel_rfl) ?_
            refine s_val (.bool false) (by kernel_rfl) (fun _ => by kernel_rfl) ?_
            refine s_nil ?_
            refine fin_seq ?_
            refine ok_ret ?_
            refine fin_ret (.bool false) Try.results12 (by kernel_rfl) ?_
            exact fun w hO => ⟨by rw [show c.may = false from by unfold Cu.may; simp [h1, h4, h7, h8, h9]], hO.below⟩
          | false =>
            refine s_val (.bool true) (by kernel_rfl) (fun _ => by kernel_rfl) ?_
            refine s_val (.bool true) (by kernel_rfl) (fun _ => by kernel_rfl) ?_
            refine s_val (.bool true) (by kernel_rfl) (fun _ => by kernel_rfl) ?_
            refine s_nil ?_
            refine fin_seq ?_
            refine ok_ret ?_
            refine fin_ret (.bool true) Try.results12 (by kernel_rfl) ?_
            exact fun w hO => ⟨by rw [show c.may = true from by unfold Cu.may; simp [h1, h4, h7, h8, h9]], hO.below⟩
        · skip
          refine s_val (.bool false) (by kernel_rfl) (op_eq_ver rfl (by kernel_rfl) (by kernel_rfl) (decide_eq_false (h8))) ?_
          refine s_val (.bool false) (by kernel_rfl) (fun _ => by kernel_rfl) ?_
          refine s_val (.bool false) (by kernel_rfl) (fun _ => by kernel_rfl) ?_
          refine s_skip (by kernel_rfl) ?_
          refine s_skip (by kernel_rfl) ?_
          refine s_skip (by kernel_rfl) ?_
          refine s_val (.bool false) (by kernel_rfl) (fun _ => by kernel_rfl) ?_
          refine s_val (.bool false) (by kernel_rfl) (fun _ => by kernel_rfl) ?_
          refine s_nil ?_
          refine fin_seq ?_
          refine ok_ret ?_
          refine fin_ret (.bool false) Try.results12 (by kernel_rfl) ?_
          exact fun w hO => ⟨by rw [show c.may = false from by unfold Cu.may; simp [h1, h4, h7, h8]], hO.below⟩
      · skip
        refine s_dec (p := (c.e : Int) = 1) false (by kernel_rfl) (fun _ => by kernel_rfl) (decide_eq_false (h7)) ?_
        refine s_val (.bool false) (by kernel_rfl) (fun _ => by kernel_rfl) ?_
        refine s_val (.bool false) (by kernel_rfl) (fun _ => by kernel_rfl) ?_
        refine s_skip (by kernel_rfl) ?_
        refine s_skip (by kernel_rfl) ?_
        refine s_skip (by kernel_rfl) ?_
        refine s_skip (by kernel_rfl) ?_
        refine s_val (.bool false) (by kernel_rfl) (fun _ => by kernel_rfl) ?_
        refine s_val (.bool false) (by kernel_rfl) (fun _ => by kernel_rfl) ?_
        refine s_skip (by kernel_rfl) ?_
        refine s_skip (by kernel_rfl) ?_
        refine s_skip (by kernel_rfl) ?_
        refine s_val (.bool false) (by kernel_rfl) (fun _ => by kernel_rfl) ?_
        refine s_val (.bool false) (by kernel_rfl) (fun _ => by kernel_rfl) ?_
        refine s_nil ?_
        refine fin_seq ?_
        refine ok_ret ?_
        refine fin_ret (.bool false) Try.results12 (by kernel_rfl) ?_
        exact fun w hO => ⟨by rw [show c.may = false from by unfold Cu.may; simp [h1, h4, h7]], hO.below⟩
theorem cmpC_any (a b : Cu) (W : World) (ha : a.short) (hb : b.short) : Calls Try.prog 13 #[cutV a, cutV b] W fun e w' => e = .returned (.int .i64 (cmpC a b)) ∧ Below W.heap.size W w' := by
  refine calls_ok (n := 22) Try.func13 rfl (by kernel_rfl) (by kernel_rfl) ?_
  refine ok_seq ?_
  refine ok_region ?_
  refine s_box (cutV a) (by kernel_rfl) rfl (by kernel_rfl) (fun b1 => ?_)
  refine s_box (cutV b) (by kernel_rfl) rfl (by kernel_rfl) (fun b2 => ?_)
  refine s_val (.int .i64 0) (by kernel_rfl) (fun _ => by kernel_rfl) ?_
  refine s_nil ?_
  refine fin_seq ?_
  refine ok_seq ?_
  refine ok_block ?_
  refine ok_seq ?_
  refine ok_region ?_
  refine s_load 1 ⟨b1, (cutV a).cells, 25⟩ (off := 0) (cutV a) (by kernel_rfl) rfl (by kernel_rfl) (by kernel_rfl) (by kernel_rfl) ?_
  refine s_call (k := 11) (args := #[cutV a]) (.bool a.may) (by kernel_rfl) (fun _ => by kernel_rfl) (fun w _ => mayC_any a w ha) ?_
  cases h1 : a.may with
  | true =>
    refine s_val (.bool false) (by kernel_rfl) (fun _ => by kernel_rfl) ?_
    refine s_val (.bool false) (by kernel_rfl) (fun _ => by kernel_rfl) ?_
    refine s_load 0 ⟨b2, (cutV b).cells, 25⟩ (off := 0) (cutV b) (by kernel_rfl) rfl (by kernel_rfl) (by kernel_rfl) (by kernel_rfl) ?_
    refine s_call (k := 11) (args := #[cutV b]) (.bool b.may) (by kernel_rfl) (fun _ => by kernel_rfl) (fun w _ => mayC_any b w hb) ?_
    cases h2 : b.may with
    | true =>
      refine s_val (.bool false) (by kernel_rfl) (fun _ => by kernel_rfl) ?_
      refine s_val (.bool false) (by kernel_rfl) (fun _ => by kernel_rfl) ?_
      refine s_val (.bool false) (by kernel_rfl) (fun _ => by kernel_rfl) ?_
      refine s_nil ?_
      refine fin_seq ?_
      refine ok_false (by kernel_rfl) ?_
      refine ok_seq ?_
      refine ok_region ?_
      refine s_load 1 ⟨b1, (cutV a).cells, 25⟩ (off := 0) (cutV a) (by kernel_rfl) rfl (by kernel_rfl) (by kernel_rfl) (by kernel_rfl) ?_
      refine s_load 0 ⟨b2, (cutV b).cells, 25⟩ (off := 0) (cutV b) (by kernel_rfl) rfl (by kernel_rfl) (by kernel_rfl) (by kernel_rfl) ?_
      refine s_call (k := 27) (args := #[cutV a, cutV b]) (.bool (lessC a b)) (by kernel_rfl) (fun _ => by kernel_rfl) (fun w _ => less_any a b w ha hb) ?_
      refine s_val (.bool (lessC a b)) (by kernel_rfl) (fun _ => by kernel_rfl) ?_
      refine s_nil ?_
      refine fin_seq ?_
      cases h3 : lessC a b with
      | true =>
        refine ok_true (by kernel_rfl) ?_
        refine ok_seq ?_
        refine ok_region ?_
        refine s_val (.int .i64 (-1)) (by kernel_rfl) (fun _ => by kernel_rfl) ?_
        refine s_nil ?_
        refine fin_seq ?_
        refine ok_ret ?_
        refine fin_block_ret ?_
        refine fin_seq_ret ?_
        refine fin_ret (.int .i64 (-1)) Try.results13 (by kernel_rfl) ?_
        exact fun w hO => ⟨by rw [show cmpC a b = (-1) from by first | (rw [less_cmpC (by assumption) (by assumption)]; simp [h1, h2, h3]) | (exact cmpC_bad (.inl (by assumption))) | (exact cmpC_bad (.inr (by assumption)))], hO.below⟩
      | false =>
        refine ok_false (by kernel_rfl) ?_
        refine ok_seq ?_
        refine ok_region ?_
        refine s_load 0 ⟨b2, (cutV b).cells, 25⟩ (off := 0) (cutV b) (by kernel_rfl) rfl (by kernel_rfl) (by kernel_rfl) (by kernel_rfl) ?_
        refine s_load 1 ⟨b1, (cutV a).cells, 25⟩ (off := 0) (cutV a) (by kernel_rfl) rfl (by kernel_rfl) (by kernel_rfl) (by kernel_rfl) ?_
        refine s_call (k := 27) (args := #[cutV b, cutV a]) (.bool (lessC b a)) (by kernel_rfl) (fun _ => by kernel_rfl) (fun w _ => less_any b a w hb ha) ?_
        refine s_val (.bool (lessC b a)) (by kernel_rfl) (fun _ => by kernel_rfl) ?_
        refine s_nil ?_
        refine fin_seq ?_
        cases h4 : lessC b a with
        | true =>
          refine ok_true (by kernel_rfl) ?_
          refine ok_seq ?_
          refine ok_region ?_
          refine s_val (.int .i64 1) (by kernel_rfl) (fun _ => by kernel_rfl) ?_
          refine s_nil ?_
          refine fin_seq ?_
          refine ok_ret ?_
          refine fin_block_ret ?_
          refine fin_seq_ret ?_
          refine fin_ret (.int .i64 1) Try.results13 (by kernel_rfl) ?_
          exact fun w hO => ⟨by rw [show cmpC a b = 1 from by first | (rw [less_cmpC (by assumption) (by assumption)]; simp [h1, h2, h3, h4]) | (exact cmpC_bad (.inl (by assumption))) | (exact cmpC_bad (.inr (by assumption)))], hO.below⟩
        | false =>
          refine ok_false (by kernel_rfl) ?_
          refine ok_skip ?_
          refine fin_block ?_
          refine fin_seq ?_
          refine ok_seq ?_
          refine ok_region ?_
          refine s_val (.int .i64 0) (by kernel_rfl) (fun _ => by kernel_rfl) ?_
          refine s_nil ?_
          refine fin_seq ?_
          refine ok_ret ?_
          refine fin_ret (.int .i64 0) Try.results13 (by kernel_rfl) ?_
          exact fun w hO => ⟨by rw [show cmpC a b = 0 from by first | (rw [less_cmpC (by assumption) (by assumption)]; simp [h1, h2, h3, h4]) | (exact cmpC_bad (.inl (by assumption))) | (exact cmpC_bad (.inr (by assumption)))], hO.below⟩
    | false =>
      refine s_val (.bool true) (by kernel_rfl) (fun _ => by kernel_rfl) ?_
      refine s_val (.bool true) (by kernel_rfl) (fun _ => by kernel_rfl) ?_
      refine s_val (.bool true) (by kernel_rfl) (fun _ => by kernel_rfl) ?_
      refine s_nil ?_
      refine fin_seq ?_
      refine ok_true (by kernel_rfl) ?_
      refine ok_seq ?_
      refine ok_region ?_
      refine s_val (.int .i64 0) (by kernel_rfl) (fun _ => by kernel_rfl) ?_
      refine s_nil ?_
      refine fin_seq ?_
      refine ok_ret ?_
      refine fin_block_ret ?_
      refine fin_seq_ret ?_
      refine fin_ret (.int .i64 0) Try.results13 (by kernel_rfl) ?_
      exact fun w hO => ⟨by rw [show cmpC a b = 0 from by first | (rw [less_cmpC (by assumption) (by assumption)]; simp [h1, h2]) | (exact cmpC_bad (.inl (by assumption))) | (exact cmpC_bad (.inr (by assumption)))], hO.below⟩
  | false =>
    refine s_val (.bool true) (by kernel_rfl) (fun _ => by kernel_rfl) ?_
    refine s_val (.bool true) (by kernel_rfl) (fun _ => by kernel_rfl) ?_
    refine s_skip (by kernel_rfl) ?_
    refine s_skip (by kernel_rfl) ?_
    refine s_skip (by kernel_rfl) ?_
    refine s_val (.bool true) (by kernel_rfl) (fun _ => by kernel_rfl) ?_
    refine s_val (.bool true) (by kernel_rfl) (fun _ => by kernel_rfl) ?_
    refine s_nil ?_
    refine fin_seq ?_
    refine ok_true (by kernel_rfl) ?_
    refine ok_seq ?_
    refine ok_region ?_
    refine s_val (.int .i64 0) (by kernel_rfl) (fun _ => by kernel_rfl) ?_
    refine s_nil ?_
    refine fin_seq ?_
    refine ok_ret ?_
    refine fin_block_ret ?_
    refine fin_seq_ret ?_
    refine fin_ret (.int .i64 0) Try.results13 (by kernel_rfl) ?_
    exact fun w hO => ⟨by rw [show cmpC a b = 0 from by first | (rw [less_cmpC (by assumption) (by assumption)]; simp [h1]) | (exact cmpC_bad (.inl (by assumption))) | (exact cmpC_bad (.inr (by assumption)))], hO.below⟩
theorem rcmpC_eq {a b : Cu} {r : Int} (ha : a.may = true) (hb : b.may = true) (h : (if a.e ≠ b.e ∨ a.e ≠ 0 then Lib.compareInt a.e b.e else if cmpR a.v b.v ≠ 0 then cmpR a.v b.v else if a.aft = b.aft then 0 else if b.aft then -1 else 1) = r) : cmpC a b = r := by
  rw [← h, cmpC_good ha hb]
  by_cases he : a.e = b.e
  · rw [he, compareInt_self, lex_0]
    by_cases h0 : b.e = 0
    · rw [if_neg (by omega)]
      unfold lex
      by_cases hc : cmpR a.v b.v = 0
      · rw [if_pos hc, if_neg (by simpa using hc)]
        cases a.aft <;> cases b.aft <;> rfl
      · rw [if_neg hc, if_pos hc]
    · rw [if_pos (.inr h0)]
      have e1 : a.v = Ver.zero ∧ a.aft = false := (may_e ha).elim (fun x => absurd (he ▸ x.1) h0) (fun x => x.2)
      have e2 : b.v = Ver.zero ∧ b.aft = false := (may_e hb).elim (fun x => absurd x.1 h0) (fun x => x.2)
      rw [e1.1, e1.2, e2.1, e2.2, order_self]; rfl
  · rw [if_pos (.inl he)]
    rcases Int.lt_or_gt_of_ne he with h | h
    · rw [ci_lt h]; rfl
    · rw [ci_gt h]; rfl
theorem rcmpC_any (a b : Cu) (W : World) (ha : a.short) (hb : b.short) : Calls Try.prog 14 #[cutV a, cutV b] W fun e w' => e = .returned (.int .i64 (cmpC a b)) ∧ Below W.heap.size W w' := by
  refine calls_ok (n := 46) Try.func14 rfl (by kernel_rfl) (by kernel_rfl) ?_
  refine ok_seq ?_
  refine ok_region ?_
  refine s_box (cutV a) (by kernel_rfl) rfl (by kernel_rfl) (fun b1 => ?_)
  refine s_box (cutV b) (by kernel_rfl) rfl (by kernel_rfl) (fun b2 => ?_)
  refine s_val (.int .i64 0) (by kernel_rfl) (fun _ => by kernel_rfl) ?_
  refine s_nil ?_
  refine fin_seq ?_
  refine ok_seq ?_
  refine ok_seq ?_
  refine ok_region ?_
  refine s_load 1 ⟨b1, (cutV a).cells, 25⟩ (off := 0) (cutV a) (by kernel_rfl) rfl (by kernel_rfl) (by kernel_rfl) (by kernel_rfl) ?_
  refine s_call (k := 12) (args := #[cutV a]) (.bool a.may) (by kernel_rfl) (fun _ => by kernel_rfl) (fun w _ => rmayC_any a w ha) ?_
  cases h1 : a.may with
  | true =>
    refine s_val (.bool false) (by kernel_rfl) (fun _ => by kernel_rfl) ?_
    refine s_val (.bool false) (by kernel_rfl) (fun _ => by kernel_rfl) ?_
    refine s_load 0 ⟨b2, (cutV b).cells, 25⟩ (off := 0) (cutV b) (by kernel_rfl) rfl (by kernel_rfl) (by kernel_rfl) (by kernel_rfl) ?_
    refine s_call (k := 12) (args := #[cutV b]) (.bool b.may) (by kernel_rfl) (fun _ => by kernel_rfl) (fun w _ => rmayC_any b w hb) ?_
    cases h2 : b.may with
    | true =>
      refine s_val (.bool false) (by kernel_rfl) (fun _ => by kernel_rfl) ?_
      refine s_val (.bool false) (by kernel_rfl) (fun _ => by kernel_rfl) ?_
      refine s_nil ?_
      refine fin_seq ?_
      refine ok_false (by kernel_rfl) ?_
      refine ok_skip ?_
      refine fin_seq ?_
      refine ok_seq ?_
      refine ok_seq ?_
      refine ok_region ?_
      refine s_val (.pointer (some ⟨b1, 0, none⟩)) (by kernel_rfl) (fun _ => by kernel_rfl) ?_
      refine s_load 1 ⟨b1, (cutV a).cells, 25⟩ (off := 0) (.int .i64 a.e) (by kernel_rfl) rfl (by kernel_rfl) (by kernel_rfl) (by kernel_rfl) ?_
      refine s_val (.pointer (some ⟨b2, 0, none⟩)) (by kernel_rfl) (fun _ => by kernel_rfl) ?_
      refine s_load 0 ⟨b2, (cutV b).cells, 25⟩ (off := 0) (.int .i64 b.e) (by kernel_rfl) rfl (by kernel_rfl) (by kernel_rfl) (by kernel_rfl) ?_
      by_cases h3 : (a.e : Int) = b.e
      · skip
        refine s_ndec (p := (a.e : Int) = b.e) true (by kernel_rfl) (fun _ => by kernel_rfl) (decide_eq_true (h3)) ?_
        refine s_val (.bool false) (by kernel_rfl) (fun _ => by kernel_rfl) ?_
        refine s_val (.pointer (some ⟨b1, 0, none⟩)) (by kernel_rfl) (fun _ => by kernel_rfl) ?_
        refine s_load 1 ⟨b1, (cutV a).cells, 25⟩ (off := 0) (.int .i64 a.e) (by kernel_rfl) rfl (by kernel_rfl) (by kernel_rfl) (by kernel_rfl) ?_
        by_cases h4 : (a.e : Int) = 0
        · skip
          refine s_ndec (p := (a.e : Int) = 0) true (by kernel_rfl) (fun _ => by kernel_rfl) (decide_eq_true (h4)) ?_
          refine s_val (.bool false) (by kernel_rfl) (fun _ => by kernel_rfl) ?_
          refine s_nil ?_
          refine fin_seq ?_
          refine ok_false (by kernel_rfl) ?_
          refine ok_skip ?_
          refine fin_seq ?_
          refine ok_seq ?_
          refine ok_seq ?_
          refine ok_region ?_
          refine s_val (.pointer (some ⟨b1, 1, none⟩)) (by kernel_rfl) (fun _ => by kernel_rfl) ?_
          refine s_load 1 ⟨b1, (cutV a).cells, 25⟩ (off := 1) (.agg #[.int .i64 a.v.maj, .int .i64 a.v.min, .int .i64 a.v.pat, .string (mkS a.v.pre), .string (mkS a.v.build)]) (by kernel_rfl) rfl (by kernel_rfl) (by kernel_rfl) (by kernel_rfl) ?_
          refine s_val (.pointer (some ⟨b2, 1, none⟩)) (by kernel_rfl) (fun _ => by kernel_rfl) ?_
          refine s_load 0 ⟨b2, (cutV b).cells, 25⟩ (off := 1) (.agg #[.int .i64 b.v.maj, .int .i64 b.v.min, .int .i64 b.v.pat, .string (mkS b.v.pre), .string (mkS b.v.build)]) (by kernel_rfl) rfl (by kernel_rfl) (by kernel_rfl) (by kernel_rfl) ?_
          refine s_call (k := 29) (args := #[.agg #[.int .i64 a.v.maj, .int .i64 a.v.min, .int .i64 a.v.pat, .string (mkS a.v.pre), .string (mkS a.v.build)], .agg #[.int .i64 b.v.maj, .int .i64 b.v.min, .int .i64 b.v.pat, .string (mkS b.v.pre), .string (mkS b.v.build)]]) (.int .i64 (cmpR a.v b.v)) (by kernel_rfl) (fun _ => by kernel_rfl) (fun w _ => rcompare_any a.v b.v w ha.1 ha.2 hb.1 hb.2) ?_
          refine s_val (.int .i64 (cmpR a.v b.v)) (by kernel_rfl) (fun _ => by kernel_rfl) ?_
          refine s_nil ?_
          refine fin_seq ?_
          refine ok_seq ?_
          refine ok_region ?_
          refine s_val (.int .i64 (cmpR a.v b.v)) (by kernel_rfl) (fun _ => by kernel_rfl) ?_
          by_cases h5 : (cmpR a.v b.v : Int) = 0
          · skip
            refine s_ndec (p := (cmpR a.v b.v : Int) = 0) true (by kernel_rfl) (fun _ => by kernel_rfl) (decide_eq_true (h5)) ?_
            refine s_nil ?_
            refine fin_seq ?_
            refine ok_false (by kernel_rfl) ?_
            refine ok_skip ?_
            refine fin_seq ?_
            refine ok_seq ?_
            refine ok_block ?_
            refine ok_seq ?_
            refine ok_region ?_
            refine s_val (.pointer (some ⟨b1, 6, none⟩)) (by kernel_rfl) (fun _ => by kernel_rfl) ?_
            refine s_load 1 ⟨b1, (cutV a).cells, 25⟩ (off := 6) (.bool a.aft) (by kernel_rfl) rfl (by kernel_rfl) (by kernel_rfl) (by kernel_rfl) ?_
            refine s_val (.pointer (some ⟨b2, 6, none⟩)) (by kernel_rfl) (fun _ => by kernel_rfl) ?_
            refine s_load 0 ⟨b2, (cutV b).cells, 25⟩ (off := 6) (.bool b.aft) (by kernel_rfl) rfl (by kernel_rfl) (by kernel_rfl) (by kernel_rfl) ?_
            cases h6 : a.aft with
            | true =>
              cases h7 : b.aft with
              | true =>
                refine s_val (.bool true) (by kernel_rfl) (fun _ => by kernel_rfl) ?_
                refine s_val (.bool true) (by kernel_rfl) (fun _ => by kernel_rfl) ?_
                refine s_nil ?_
                refine fin_seq ?_
                refine ok_true (by kernel_rfl) ?_
                refine ok_seq ?_
                refine ok_region ?_
                refine s_val (.int .i64 0) (by kernel_rfl) (fun _ => by kernel_rfl) ?_
                refine s_nil ?_
                refine fin_seq ?_
                refine ok_ret ?_
                refine fin_block_ret ?_
                refine fin_seq_ret ?_
                refine fin_ret (.int .i64 0) Try.results14 (by kernel_rfl) ?_
                exact fun w hO => ⟨by rw [show cmpC a b = 0 from by first | (exact cmpC_bad (.inl (by assumption))) | (exact cmpC_bad (.inr (by assumption))) | exact rcmpC_eq (by assumption) (by assumption) (by simp_all)], hO.below⟩
              | false =>
                refine s_val (.bool false) (by kernel_rfl) (fun _ => by kernel_rfl) ?_
                refine s_val (.bool false) (by kernel_rfl) (fun _ => by kernel_rfl) ?_
                refine s_nil ?_
                refine fin_seq ?_
                refine ok_false (by kernel_rfl) ?_
                refine ok_seq ?_
                refine ok_region ?_
                refine s_val (.pointer (some ⟨b2, 6, none⟩)) (by kernel_rfl) (fun _ => by kernel_rfl) ?_
                refine s_load 0 ⟨b2, (cutV b).cells, 25⟩ (off := 6) (.bool b.aft) (by kernel_rfl) rfl (by kernel_rfl) (by kernel_rfl) (by kernel_rfl) ?_
                rw [h7]
                refine s_val (.bool false) (by kernel_rfl) (fun _ => by kernel_rfl) ?_
                refine s_nil ?_
                refine fin_seq ?_
                refine ok_false (by kernel_rfl) ?_
                refine ok_skip ?_
                refine fin_block ?_
                refine fin_seq ?_
                refine ok_seq ?_
                refine ok_region ?_
                refine s_val (.int .i64 1) (by kernel_rfl) (fun _ => by kernel_rfl) ?_
                refine s_nil ?_
                refine fin_seq ?_
                refine ok_ret ?_
                refine fin_ret (.int .i64 1) Try.results14 (by kernel_rfl) ?_
                exact fun w hO => ⟨by rw [show cmpC a b = 1 from by first | (exact cmpC_bad (.inl (by assumption))) | (exact cmpC_bad (.inr (by assumption))) | exact rcmpC_eq (by assumption) (by assumption) (by simp_all)], hO.below⟩
            | false =>
              cases h8 : b.aft with
              | true =>
                refine s_val (.bool false) (by kernel_rfl) (fun _ => by kernel_rfl) ?_
                refine s_val (.bool false) (by kernel_rfl) (fun _ => by kernel_rfl) ?_
                refine s_nil ?_
                refine fin_seq ?_
                refine ok_false (by kernel_rfl) ?_
                refine ok_seq ?_
                refine ok_region ?_
                refine s_val (.pointer (some ⟨b2, 6, none⟩)) (by kernel_rfl) (fun _ => by kernel_rfl) ?_
                refine s_load 0 ⟨b2, (cutV b).cells, 25⟩ (off := 6) (.bool b.aft) (by kernel_rfl) rfl (by kernel_rfl) (by kernel_rfl) (by kernel_rfl) ?_
                rw [h8]
                refine s_val (.bool true) (by kernel_rfl) (fun _ => by kernel_rfl) ?_
                refine s_nil ?_
                refine fin_seq ?_
                refine ok_true (by kernel_rfl) ?_
                refine ok_seq ?_
                refine ok_region ?_
                refine s_val (.int .i64 (-1)) (by kernel_rfl) (fun _ => by kernel_rfl) ?_
                refine s_nil ?_
                refine fin_seq ?_
                refine ok_ret ?_
                refine fin_block_ret ?_
                refine fin_seq_ret ?_
                refine fin_ret (.int .i64 (-1)) Try.results14 (by kernel_rfl) ?_
                exact fun w hO => ⟨by rw [show cmpC a b = (-1) from by first | (exact cmpC_bad (.inl (by assumption))) | (exact cmpC_bad (.inr (by assumption))) | exact rcmpC_eq (by assumption) (by assumption) (by simp_all)], hO.below⟩
              | false =>
                refine s_val (.bool true) (by kernel_rfl) (fun _ => by kernel_rfl) ?_
                refine s_val (.bool true) (by kernel_rfl) (fun _ => by kernel_rfl) ?_
                refine s_nil ?_
                refine fin_seq ?_
                refine ok_true (by kernel_rfl) ?_
                refine ok_seq ?_
                refine ok_region ?_
                refine s_val (.int .i64 0) (by kernel_rfl) (fun _ => by kernel_rfl) ?_
                refine s_nil ?_
                refine fin_seq ?_
                refine ok_ret ?_
                refine fin_block_ret ?_
                refine fin_seq_ret ?_
                refine fin_ret (.int .i64 0) Try.results14 (by kernel_rfl) ?_
                exact fun w hO => ⟨by rw [show cmpC a b = 0 from by first | (exact cmpC_bad (.inl (by assumption))) | (exact cmpC_bad (.inr (by assumption))) | exact rcmpC_eq (by assumption) (by assumption) (by simp_all)], hO.below⟩
          · skip
            refine s_ndec (p := (cmpR a.v b.v : Int) = 0) false (by kernel_rfl) (fun _ => by kernel_rfl) (decide_eq_false (h5)) ?_
            refine s_nil ?_
            refine fin_seq ?_
            refine ok_true (by kernel_rfl) ?_
            refine ok_seq ?_
            refine ok_region ?_
            refine s_val (.int .i64 (cmpR a.v b.v)) (by kernel_rfl) (fun _ => by kernel_rfl) ?_
            refine s_val (.int .i64 (cmpR a.v b.v)) (by kernel_rfl) (fun _ => by kernel_rfl) ?_
            refine s_nil ?_
            refine fin_seq ?_
            refine ok_ret ?_
            refine fin_seq_ret ?_
            refine fin_ret (.int .i64 (cmpR a.v b.v)) Try.results14 (by kernel_rfl) ?_
            exact fun w hO => ⟨by rw [show cmpC a b = (cmpR a.v b.v) from by first | (exact cmpC_bad (.inl (by assumption))) | (exact cmpC_bad (.inr (by assumption))) | exact rcmpC_eq (by assumption) (by assumption) (by simp_all)], hO.below⟩
        · skip
          refine s_ndec (p := (a.e : Int) = 0) false (by kernel_rfl) (fun _ => by kernel_rfl) (decide_eq_false (h4)) ?_
          refine s_val (.bool true) (by kernel_rfl) (fun _ => by kernel_rfl) ?_
          refine s_nil ?_
          refine fin_seq ?_
          refine ok_true (by kernel_rfl) ?_
          refine ok_seq ?_
          refine ok_region ?_
          refine s_val (.pointer (some ⟨b1, 0, none⟩)) (by kernel_rfl) (fun _ => by kernel_rfl) ?_
          refine s_load 1 ⟨b1, (cutV a).cells, 25⟩ (off := 0) (.int .i64 a.e) (by kernel_rfl) rfl (by kernel_rfl) (by kernel_rfl) (by kernel_rfl) ?_
          refine s_val (.pointer (some ⟨b2, 0, none⟩)) (by kernel_rfl) (fun _ => by kernel_rfl) ?_
          refine s_load 0 ⟨b2, (cutV b).cells, 25⟩ (off := 0) (.int .i64 b.e) (by kernel_rfl) rfl (by kernel_rfl) (by kernel_rfl) (by kernel_rfl) ?_
          refine s_call (k := 28) (args := #[.int .i64 a.e, .int .i64 b.e]) (.int .i64 (Lib.compareInt a.e b.e)) (by kernel_rfl) (fun _ => by kernel_rfl) (fun w _ => (rints_any a.e b.e w).mono fun _ _ ⟨h1, h2⟩ => ⟨h1, h2 ▸ Below.refl _ _⟩) ?_
          refine s_val (.int .i64 (Lib.compareInt a.e b.e)) (by kernel_rfl) (fun _ => by kernel_rfl) ?_
          refine s_nil ?_
          refine fin_seq ?_
          refine ok_ret ?_
          refine fin_seq_ret ?_
          refine fin_ret (.int .i64 (Lib.compareInt a.e b.e)) Try.results14 (by kernel_rfl) ?_
          exact fun w hO => ⟨by rw [show cmpC a b = (Lib.compareInt a.e b.e) from by first | (exact cmpC_bad (.inl (by assumption))) | (exact cmpC_bad (.inr (by assumption))) | exact rcmpC_eq (by assumption) (by assumption) (by simp_all)], hO.below⟩
      · skip
        refine s_ndec (p := (a.e : Int) = b.e) false (by kernel_rfl) (fun _ => by kernel_rfl) (decide_eq_false (h3)) ?_
        refine s_val (.bool true) (by kernel_rfl) (fun _ => by kernel_rfl) ?_
        refine s_skip (by kernel_rfl) ?_
        refine s_skip (by kernel_rfl) ?_
        refine s_skip (by kernel_rfl) ?_
        refine s_val (.bool true) (by kernel_rfl) (fun _ => by kernel_rfl) ?_
        refine s_nil ?_
        refine fin_seq ?_
        refine ok_true (by kernel_rfl) ?_
        refine ok_seq ?_
        refine ok_region ?_
        refine s_val (.pointer (some ⟨b1, 0, none⟩)) (by kernel_rfl) (fun _ => by kernel_rfl) ?_
        refine s_load 1 ⟨b1, (cutV a).cells, 25⟩ (off := 0) (.int .i64 a.e) (by kernel_rfl) rfl (by kernel_rfl) (by kernel_rfl) (by kernel_rfl) ?_
        refine s_val (.pointer (some ⟨b2, 0, none⟩)) (by kernel_rfl) (fun _ => by kernel_rfl) ?_
        refine s_load 0 ⟨b2, (cutV b).cells, 25⟩ (off := 0) (.int .i64 b.e) (by kernel_rfl) rfl (by kernel_rfl) (by kernel_rfl) (by kernel_rfl) ?_
        refine s_call (k := 28) (args := #[.int .i64 a.e, .int .i64 b.e]) (.int .i64 (Lib.compareInt a.e b.e)) (by kernel_rfl) (fun _ => by kernel_rfl) (fun w _ => (rints_any a.e b.e w).mono fun _ _ ⟨h1, h2⟩ => ⟨h1, h2 ▸ Below.refl _ _⟩) ?_
        refine s_val (.int .i64 (Lib.compareInt a.e b.e)) (by kernel_rfl) (fun _ => by kernel_rfl) ?_
        refine s_nil ?_
        refine fin_seq ?_
        refine ok_ret ?_
        refine fin_seq_ret ?_
        refine fin_ret (.int .i64 (Lib.compareInt a.e b.e)) Try.results14 (by kernel_rfl) ?_
        exact fun w hO => ⟨by rw [show cmpC a b = (Lib.compareInt a.e b.e) from by first | (exact cmpC_bad (.inl (by assumption))) | (exact cmpC_bad (.inr (by assumption))) | exact rcmpC_eq (by assumption) (by assumption) (by simp_all)], hO.below⟩
    | false =>
      refine s_val (.bool true) (by kernel_rfl) (fun _ => by kernel_rfl) ?_
      refine s_val (.bool true) (by kernel_rfl) (fun _ => by kernel_rfl) ?_
      refine s_nil ?_
      refine fin_seq ?_
      refine ok_true (by kernel_rfl) ?_
      refine ok_seq ?_
      refine ok_region ?_
      refine s_val (.int .i64 0) (by kernel_rfl) (fun _ => by kernel_rfl) ?_
      refine s_nil ?_
      refine fin_seq ?_
      refine ok_ret ?_
      refine fin_seq_ret ?_
      refine fin_ret (.int .i64 0) Try.results14 (by kernel_rfl) ?_
      exact fun w hO => ⟨by rw [show cmpC a b = 0 from by first | (exact cmpC_bad (.inl (by assumption))) | (exact cmpC_bad (.inr (by assumption))) | exact rcmpC_eq (by assumption) (by assumption) (by simp_all)], hO.below⟩
  | false =>
    refine s_val (.bool true) (by kernel_rfl) (fun _ => by kernel_rfl) ?_
    refine s_val (.bool true) (by kernel_rfl) (fun _ => by kernel_rfl) ?_
    refine s_skip (by kernel_rfl) ?_
    refine s_skip (by kernel_rfl) ?_
    refine s_skip (by kernel_rfl) ?_
    refine s_val (.bool true) (by kernel_rfl) (fun _ => by kernel_rfl) ?_
    refine s_nil ?_
    refine fin_seq ?_
    refine ok_true (by kernel_rfl) ?_
    refine ok_seq ?_
    refine ok_region ?_
    refine s_val (.int .i64 0) (by kernel_rfl) (fun _ => by kernel_rfl) ?_
    refine s_nil ?_
    refine fin_seq ?_
    refine ok_ret ?_
    refine fin_seq_ret ?_
    refine fin_ret (.int .i64 0) Try.results14 (by kernel_rfl) ?_
    exact fun w hO => ⟨by rw [show cmpC a b = 0 from by first | (exact cmpC_bad (.inl (by assumption))) | (exact cmpC_bad (.inr (by assumption))) | exact rcmpC_eq (by assumption) (by assumption) (by simp_all)], hO.below⟩
theorem aheadC_any (c : Cu) (v : Ver) (W : World) (hc : c.short) (hv : v.short) : Calls Try.prog 15 #[cutV c, verV v] W fun e w' => e = .returned (.bool (aheadC c v)) ∧ Below W.heap.size W w' := by
  refine calls_ok (n := 18) Try.func15 rfl (by kernel_rfl) (by kernel_rfl) ?_
  refine ok_seq ?_
  refine ok_region ?_
  refine s_box (cutV c) (by kernel_rfl) rfl (by kernel_rfl) (fun b1 => ?_)
  refine s_box (verV v) (by kernel_rfl) rfl (by kernel_rfl) (fun b2 => ?_)
  refine s_val (.bool false) (by kernel_rfl) (fun _ => by kernel_rfl) ?_
  refine s_nil ?_
  refine fin_seq ?_
  refine ok_seq ?_
  refine ok_region ?_
  refine s_load 1 ⟨b1, (cutV c).cells, 25⟩ (off := 0) (cutV c) (by kernel_rfl) rfl (by kernel_rfl) (by kernel_rfl) (by kernel_rfl) ?_
  refine s_call (k := 11) (args := #[cutV c]) (.bool c.may) (by kernel_rfl) (fun _ => by kernel_rfl) (fun w _ => mayC_any c w hc) ?_
  refine s_val (.bool c.may) (by kernel_rfl) (fun _ => by kernel_rfl) ?_
  cases h1 : c.may with
  | true =>
    refine s_load 0 ⟨b2, (verV v).cells, 23⟩ (off := 0) (verV v) (by kernel_rfl) rfl (by kernel_rfl) (by kernel_rfl) (by kernel_rfl) ?_
    refine s_call (k := 25) (args := #[verV v]) (.bool v.may) (by kernel_rfl) (fun _ => by kernel_rfl) (fun w _ => may_any v w (Nat.lt_of_le_of_lt hv.1 (by decide)) (Nat.lt_of_le_of_lt hv.2 (by decide))) ?_
    refine s_val (.bool v.may) (by kernel_rfl) (fun _ => by kernel_rfl) ?_
    refine s_val (.bool v.may) (by kernel_rfl) (fun _ => by kernel_rfl) ?_
    cases h2 : v.may with
    | true =>
      refine s_load 0 ⟨b2, (verV v).cells, 23⟩ (off := 0) (verV v) (by kernel_rfl) rfl (by kernel_rfl) (by kernel_rfl) (by kernel_rfl) ?_
      refine s_val (.agg #[.int .i64 0, .int .i64 v.maj, .int .i64 v.min, .int .i64 v.pat, .string (mkS v.pre), .string (mkS v.build), .bool false]) (by kernel_rfl) (fun _ => by kernel_rfl) ?_
      refine s_load 1 ⟨b1, (cutV c).cells, 25⟩ (off := 0) (cutV c) (by kernel_rfl) rfl (by kernel_rfl) (by kernel_rfl) (by kernel_rfl) ?_
      refine s_call (k := 27) (args := #[.agg #[.int .i64 0, .int .i64 v.maj, .int .i64 v.min, .int .i64 v.pat, .string (mkS v.pre), .string (mkS v.build), .bool false], cutV c]) (.bool (lessC ⟨0, v, false⟩ c)) (by kernel_rfl) (fun _ => by kernel_rfl) (fun w _ => less_any ⟨0, v, false⟩ c w hv hc) ?_
      cases h3 : lessC ⟨0, v, false⟩ c with
      | true =>
        refine s_val (.bool false) (by kernel_rfl) (fun _ => by kernel_rfl) ?_
        refine s_val (.bool false) (by kernel_rfl) (fun _ => by kernel_rfl) ?_
        refine s_val (.bool false) (by kernel_rfl) (fun _ => by kernel_rfl) ?_
        refine s_nil ?_
        refine fin_seq ?_
        refine ok_ret ?_
        refine fin_ret (.bool false) Try.results15 (by kernel_rfl) ?_
        exact fun w hO => ⟨by rw [show aheadC c v = false from by rw [ahead_less]; simp [h1, h2, h3]], hO.below⟩
      | false =>
        refine s_val (.bool true) (by kernel_rfl) (fun _ => by kernel_rfl) ?_
        refine s_val (.bool true) (by kernel_rfl) (fun _ => by kernel_rfl) ?_
        refine s_val (.bool true) (by kernel_rfl) (fun _ => by kernel_rfl) ?_
        refine s_nil ?_
        refine fin_seq ?_
        refine ok_ret ?_
        refine fin_ret (.bool true) Try.results15 (by kernel_rfl) ?_
        exact fun w hO => ⟨by rw [show aheadC c v = true from by rw [ahead_less]; simp [h1, h2, h3]], hO.below⟩
    | false =>
      refine s_skip (by kernel_rfl) ?_
      refine s_skip (by kernel_rfl) ?_
      refine s_skip (by kernel_rfl) ?_
      refine s_skip (by kernel_rfl) ?_
      refine s_skip (by kernel_rfl) ?_
      refine s_val (.bool false) (by kernel_rfl) (fun _ => by kernel_rfl) ?_
      refine s_val (.bool false) (by kernel_rfl) (fun _ => by kernel_rfl) ?_
      refine s_nil ?_
      refine fin_seq ?_
      refine ok_ret ?_
      refine fin_ret (.bool false) Try.results15 (by kernel_rfl) ?_
      exact fun w hO => ⟨by rw [show aheadC c v = false from by rw [ahead_less]; simp [h1, h2]], hO.below⟩
  | false =>
    refine s_skip (by kernel_rfl) ?_
    refine s_skip (by kernel_rfl) ?_
    refine s_val (.bool false) (by kernel_rfl) (fun _ => by kernel_rfl) ?_
    refine s_val (.bool false) (by kernel_rfl) (fun _ => by kernel_rfl) ?_
    refine s_skip (by kernel_rfl) ?_
    refine s_skip (by kernel_rfl) ?_
    refine s_skip (by kernel_rfl) ?_
    refine s_skip (by kernel_rfl) ?_
    refine s_skip (by kernel_rfl) ?_
    refine s_val (.bool false) (by kernel_rfl) (fun _ => by kernel_rfl) ?_
    refine s_val (.bool false) (by kernel_rfl) (fun _ => by kernel_rfl) ?_
    refine s_nil ?_
    refine fin_seq ?_
    refine ok_ret ?_
    refine fin_ret (.bool false) Try.results15 (by kernel_rfl) ?_
    exact fun w hO => ⟨by rw [show aheadC c v = false from by rw [ahead_less]; simp [h1]], hO.below⟩
theorem raheadC_any (c : Cu) (v : Ver) (W : World) (hc : c.short) (hv : v.short) : Calls Try.prog 16 #[cutV c, verV v] W fun e w' => e = .returned (.bool (aheadC c v)) ∧ Below W.heap.size W w' := by
  refine calls_ok (n := 35) Try.func16 rfl (by kernel_rfl) (by kernel_rfl) ?_
  refine ok_seq ?_
  refine ok_region ?_
  refine s_box (cutV c) (by kernel_rfl) rfl (by kernel_rfl) (fun b1 => ?_)
  refine s_box (verV v) (by kernel_rfl) rfl (by kernel_rfl) (fun b2 => ?_)
  refine s_val (.bool false) (by kernel_rfl) (fun _ => by kernel_rfl) ?_
  refine s_nil ?_
  refine fin_seq ?_
  refine ok_seq ?_
  refine ok_seq ?_
  refine ok_region ?_
  refine s_load 1 ⟨b1, (cutV c).cells, 25⟩ (off := 0) (cutV c) (by kernel_rfl) rfl (by kernel_rfl) (by kernel_rfl) (by kernel_rfl) ?_
  refine s_call (k := 12) (args := #[cutV c]) (.bool c.may) (by kernel_rfl) (fun _ => by kernel_rfl) (fun w _ => rmayC_any c w hc) ?_
  cases h1 : c.may with
  | true =>
    refine s_val (.bool false) (by kernel_rfl) (fun _ => by kernel_rfl) ?_
    refine s_val (.bool false) (by kernel_rfl) (fun _ => by kernel_rfl) ?_
    refine s_load 0 ⟨b2, (verV v).cells, 23⟩ (off := 0) (verV v) (by kernel_rfl) rfl (by kernel_rfl) (by kernel_rfl) (by kernel_rfl) ?_
    refine s_call (k := 26) (args := #[verV v]) (.bool v.may) (by kernel_rfl) (fun _ => by kernel_rfl) (fun w _ => rmay_any v w hv.1 hv.2) ?_
    cases h2 : v.may with
    | true =>
      refine s_val (.bool false) (by kernel_rfl) (fun _ => by kernel_rfl) ?_
      refine s_val (.bool false) (by kernel_rfl) (fun _ => by kernel_rfl) ?_
      refine s_nil ?_
      refine fin_seq ?_
      refine ok_false (by kernel_rfl) ?_
      refine ok_skip ?_
      refine fin_seq ?_
      refine ok_seq ?_
      refine ok_seq ?_
      refine ok_region ?_
      refine s_val (.pointer (some ⟨b1, 0, none⟩)) (by kernel_rfl) (fun _ => by kernel_rfl) ?_
      refine s_load 1 ⟨b1, (cutV c).cells, 25⟩ (off := 0) (.int .i64 c.e) (by kernel_rfl) rfl (by kernel_rfl) (by kernel_rfl) (by kernel_rfl) ?_
      by_cases h3 : (c.e : Int) = 0
      · skip
        refine s_ndec (p := (c.e : Int) = 0) true (by kernel_rfl) (fun _ => by kernel_rfl) (decide_eq_true (h3)) ?_
        refine s_nil ?_
        refine fin_seq ?_
        refine ok_false (by kernel_rfl) ?_
        refine ok_skip ?_
        refine fin_seq ?_
        refine ok_seq ?_
        refine ok_region ?_
        refine s_val (.pointer (some ⟨b1, 1, none⟩)) (by kernel_rfl) (fun _ => by kernel_rfl) ?_
        refine s_load 1 ⟨b1, (cutV c).cells, 25⟩ (off := 1) (.agg #[.int .i64 c.v.maj, .int .i64 c.v.min, .int .i64 c.v.pat, .string (mkS c.v.pre), .string (mkS c.v.build)]) (by kernel_rfl) rfl (by kernel_rfl) (by kernel_rfl) (by kernel_rfl) ?_
        refine s_load 0 ⟨b2, (verV v).cells, 23⟩ (off := 0) (verV v) (by kernel_rfl) rfl (by kernel_rfl) (by kernel_rfl) (by kernel_rfl) ?_
        refine s_call (k := 29) (args := #[.agg #[.int .i64 c.v.maj, .int .i64 c.v.min, .int .i64 c.v.pat, .string (mkS c.v.pre), .string (mkS c.v.build)], verV v]) (.int .i64 (cmpR c.v v)) (by kernel_rfl) (fun _ => by kernel_rfl) (fun w _ => rcompare_any c.v v w hc.1 hc.2 hv.1 hv.2) ?_
        refine s_val (.int .i64 (cmpR c.v v)) (by kernel_rfl) (fun _ => by kernel_rfl) ?_
        refine s_nil ?_
        refine fin_seq ?_
        refine ok_seq ?_
        refine ok_region ?_
        refine s_val (.int .i64 (cmpR c.v v)) (by kernel_rfl) (fun _ => by kernel_rfl) ?_
        by_cases h4 : (cmpR c.v v : Int) < 0
        · skip
          refine s_dec (p := (cmpR c.v v : Int) < 0) true (by kernel_rfl) (fun _ => by kernel_rfl) (decide_eq_true (h4)) ?_
          refine s_val (.bool true) (by kernel_rfl) (fun _ => by kernel_rfl) ?_
          refine s_skip (by kernel_rfl) ?_
          refine s_skip (by kernel_rfl) ?_
          refine s_skip (by kernel_rfl) ?_
          refine s_skip (by kernel_rfl) ?_
          refine s_skip (by kernel_rfl) ?_
          refine s_skip (by kernel_rfl) ?_
          refine s_skip (by kernel_rfl) ?_
          refine s_val (.bool true) (by kernel_rfl) (fun _ => by kernel_rfl) ?_
          refine s_val (.bool true) (by kernel_rfl) (fun _ => by kernel_rfl) ?_
          refine s_nil ?_
          refine fin_seq ?_
          refine ok_ret ?_
          refine fin_ret (.bool true) Try.results16 (by kernel_rfl) ?_
          exact fun w hO => ⟨by rw [show aheadC c v = true from by unfold aheadC; simp [h1, h2, h3, h4]], hO.below⟩
        · skip
          refine s_dec (p := (cmpR c.v v : Int) < 0) false (by kernel_rfl) (fun _ => by kernel_rfl) (decide_eq_false (h4)) ?_
          refine s_val (.bool false) (by kernel_rfl) (fun _ => by kernel_rfl) ?_
          refine s_val (.int .i64 (cmpR c.v v)) (by kernel_rfl) (fun _ => by kernel_rfl) ?_
          by_cases h5 : (cmpR c.v v : Int) = 0
          · skip
            refine s_dec (p := (cmpR c.v v : Int) = 0) true (by kernel_rfl) (fun _ => by kernel_rfl) (decide_eq_true (h5)) ?_
            refine s_val (.bool true) (by kernel_rfl) (fun _ => by kernel_rfl) ?_
            refine s_val (.pointer (some ⟨b1, 6, none⟩)) (by kernel_rfl) (fun _ => by kernel_rfl) ?_
            refine s_load 1 ⟨b1, (cutV c).cells, 25⟩ (off := 6) (.bool c.aft) (by kernel_rfl) rfl (by kernel_rfl) (by kernel_rfl) (by kernel_rfl) ?_
            cases h6 : c.aft with
            | true =>
              refine s_val (.bool false) (by kernel_rfl) (fun _ => by kernel_rfl) ?_
              refine s_val (.bool false) (by kernel_rfl) (fun _ => by kernel_rfl) ?_
              refine s_val (.bool false) (by kernel_rfl) (fun _ => by kernel_rfl) ?_
              refine s_val (.bool false) (by kernel_rfl) (fun _ => by kernel_rfl) ?_
              refine s_nil ?_
              refine fin_seq ?_
              refine ok_ret ?_
              refine fin_ret (.bool false) Try.results16 (by kernel_rfl) ?_
              exact fun w hO => ⟨by rw [show aheadC c v = false from by unfold aheadC; simp [h1, h2, h3, h4, h5, h6]], hO.below⟩
            | false =>
              refine s_val (.bool true) (by kernel_rfl) (fun _ => by kernel_rfl) ?_
              refine s_val (.bool true) (by kernel_rfl) (fun _ => by kernel_rfl) ?_
              refine s_val (.bool true) (by kernel_rfl) (fun _ => by kernel_rfl) ?_
              refine s_val (.bool true) (by kernel_rfl) (fun _ => by kernel_rfl) ?_
              refine s_nil ?_
              refine fin_seq ?_
              refine ok_ret ?_
              refine fin_ret (.bool true) Try.results16 (by kernel_rfl) ?_
              exact fun w hO => ⟨by rw [show aheadC c v = true from by unfold aheadC; simp [h1, h2, h3, h4, h5, h6]], hO.below⟩
          · skip
            refine s_dec (p := (cmpR c.v v : Int) = 0) false (by kernel_rfl) (fun _ => by kernel_rfl) (decide_eq_false (h5)) ?_
            refine s_val (.bool false) (by kernel_rfl) (fun _ => by kernel_rfl) ?_
            refine s_skip (by kernel_rfl) ?_
            refine s_skip (by kernel_rfl) ?_
            refine s_skip (by kernel_rfl) ?_
            refine s_val (.bool false) (by kernel_rfl) (fun _ => by kernel_rfl) ?_
            refine s_val (.bool false) (by kernel_rfl) (fun _ => by kernel_rfl) ?_
            refine s_val (.bool false) (by kernel_rfl) (fun _ => by kernel_rfl) ?_
            refine s_nil ?_
            refine fin_seq ?_
            refine ok_ret ?_
            refine fin_ret (.bool false) Try.results16 (by kernel_rfl) ?_
            exact fun w hO => ⟨by rw [show aheadC c v = false from by unfold aheadC; simp [h1, h2, h3, h4, h5]], hO.below⟩
      · skip
        refine s_ndec (p := (c.e : Int) = 0) false (by kernel_rfl) (fun _ => by kernel_rfl) (decide_eq_false (h3)) ?_
        refine s_nil ?_
        refine fin_seq ?_
        refine ok_true (by kernel_rfl) ?_
        refine ok_seq ?_
        refine ok_region ?_
        refine s_val (.pointer (some ⟨b1, 0, none⟩)) (by kernel_rfl) (fun _ => by kernel_rfl) ?_
        refine s_load 1 ⟨b1, (cutV c).cells, 25⟩ (off := 0) (.int .i64 c.e) (by kernel_rfl) rfl (by kernel_rfl) (by kernel_rfl) (by kernel_rfl) ?_
        by_cases h7 : (c.e : Int) < 0
        · skip
          refine s_dec (p := (c.e : Int) < 0) true (by kernel_rfl) (fun _ => by kernel_rfl) (decide_eq_true (h7)) ?_
          refine s_val (.bool true) (by kernel_rfl) (fun _ => by kernel_rfl) ?_
          refine s_nil ?_
          refine fin_seq ?_
          refine ok_ret ?_
          refine fin_seq_ret ?_
          refine fin_ret (.bool true) Try.results16 (by kernel_rfl) ?_
          exact fun w hO => ⟨by rw [show aheadC c v = true from by unfold aheadC; simp [h1, h2, h3, h7]], hO.below⟩
        · skip
          refine s_dec (p := (c.e : Int) < 0) false (by kernel_rfl) (fun _ => by kernel_rfl) (decide_eq_false (h7)) ?_
          refine s_val (.bool false) (by kernel_rfl) (fun _ => by kernel_rfl) ?_
          refine s_nil ?_
          refine fin_seq ?_
          refine ok_ret ?_
          refine fin_seq_ret ?_
          refine fin_ret (.bool false) Try.results16 (by kernel_rfl) ?_
          exact fun w hO => ⟨by rw [show aheadC c v = false from by unfold aheadC; simp [h1, h2, h3, h7]], hO.below⟩
    | false =>
      refine s_val (.bool true) (by kernel_rfl) (fun _ => by kernel_rfl) ?_
      refine s_val (.bool true) (by kernel_rfl) (fun _ => by kernel_rfl) ?_
      refine s_nil ?_
      refine fin_seq ?_
      refine ok_true (by kernel_rfl) ?_
      refine ok_seq ?_
      refine ok_region ?_
      refine s_val (.bool false) (by kernel_rfl) (fun _ => by kernel_rfl) ?_
      refine s_nil ?_
      refine fin_seq ?_
      refine ok_ret ?_
      refine fin_seq_ret ?_
      refine fin_ret (.bool false) Try.results16 (by kernel_rfl) ?_
      exact fun w hO => ⟨by rw [show aheadC c v = false from by unfold aheadC; simp [h1, h2]], hO.below⟩
  | false =>
    refine s_val (.bool true) (by kernel_rfl) (fun _ => by kernel_rfl) ?_
    refine s_val (.bool true) (by kernel_rfl) (fun _ => by kernel_rfl) ?_
    refine s_skip (by kernel_rfl) ?_
    refine s_skip (by kernel_rfl) ?_
    refine s_skip (by kernel_rfl) ?_
    refine s_val (.bool true) (by kernel_rfl) (fun _ => by kernel_rfl) ?_
    refine s_nil ?_
    refine fin_seq ?_
    refine ok_true (by kernel_rfl) ?_
    refine ok_seq ?_
    refine ok_region ?_
    refine s_val (.bool false) (by kernel_rfl) (fun _ => by kernel_rfl) ?_
    refine s_nil ?_
    refine fin_seq ?_
    refine ok_ret ?_
    refine fin_seq_ret ?_
    refine fin_ret (.bool false) Try.results16 (by kernel_rfl) ?_
    exact fun w hO => ⟨by rw [show aheadC c v = false from by unfold aheadC; simp [h1]], hO.below⟩
theorem spanMay_any (s : Sp) (W : World) (hs : s.short) : Calls Try.prog 17 #[spanV s] W fun e w' => e = .returned (.bool s.may) ∧ Below W.heap.size W w' := by
  refine calls_ok (n := 9) Try.func17 rfl (by kernel_rfl) (by kernel_rfl) ?_
  refine ok_seq ?_
  refine ok_region ?_
  refine s_box (spanV s) (by kernel_rfl) rfl (by kernel_rfl) (fun b1 => ?_)
  refine s_val (.bool false) (by kernel_rfl) (fun _ => by kernel_rfl) ?_
  refine s_nil ?_
  refine fin_seq ?_
  refine ok_seq ?_
  refine ok_region ?_
  refine s_val (.pointer (some ⟨b1, 0, none⟩)) (by kernel_rfl) (fun _ => by kernel_rfl) ?_
  refine s_load 0 ⟨b1, (spanV s).cells, 32⟩ (off := 0) (.agg #[.int .i64 s.lo.e, .int .i64 s.lo.v.maj, .int .i64 s.lo.v.min, .int .i64 s.lo.v.pat, .string (mkS s.lo.v.pre), .string (mkS s.lo.v.build), .bool s.lo.aft]) (by kernel_rfl) rfl (by kernel_rfl) (by kernel_rfl) (by kernel_rfl) ?_
  refine s_val (.pointer (some ⟨b1, 7, none⟩)) (by kernel_rfl) (fun _ => by kernel_rfl) ?_
  refine s_load 0 ⟨b1, (spanV s).cells, 32⟩ (off := 7) (.agg #[.int .i64 s.hi.e, .int .i64 s.hi.v.maj, .int .i64 s.hi.v.min, .int .i64 s.hi.v.pat, .string (mkS s.hi.v.pre), .string (mkS s.hi.v.build), .bool s.hi.aft]) (by kernel_rfl) rfl (by kernel_rfl) (by kernel_rfl) (by kernel_rfl) ?_
  refine s_call (k := 13) (args := #[.agg #[.int .i64 s.lo.e, .int .i64 s.lo.v.maj, .int .i64 s.lo.v.min, .int .i64 s.lo.v.pat, .string (mkS s.lo.v.pre), .string (mkS s.lo.v.build), .bool s.lo.aft], .agg #[.int .i64 s.hi.e, .int .i64 s.hi.v.maj, .int .i64 s.hi.v.min, .int .i64 s.hi.v.pat, .string (mkS s.hi.v.pre), .string (mkS s.hi.v.build), .bool s.hi.aft]]) (.int .i64 (cmpC s.lo s.hi)) (by kernel_rfl) (fun _ => by kernel_rfl) (fun w _ => cmpC_any s.lo s.hi w hs.1 hs.2) ?_
  by_cases h1 : (cmpC s.lo s.hi : Int) = -1
  · skip
    refine s_dec (p := (cmpC s.lo s.hi : Int) = -1) true (by kernel_rfl) (fun _ => by kernel_rfl) (decide_eq_true (h1)) ?_
    refine s_val (.bool true) (by kernel_rfl) (fun _ => by kernel_rfl) ?_
    refine s_nil ?_
    refine fin_seq ?_
    refine ok_ret ?_
    refine fin_ret (.bool true) Try.results17 (by kernel_rfl) ?_
    exact fun w hO => ⟨by rw [show s.may = true from by unfold Sp.may; simp [h1]], hO.below⟩
  · skip
    refine s_dec (p := (cmpC s.lo s.hi : Int) = -1) false (by kernel_rfl) (fun _ => by kernel_rfl) (decide_eq_false (h1)) ?_
    refine s_val (.bool false) (by kernel_rfl) (fun _ => by kernel_rfl) ?_
    refine s_nil ?_
    refine fin_seq ?_
    refine ok_ret ?_
    refine fin_ret (.bool false) Try.results17 (by kernel_rfl) ?_
    exact fun w hO => ⟨by rw [show s.may = false from by unfold Sp.may; simp [h1]], hO.below⟩
theorem rspanMay_any (s : Sp) (W : World) (hs : s.short) : Calls Try.prog 18 #[spanV s] W fun e w' => e = .returned (.bool s.may) ∧ Below W.heap.size W w' := by
  refine calls_ok (n := 19) Try.func18 rfl (by kernel_rfl) (by kernel_rfl) ?_
  refine ok_seq ?_
  refine ok_region ?_
  refine s_box (spanV s) (by kernel_rfl) rfl (by kernel_rfl) (fun b1 => ?_)
  refine s_val (.bool false) (by kernel_rfl) (fun _ => by kernel_rfl) ?_
  refine s_nil ?_
  refine fin_seq ?_
  refine ok_seq ?_
  refine ok_region ?_
  refine s_val (.pointer (some ⟨b1, 0, none⟩)) (by kernel_rfl) (fun _ => by kernel_rfl) ?_
  refine s_load 0 ⟨b1, (spanV s).cells, 32⟩ (off := 0) (.agg #[.int .i64 s.lo.e, .int .i64 s.lo.v.maj, .int .i64 s.lo.v.min, .int .i64 s.lo.v.pat, .string (mkS s.lo.v.pre), .string (mkS s.lo.v.build), .bool s.lo.aft]) (by kernel_rfl) rfl (by kernel_rfl) (by kernel_rfl) (by kernel_rfl) ?_
  refine s_call (k := 12) (args := #[.agg #[.int .i64 s.lo.e, .int .i64 s.lo.v.maj, .int .i64 s.lo.v.min, .int .i64 s.lo.v.pat, .string (mkS s.lo.v.pre), .string (mkS s.lo.v.build), .bool s.lo.aft]]) (.bool s.lo.may) (by kernel_rfl) (fun _ => by kernel_rfl) (fun w _ => rmayC_any s.lo w hs.1) ?_
  refine s_val (.bool s.lo.may) (by kernel_rfl) (fun _ => by kernel_rfl) ?_
  cases h1 : s.lo.may with
  | true =>
    refine s_val (.pointer (some ⟨b1, 7, none⟩)) (by kernel_rfl) (fun _ => by kernel_rfl) ?_
    refine s_load 0 ⟨b1, (spanV s).cells, 32⟩ (off := 7) (.agg #[.int .i64 s.hi.e, .int .i64 s.hi.v.maj, .int .i64 s.hi.v.min, .int .i64 s.hi.v.pat, .string (mkS s.hi.v.pre), .string (mkS s.hi.v.build), .bool s.hi.aft]) (by kernel_rfl) rfl (by kernel_rfl) (by kernel_rfl) (by kernel_rfl) ?_
    refine s_call (k := 12) (args := #[.agg #[.int .i64 s.hi.e, .int .i64 s.hi.v.maj, .int .i64 s.hi.v.min, .int .i64 s.hi.v.pat, .string (mkS s.hi.v.pre), .string (mkS s.hi.v.build), .bool s.hi.aft]]) (.bool s.hi.may) (by kernel_rfl) (fun _ => by kernel_rfl) (fun w _ => rmayC_any s.hi w hs.2) ?_
    refine s_val (.bool s.hi.may) (by kernel_rfl) (fun _ => by kernel_rfl) ?_
    refine s_val (.bool s.hi.may) (by kernel_rfl) (fun _ => by kernel_rfl) ?_
    cases h2 : s.hi.may with
    | true =>
      refine s_val (.pointer (some ⟨b1, 0, none⟩)) (by kernel_rfl) (fun _ => by kernel_rfl) ?_
      refine s_load 0 ⟨b1, (spanV s).cells, 32⟩ (off := 0) (.agg #[.int .i64 s.lo.e, .int .i64 s.lo.v.maj, .int .i64 s.lo.v.min, .int .i64 s.lo.v.pat, .string (mkS s.lo.v.pre), .string (mkS s.lo.v.build), .bool s.lo.aft]) (by kernel_rfl) rfl (by kernel_rfl) (by kernel_rfl) (by kernel_rfl) ?_
      refine s_val (.pointer (some ⟨b1, 7, none⟩)) (by kernel_rfl) (fun _ => by kernel_rfl) ?_
      refine s_load 0 ⟨b1, (spanV s).cells, 32⟩ (off := 7) (.agg #[.int .i64 s.hi.e, .int .i64 s.hi.v.maj, .int .i64 s.hi.v.min, .int .i64 s.hi.v.pat, .string (mkS s.hi.v.pre), .string (mkS s.hi.v.build), .bool s.hi.aft]) (by kernel_rfl) rfl (by kernel_rfl) (by kernel_rfl) (by kernel_rfl) ?_
      refine s_call (k := 14) (args := #[.agg #[.int .i64 s.lo.e, .int .i64 s.lo.v.maj, .int .i64 s.lo.v.min, .int .i64 s.lo.v.pat, .string (mkS s.lo.v.pre), .string (mkS s.lo.v.build), .bool s.lo.aft], .agg #[.int .i64 s.hi.e, .int .i64 s.hi.v.maj, .int .i64 s.hi.v.min, .int .i64 s.hi.v.pat, .string (mkS s.hi.v.pre), .string (mkS s.hi.v.build), .bool s.hi.aft]]) (.int .i64 (cmpC s.lo s.hi)) (by kernel_rfl) (fun _ => by kernel_rfl) (fun w _ => rcmpC_any s.lo s.hi w hs.1 hs.2) ?_
      by_cases h3 : (cmpC s.lo s.hi : Int) < 0
      · skip
        refine s_dec (p := (cmpC s.lo s.hi : Int) < 0) true (by kernel_rfl) (fun _ => by kernel_rfl) (decide_eq_true (h3)) ?_
        refine s_val (.bool true) (by kernel_rfl) (fun _ => by kernel_rfl) ?_
        refine s_val (.bool true) (by kernel_rfl) (fun _ => by kernel_rfl) ?_
        refine s_nil ?_
        refine fin_seq ?_
        refine ok_ret ?_
        refine fin_ret (.bool true) Try.results18 (by kernel_rfl) ?_
        exact fun w hO => ⟨by rw [show s.may = true from by rw [← span_ref]; simp [h1, h2, h3]], hO.below⟩
      · skip
        refine s_dec (p := (cmpC s.lo s.hi : Int) < 0) false (by kernel_rfl) (fun _ => by kernel_rfl) (decide_eq_false (h3)) ?_
        refine s_val (.bool false) (by kernel_rfl) (fun _ => by kernel_rfl) ?_
        refine s_val (.bool false) (by kernel_rfl) (fun _ => by kernel_rfl) ?_
        refine s_nil ?_
        refine fin_seq ?_
        refine ok_ret ?_
        refine fin_ret (.bool false) Try.results18 (by kernel_rfl) ?_
        exact fun w hO => ⟨by rw [show s.may = false from by rw [← span_ref]; simp [h1, h2, h3]], hO.below⟩
    | false =>
      refine s_skip (by kernel_rfl) ?_
      refine s_skip (by kernel_rfl) ?_
      refine s_skip (by kernel_rfl) ?_
      refine s_skip (by kernel_rfl) ?_
      refine s_skip (by kernel_rfl) ?_
      refine s_skip (by kernel_rfl) ?_
      refine s_val (.bool false) (by kernel_rfl) (fun _ => by kernel_rfl) ?_
      refine s_val (.bool false) (by kernel_rfl) (fun _ => by kernel_rfl) ?_
      refine s_nil ?_
      refine fin_seq ?_
      refine ok_ret ?_
      refine fin_ret (.bool false) Try.results18 (by kernel_rfl) ?_
      exact fun w hO => ⟨by rw [show s.may = false from by rw [← span_ref]; simp [h1, h2]], hO.below⟩
  | false =>
    refine s_skip (by kernel_rfl) ?_
    refine s_skip (by kernel_rfl) ?_
    refine s_skip (by kernel_rfl) ?_
    refine s_val (.bool false) (by kernel_rfl) (fun _ => by kernel_rfl) ?_
    refine s_val (.bool false) (by kernel_rfl) (fun _ => by kernel_rfl) ?_
    refine s_skip (by kernel_rfl) ?_
    refine s_skip (by kernel_rfl) ?_
    refine s_skip (by kernel_rfl) ?_
    refine s_skip (by kernel_rfl) ?_
    refine s_skip (by kernel_rfl) ?_
    refine s_skip (by kernel_rfl) ?_
    refine s_val (.bool false) (by kernel_rfl) (fun _ => by kernel_rfl) ?_
    refine s_val (.bool false) (by kernel_rfl) (fun _ => by kernel_rfl) ?_
    refine s_nil ?_
    refine fin_seq ?_
    refine ok_ret ?_
    refine fin_ret (.bool false) Try.results18 (by kernel_rfl) ?_
    exact fun w hO => ⟨by rw [show s.may = false from by rw [← span_ref]; simp [h1]], hO.below⟩
theorem holdsC_any (s : Sp) (v : Ver) (W : World) (hs : s.short) (hv : v.short) : Calls Try.prog 19 #[spanV s, verV v] W fun e w' => e = .returned (.bool (holdsC s v)) ∧ Below W.heap.size W w' := by
  refine calls_ok (n := 20) Try.func19 rfl (by kernel_rfl) (by kernel_rfl) ?_
  refine ok_seq ?_
  refine ok_region ?_
  refine s_box (spanV s) (by kernel_rfl) rfl (by kernel_rfl) (fun b1 => ?_)
  refine s_box (verV v) (by kernel_rfl) rfl (by kernel_rfl) (fun b2 => ?_)
  refine s_val (.bool false) (by kernel_rfl) (fun _ => by kernel_rfl) ?_
  refine s_nil ?_
  refine fin_seq ?_
  refine ok_seq ?_
  refine ok_region ?_
  refine s_load 1 ⟨b1, (spanV s).cells, 32⟩ (off := 0) (spanV s) (by kernel_rfl) rfl (by kernel_rfl) (by kernel_rfl) (by kernel_rfl) ?_
  refine s_call (k := 17) (args := #[spanV s]) (.bool s.may) (by kernel_rfl) (fun _ => by kernel_rfl) (fun w _ => spanMay_any s w hs) ?_
  refine s_val (.bool s.may) (by kernel_rfl) (fun _ => by kernel_rfl) ?_
  cases h1 : s.may with
  | true =>
    refine s_val (.pointer (some ⟨b1, 0, none⟩)) (by kernel_rfl) (fun _ => by kernel_rfl) ?_
    refine s_load 1 ⟨b1, (spanV s).cells, 32⟩ (off := 0) (.agg #[.int .i64 s.lo.e, .int .i64 s.lo.v.maj, .int .i64 s.lo.v.min, .int .i64 s.lo.v.pat, .string (mkS s.lo.v.pre), .string (mkS s.lo.v.build), .bool s.lo.aft]) (by kernel_rfl) rfl (by kernel_rfl) (by kernel_rfl) (by kernel_rfl) ?_
    refine s_load 0 ⟨b2, (verV v).cells, 23⟩ (off := 0) (verV v) (by kernel_rfl) rfl (by kernel_rfl) (by kernel_rfl) (by kernel_rfl) ?_
    refine s_call (k := 15) (args := #[.agg #[.int .i64 s.lo.e, .int .i64 s.lo.v.maj, .int .i64 s.lo.v.min, .int .i64 s.lo.v.pat, .string (mkS s.lo.v.pre), .string (mkS s.lo.v.build), .bool s.lo.aft], verV v]) (.bool (aheadC s.lo v)) (by kernel_rfl) (fun _ => by kernel_rfl) (fun w _ => aheadC_any s.lo v w hs.1 hv) ?_
    refine s_val (.bool (aheadC s.lo v)) (by kernel_rfl) (fun _ => by kernel_rfl) ?_
    refine s_val (.bool (aheadC s.lo v)) (by kernel_rfl) (fun _ => by kernel_rfl) ?_
    cases h2 : aheadC s.lo v with
    | true =>
      refine s_val (.pointer (some ⟨b1, 7, none⟩)) (by kernel_rfl) (fun _ => by kernel_rfl) ?_
      refine s_load 1 ⟨b1, (spanV s).cells, 32⟩ (off := 7) (.agg #[.int .i64 s.hi.e, .int .i64 s.hi.v.maj, .int .i64 s.hi.v.min, .int .i64 s.hi.v.pat, .string (mkS s.hi.v.pre), .string (mkS s.hi.v.build), .bool s.hi.aft]) (by kernel_rfl) rfl (by kernel_rfl) (by kernel_rfl) (by kernel_rfl) ?_
      refine s_load 0 ⟨b2, (verV v).cells, 23⟩ (off := 0) (verV v) (by kernel_rfl) rfl (by kernel_rfl) (by kernel_rfl) (by kernel_rfl) ?_
      refine s_call (k := 15) (args := #[.agg #[.int .i64 s.hi.e, .int .i64 s.hi.v.maj, .int .i64 s.hi.v.min, .int .i64 s.hi.v.pat, .string (mkS s.hi.v.pre), .string (mkS s.hi.v.build), .bool s.hi.aft], verV v]) (.bool (aheadC s.hi v)) (by kernel_rfl) (fun _ => by kernel_rfl) (fun w _ => aheadC_any s.hi v w hs.2 hv) ?_
      cases h3 : aheadC s.hi v with
      | true =>
        refine s_val (.bool false) (by kernel_rfl) (fun _ => by kernel_rfl) ?_
        refine s_val (.bool false) (by kernel_rfl) (fun _ => by kernel_rfl) ?_
        refine s_val (.bool false) (by kernel_rfl) (fun _ => by kernel_rfl) ?_
        refine s_nil ?_
        refine fin_seq ?_
        refine ok_ret ?_
        refine fin_ret (.bool false) Try.results19 (by kernel_rfl) ?_
        exact fun w hO => ⟨by rw [show holdsC s v = false from by unfold holdsC; simp [h1, h2, h3]], hO.below⟩
      | false =>
        refine s_val (.bool true) (by kernel_rfl) (fun _ => by kernel_rfl) ?_
        refine s_val (.bool true) (by kernel_rfl) (fun _ => by kernel_rfl) ?_
        refine s_val (.bool true) (by kernel_rfl) (fun _ => by kernel_rfl) ?_
        refine s_nil ?_
        refine fin_seq ?_
        refine ok_ret ?_
        refine fin_ret (.bool true) Try.results19 (by kernel_rfl) ?_
        exact fun w hO => ⟨by rw [show holdsC s v = true from by unfold holdsC; simp [h1, h2, h3]], hO.below⟩
    | false =>
      refine s_skip (by kernel_rfl) ?_
      refine s_skip (by kernel_rfl) ?_
      refine s_skip (by kernel_rfl) ?_
      refine s_skip (by kernel_rfl) ?_
      refine s_skip (by kernel_rfl) ?_
      refine s_val (.bool false) (by kernel_rfl) (fun _ => by kernel_rfl) ?_
      refine s_val (.bool false) (by kernel_rfl) (fun _ => by kernel_rfl) ?_
      refine s_nil ?_
      refine fin_seq ?_
      refine ok_ret ?_
      refine fin_ret (.bool false) Try.results19 (by kernel_rfl) ?_
      exact fun w hO => ⟨by rw [show holdsC s v = false from by unfold holdsC; simp [h1, h2]], hO.below⟩
  | false =>
    refine s_skip (by kernel_rfl) ?_
    refine s_skip (by kernel_rfl) ?_
    refine s_skip (by kernel_rfl) ?_
    refine s_skip (by kernel_rfl) ?_
    refine s_val (.bool false) (by kernel_rfl) (fun _ => by kernel_rfl) ?_
    refine s_val (.bool false) (by kernel_rfl) (fun _ => by kernel_rfl) ?_
    refine s_skip (by kernel_rfl) ?_
    refine s_skip (by kernel_rfl) ?_
    refine s_skip (by kernel_rfl) ?_
    refine s_skip (by kernel_rfl) ?_
    refine s_skip (by kernel_rfl) ?_
    refine s_val (.bool false) (by kernel_rfl) (fun _ => by kernel_rfl) ?_
    refine s_val (.bool false) (by kernel_rfl) (fun _ => by kernel_rfl) ?_
    refine s_nil ?_
    refine fin_seq ?_
    refine ok_ret ?_
    refine fin_ret (.bool false) Try.results19 (by kernel_rfl) ?_
    exact fun w hO => ⟨by rw [show holdsC s v = false from by unfold holdsC; simp [h1]], hO.below⟩
theorem rholdsC_any (s : Sp) (v : Ver) (W : World) (hs : s.short) (hv : v.short) : Calls Try.prog 20 #[spanV s, verV v] W fun e w' => e = .returned (.bool (holdsC s v)) ∧ Below W.heap.size W w' := by
  refine calls_ok (n := 24) Try.func20 rfl (by kernel_rfl) (by kernel_rfl) ?_
  refine ok_seq ?_
  refine ok_region ?_
  refine s_box (spanV s) (by kernel_rfl) rfl (by kernel_rfl) (fun b1 => ?_)
  refine s_box (verV v) (by kernel_rfl) rfl (by kernel_rfl) (fun b2 => ?_)
  refine s_val (.bool false) (by kernel_rfl) (fun _ => by kernel_rfl) ?_
  refine s_nil ?_
  refine fin_seq ?_
  refine ok_seq ?_
  refine ok_region ?_
  refine s_load 1 ⟨b1, (spanV s).cells, 32⟩ (off := 0) (spanV s) (by kernel_rfl) rfl (by kernel_rfl) (by kernel_rfl) (by kernel_rfl) ?_
  refine s_call (k := 18) (args := #[spanV s]) (.bool s.may) (by kernel_rfl) (fun _ => by kernel_rfl) (fun w _ => rspanMay_any s w hs) ?_
  refine s_val (.bool s.may) (by kernel_rfl) (fun _ => by kernel_rfl) ?_
  cases h1 : s.may with
  | true =>
    refine s_load 0 ⟨b2, (verV v).cells, 23⟩ (off := 0) (verV v) (by kernel_rfl) rfl (by kernel_rfl) (by kernel_rfl) (by kernel_rfl) ?_
    refine s_call (k := 26) (args := #[verV v]) (.bool v.may) (by kernel_rfl) (fun _ => by kernel_rfl) (fun w _ => rmay_any v w hv.1 hv.2) ?_
    refine s_val (.bool v.may) (by kernel_rfl) (fun _ => by kernel_rfl) ?_
    refine s_val (.bool v.may) (by kernel_rfl) (fun _ => by kernel_rfl) ?_
    cases h2 : v.may with
    | true =>
      refine s_val (.pointer (some ⟨b1, 0, none⟩)) (by kernel_rfl) (fun _ => by kernel_rfl) ?_
      refine s_load 1 ⟨b1, (spanV s).cells, 32⟩ (off := 0) (.agg #[.int .i64 s.lo.e, .int .i64 s.lo.v.maj, .int .i64 s.lo.v.min, .int .i64 s.lo.v.pat, .string (mkS s.lo.v.pre), .string (mkS s.lo.v.build), .bool s.lo.aft]) (by kernel_rfl) rfl (by kernel_rfl) (by kernel_rfl) (by kernel_rfl) ?_
      refine s_load 0 ⟨b2, (verV v).cells, 23⟩ (off := 0) (verV v) (by kernel_rfl) rfl (by kernel_rfl) (by kernel_rfl) (by kernel_rfl) ?_
      refine s_call (k := 16) (args := #[.agg #[.int .i64 s.lo.e, .int .i64 s.lo.v.maj, .int .i64 s.lo.v.min, .int .i64 s.lo.v.pat, .string (mkS s.lo.v.pre), .string (mkS s.lo.v.build), .bool s.lo.aft], verV v]) (.bool (aheadC s.lo v)) (by kernel_rfl) (fun _ => by kernel_rfl) (fun w _ => raheadC_any s.lo v w hs.1 hv) ?_
      refine s_val (.bool (aheadC s.lo v)) (by kernel_rfl) (fun _ => by kernel_rfl) ?_
      refine s_val (.bool (aheadC s.lo v)) (by kernel_rfl) (fun _ => by kernel_rfl) ?_
      cases h3 : aheadC s.lo v with
      | true =>
        refine s_val (.pointer (some ⟨b1, 7, none⟩)) (by kernel_rfl) (fun _ => by kernel_rfl) ?_
        refine s_load 1 ⟨b1, (spanV s).cells, 32⟩ (off := 7) (.agg #[.int .i64 s.hi.e, .int .i64 s.hi.v.maj, .int .i64 s.hi.v.min, .int .i64 s.hi.v.pat, .string (mkS s.hi.v.pre), .string (mkS s.hi.v.build), .bool s.hi.aft]) (by kernel_rfl) rfl (by kernel_rfl) (by kernel_rfl) (by kernel_rfl) ?_
        refine s_load 0 ⟨b2, (verV v).cells, 23⟩ (off := 0) (verV v) (by kernel_rfl) rfl (by kernel_rfl) (by kernel_rfl) (by kernel_rfl) ?_
        refine s_call (k := 16) (args := #[.agg #[.int .i64 s.hi.e, .int .i64 s.hi.v.maj, .int .i64 s.hi.v.min, .int .i64 s.hi.v.pat, .string (mkS s.hi.v.pre), .string (mkS s.hi.v.build), .bool s.hi.aft], verV v]) (.bool (aheadC s.hi v)) (by kernel_rfl) (fun _ => by kernel_rfl) (fun w _ => raheadC_any s.hi v w hs.2 hv) ?_
        cases h4 : aheadC s.hi v with
        | true =>
          refine s_val (.bool false) (by kernel_rfl) (fun _ => by kernel_rfl) ?_
          refine s_val (.bool false) (by kernel_rfl) (fun _ => by kernel_rfl) ?_
          refine s_val (.bool false) (by kernel_rfl) (fun _ => by kernel_rfl) ?_
          refine s_nil ?_
          refine fin_seq ?_
          refine ok_ret ?_
          refine fin_ret (.bool false) Try.results20 (by kernel_rfl) ?_
          exact fun w hO => ⟨by rw [show holdsC s v = false from by rw [← holds_ref]; simp [h1, h2, h3, h4]], hO.below⟩
        | false =>
          refine s_val (.bool true) (by kernel_rfl) (fun _ => by kernel_rfl) ?_
          refine s_val (.bool true) (by kernel_rfl) (fun _ => by kernel_rfl) ?_
          refine s_val (.bool true) (by kernel_rfl) (fun _ => by kernel_rfl) ?_
          refine s_nil ?_
          refine fin_seq ?_
          refine ok_ret ?_
          refine fin_ret (.bool true) Try.results20 (by kernel_rfl) ?_
          exact fun w hO => ⟨by rw [show holdsC s v = true from by rw [← holds_ref]; simp [h1, h2, h3, h4]], hO.below⟩
      | false =>
        refine s_skip (by kernel_rfl) ?_
        refine s_skip (by kernel_rfl) ?_
        refine s_skip (by kernel_rfl) ?_
        refine s_skip (by kernel_rfl) ?_
        refine s_skip (by kernel_rfl) ?_
        refine s_val (.bool false) (by kernel_rfl) (fun _ => by kernel_rfl) ?_
        refine s_val (.bool false) (by kernel_rfl) (fun _ => by kernel_rfl) ?_
        refine s_nil ?_
        refine fin_seq ?_
        refine ok_ret ?_
        refine fin_ret (.bool false) Try.results20 (by kernel_rfl) ?_
        exact fun w hO => ⟨by rw [show holdsC s v = false from by rw [← holds_ref]; simp [h1, h2, h3]], hO.below⟩
    | false =>
      refine s_skip (by kernel_rfl) ?_
      refine s_skip (by kernel_rfl) ?_
      refine s_skip (by kernel_rfl) ?_
      refine s_skip (by kernel_rfl) ?_
      refine s_val (.bool false) (by kernel_rfl) (fun _ => by kernel_rfl) ?_
      refine s_val (.bool false) (by kernel_rfl) (fun _ => by kernel_rfl) ?_
      refine s_skip (by kernel_rfl) ?_
      refine s_skip (by kernel_rfl) ?_
      refine s_skip (by kernel_rfl) ?_
      refine s_skip (by kernel_rfl) ?_
      refine s_skip (by kernel_rfl) ?_
      refine s_val (.bool false) (by kernel_rfl) (fun _ => by kernel_rfl) ?_
      refine s_val (.bool false) (by kernel_rfl) (fun _ => by kernel_rfl) ?_
      refine s_nil ?_
      refine fin_seq ?_
      refine ok_ret ?_
      refine fin_ret (.bool false) Try.results20 (by kernel_rfl) ?_
      exact fun w hO => ⟨by rw [show holdsC s v = false from by rw [← holds_ref]; simp [h1, h2]], hO.below⟩
  | false =>
    refine s_skip (by kernel_rfl) ?_
    refine s_skip (by kernel_rfl) ?_
    refine s_val (.bool false) (by kernel_rfl) (fun _ => by kernel_rfl) ?_
    refine s_val (.bool false) (by kernel_rfl) (fun _ => by kernel_rfl) ?_
    refine s_skip (by kernel_rfl) ?_
    refine s_skip (by kernel_rfl) ?_
    refine s_skip (by kernel_rfl) ?_
    refine s_skip (by kernel_rfl) ?_
    refine s_val (.bool false) (by kernel_rfl) (fun _ => by kernel_rfl) ?_
    refine s_val (.bool false) (by kernel_rfl) (fun _ => by kernel_rfl) ?_
    refine s_skip (by kernel_rfl) ?_
    refine s_skip (by kernel_rfl) ?_
    refine s_skip (by kernel_rfl) ?_
    refine s_skip (by kernel_rfl) ?_
    refine s_skip (by kernel_rfl) ?_
    refine s_val (.bool false) (by kernel_rfl) (fun _ => by kernel_rfl) ?_
    refine s_val (.bool false) (by kernel_rfl) (fun _ => by kernel_rfl) ?_
    refine s_nil ?_
    refine fin_seq ?_
    refine ok_ret ?_
    refine fin_ret (.bool false) Try.results20 (by kernel_rfl) ?_
    exact fun w hO => ⟨by rw [show holdsC s v = false from by rw [← holds_ref]; simp [h1]], hO.below⟩
end Go.Proofs.Ytndjdmbbndcohaa
