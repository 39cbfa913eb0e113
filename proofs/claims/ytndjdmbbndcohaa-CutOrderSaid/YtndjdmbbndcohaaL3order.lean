/-
  CutOrder: for every list of numbers the law returns true, and nothing that was there is changed. No condition.
-/
import Derived.Test.YtndjdmbbndcohaaP3
namespace Go.Proofs.Ytndjdmbbndcohaa
open Go.RowKit
set_option maxRecDepth 100000
set_option linter.unusedVariables false
set_option linter.unusedSimpArgs false
set_option maxHeartbeats 4000000
theorem cutOrder.law (W : World) (v : Value) (l : List Int) (hv : ReadsI W W.heap.size v l) (hl : l.length ≤ maxLen) : Calls Try.prog 5 #[v] W fun e w' => e = .returned (.bool true) ∧ Below W.heap.size W w' := by
  unfold maxLen at hl
  obtain ⟨a, ha⟩ : ∃ x, genC l 0 = x := ⟨_, rfl⟩
  have ma := genC_may l 0
  have sa := genCS l 0
  rw [ha] at ma sa
  obtain ⟨b, hb⟩ : ∃ x, genC l 6 = x := ⟨_, rfl⟩
  have mb := genC_may l 6
  have sb := genCS l 6
  rw [hb] at mb sb
  obtain ⟨c, hc⟩ : ∃ x, genC l 12 = x := ⟨_, rfl⟩
  have mc := genC_may l 12
  have sc := genCS l 12
  rw [hc] at mc sc
  have hanti := cut_anti (a := a) (b := b)
  have hon : 0 < cmpC a b ∨ 0 < cmpC b c ∨ (cmpC a c ≤ 0 ∧ (cmpC a c = 0 → cmpC a b = 0 ∧ cmpC b c = 0)) := by
    by_cases h1 : cmpC a b ≤ 0
    · by_cases h2 : cmpC b c ≤ 0
      · exact .inr (.inr (cut_on ma mb mc h1 h2))
      · exact .inr (.inl (by omega))
    · exact .inl (by omega)
  have hsame := cut_same ma mb mc
  have hfi := first_le ma
  have hla := le_last ma
  have heq := cut_eq ma mb
  have hr := cmpC_range a b
  refine calls_ok (n := 80) Try.func5 rfl (by kernel_rfl) (by kernel_rfl) ?_
  refine ok_seq ?_
  refine ok_region ?_
  refine s_val (.bool false) (by kernel_rfl) (fun _ => by kernel_rfl) ?_
  refine s_nil ?_
  refine fin_seq ?_
  refine ok_seq ?_
  refine ok_region ?_
  refine s_val (v) (by kernel_rfl) (fun _ => by kernel_rfl) ?_
  refine s_call (k := 21) (args := #[v, .int .i64 0]) (cutV a) (by kernel_rfl) (fun _ => by kernel_rfl) (fun w hO => ret_v (congrArg cutV ha) (genC_any v l 0 w ((hv.below hO.below).more hO.below.size) hl (by omega))) ?_
  refine s_val (v) (by kernel_rfl) (fun _ => by kernel_rfl) ?_
  refine s_call (k := 21) (args := #[v, .int .i64 6]) (cutV b) (by kernel_rfl) (fun _ => by kernel_rfl) (fun w hO => ret_v (congrArg cutV hb) (genC_any v l 6 w ((hv.below hO.below).more hO.below.size) hl (by omega))) ?_
  refine s_val (v) (by kernel_rfl) (fun _ => by kernel_rfl) ?_
  refine s_call (k := 21) (args := #[v, .int .i64 12]) (cutV c) (by kernel_rfl) (fun _ => by kernel_rfl) (fun w hO => ret_v (congrArg cutV hc) (genC_any v l 12 w ((hv.below hO.below).more hO.below.size) hl (by omega))) ?_
  refine s_alloc_at (.agg #[.int .i64 0, .int .i64 0, .int .i64 0, .int .i64 0, .string ⟨#[]⟩, .string ⟨#[]⟩, .bool false]) (by kernel_rfl) rfl (by kernel_rfl) (fun b1 => ?_)
  refine s_alloc_at (.agg #[.int .i64 0, .int .i64 0, .int .i64 0, .int .i64 0, .string ⟨#[]⟩, .string ⟨#[]⟩, .bool false]) (by kernel_rfl) rfl (by kernel_rfl) (fun b2 => ?_)
  refine s_alloc_at (.agg #[.int .i64 0, .int .i64 0, .int .i64 0, .int .i64 0, .string ⟨#[]⟩, .string ⟨#[]⟩, .bool false]) (by kernel_rfl) rfl (by kernel_rfl) (fun b3 => ?_)
  refine s_store_at 2 ⟨b1, #[.int .i64 0, .int .i64 0, .int .i64 0, .int .i64 0, .string ⟨#[]⟩, .string ⟨#[]⟩, .bool false], 25⟩ (off := 0) (cutV a) (by kernel_rfl) rfl rfl (by kernel_rfl) (by kernel_rfl) (by kernel_rfl) (by kernel_rfl) (by kernel_rfl) ?_
  refine s_store_at 1 ⟨b2, #[.int .i64 0, .int .i64 0, .int .i64 0, .int .i64 0, .string ⟨#[]⟩, .string ⟨#[]⟩, .bool false], 25⟩ (off := 0) (cutV b) (by kernel_rfl) rfl rfl (by kernel_rfl) (by kernel_rfl) (by kernel_rfl) (by kernel_rfl) (by kernel_rfl) ?_
  refine s_store_at 0 ⟨b3, #[.int .i64 0, .int .i64 0, .int .i64 0, .int .i64 0, .string ⟨#[]⟩, .string ⟨#[]⟩, .bool false], 25⟩ (off := 0) (cutV c) (by kernel_rfl) rfl rfl (by kernel_rfl) (by kernel_rfl) (by kernel_rfl) (by kernel_rfl) (by kernel_rfl) ?_
  refine s_nil ?_
  refine fin_seq ?_
  refine ok_seq ?_
  refine ok_draw (by kernel_rfl) (by kernel_rfl) ?_
  refine q_load 2 ⟨b1, (cutV a).cells, 25⟩ (off := 0) (cutV a) (by kernel_rfl) rfl (by kernel_rfl) (by kernel_rfl) (by kernel_rfl) ?_
  refine q_load 1 ⟨b2, (cutV b).cells, 25⟩ (off := 0) (cutV b) (by kernel_rfl) rfl (by kernel_rfl) (by kernel_rfl) (by kernel_rfl) ?_
  refine q_call (k := 13) (args := #[cutV a, cutV b]) (.int .i64 (cmpC a b)) (by kernel_rfl) (fun _ => by kernel_rfl) (fun w _ => cmpC_any a b w sa sb) ?_
  refine q_load 1 ⟨b2, (cutV b).cells, 25⟩ (off := 0) (cutV b) (by kernel_rfl) rfl (by kernel_rfl) (by kernel_rfl) (by kernel_rfl) ?_
  refine q_load 0 ⟨b3, (cutV c).cells, 25⟩ (off := 0) (cutV c) (by kernel_rfl) rfl (by kernel_rfl) (by kernel_rfl) (by kernel_rfl) ?_
  refine q_call (k := 13) (args := #[cutV b, cutV c]) (.int .i64 (cmpC b c)) (by kernel_rfl) (fun _ => by kernel_rfl) (fun w _ => cmpC_any b c w sb sc) ?_
  refine q_load 2 ⟨b1, (cutV a).cells, 25⟩ (off := 0) (cutV a) (by kernel_rfl) rfl (by kernel_rfl) (by kernel_rfl) (by kernel_rfl) ?_
  refine q_load 0 ⟨b3, (cutV c).cells, 25⟩ (off := 0) (cutV c) (by kernel_rfl) rfl (by kernel_rfl) (by kernel_rfl) (by kernel_rfl) ?_
  refine q_call (k := 13) (args := #[cutV a, cutV c]) (.int .i64 (cmpC a c)) (by kernel_rfl) (fun _ => by kernel_rfl) (fun w _ => cmpC_any a c w sa sc) ?_
  refine q_val (.int .i64 (cmpC a b)) (by kernel_rfl) (fun _ => by kernel_rfl) ?_
  refine q_val (.int .i64 (cmpC b c)) (by kernel_rfl) (fun _ => by kernel_rfl) ?_
  refine q_val (.int .i64 (cmpC a c)) (by kernel_rfl) (fun _ => by kernel_rfl) ?_
  refine q_nil ?_
  refine fin_seq ?_
  refine ok_seq ?_
  refine ok_region ?_
  refine s_val (.int .i64 (cmpC a b)) (by kernel_rfl) (fun _ => by kernel_rfl) ?_
  by_cases h1 : (0 : Int) < cmpC a b
  · skip
    refine s_dec (p := (0 : Int) < cmpC a b) true (by kernel_rfl) (fun _ => by kernel_rfl) (decide_eq_true (h1)) ?_
    refine s_val (.bool true) (by kernel_rfl) (fun _ => by kernel_rfl) ?_
    refine s_skip (by kernel_rfl) ?_
    refine s_skip (by kernel_rfl) ?_
    refine s_val (.bool true) (by kernel_rfl) (fun _ => by kernel_rfl) ?_
    refine s_val (.bool true) (by kernel_rfl) (fun _ => by kernel_rfl) ?_
    refine s_skip (by kernel_rfl) ?_
    refine s_skip (by kernel_rfl) ?_
    refine s_skip (by kernel_rfl) ?_
    refine s_skip (by kernel_rfl) ?_
    refine s_skip (by kernel_rfl) ?_
    refine s_skip (by kernel_rfl) ?_
    refine s_skip (by kernel_rfl) ?_
    refine s_skip (by kernel_rfl) ?_
    refine s_skip (by kernel_rfl) ?_
    refine s_skip (by kernel_rfl) ?_
    refine s_skip (by kernel_rfl) ?_
    refine s_skip (by kernel_rfl) ?_
    refine s_skip (by kernel_rfl) ?_
    refine s_val (.bool true) (by kernel_rfl) (fun _ => by kernel_rfl) ?_
    refine s_val (.bool true) (by kernel_rfl) (fun _ => by kernel_rfl) ?_
    refine s_nil ?_
    refine fin_seq ?_
    refine ok_seq ?_
    refine ok_region ?_
    refine s_val (.agg #[.int .i64 (-1), .int .i64 0, .int .i64 0, .int .i64 0, .string ⟨#[]⟩, .string ⟨#[]⟩, .bool false]) (by kernel_rfl) (fun _ => by kernel_rfl) ?_
    refine s_load 2 ⟨b1, (cutV a).cells, 25⟩ (off := 0) (cutV a) (by kernel_rfl) rfl (by kernel_rfl) (by kernel_rfl) (by kernel_rfl) ?_
    refine s_call (k := 13) (args := #[.agg #[.int .i64 (-1), .int .i64 0, .int .i64 0, .int .i64 0, .string ⟨#[]⟩, .string ⟨#[]⟩, .bool false], cutV a]) (.int .i64 (cmpC (endC (-1)) a)) (by kernel_rfl) (fun _ => by kernel_rfl) (fun w _ => cmpC_any (endC (-1)) a w (end_short (-1)) sa) ?_
    by_cases h2 : (cmpC (endC (-1)) a : Int) ≤ 0
    · skip
      refine s_dec (p := (cmpC (endC (-1)) a : Int) ≤ 0) true (by kernel_rfl) (fun _ => by kernel_rfl) (decide_eq_true (h2)) ?_
      refine s_val (.bool true) (by kernel_rfl) (fun _ => by kernel_rfl) ?_
      refine s_load 2 ⟨b1, (cutV a).cells, 25⟩ (off := 0) (cutV a) (by kernel_rfl) rfl (by kernel_rfl) (by kernel_rfl) (by kernel_rfl) ?_
      refine s_val (.agg #[.int .i64 1, .int .i64 0, .int .i64 0, .int .i64 0, .string ⟨#[]⟩, .string ⟨#[]⟩, .bool false]) (by kernel_rfl) (fun _ => by kernel_rfl) ?_
      refine s_call (k := 13) (args := #[cutV a, .agg #[.int .i64 1, .int .i64 0, .int .i64 0, .int .i64 0, .string ⟨#[]⟩, .string ⟨#[]⟩, .bool false]]) (.int .i64 (cmpC a (endC (1)))) (by kernel_rfl) (fun _ => by kernel_rfl) (fun w _ => cmpC_any a (endC (1)) w sa (end_short (1))) ?_
      by_cases h3 : (cmpC a (endC (1)) : Int) ≤ 0
      · skip
        refine s_dec (p := (cmpC a (endC (1)) : Int) ≤ 0) true (by kernel_rfl) (fun _ => by kernel_rfl) (decide_eq_true (h3)) ?_
        refine s_val (.bool true) (by kernel_rfl) (fun _ => by kernel_rfl) ?_
        refine s_val (.bool true) (by kernel_rfl) (fun _ => by kernel_rfl) ?_
        refine s_nil ?_
        refine fin_seq ?_
        refine ok_seq ?_
        refine ok_region ?_
        refine s_call (k := 10) (args := #[]) (.bool true) (by kernel_rfl) (fun _ => by kernel_rfl) (fun w _ => awake3_any w) ?_
        refine s_val (.bool true) (by kernel_rfl) (fun _ => by kernel_rfl) ?_
        refine s_load 1 ⟨b2, (cutV b).cells, 25⟩ (off := 0) (cutV b) (by kernel_rfl) rfl (by kernel_rfl) (by kernel_rfl) (by kernel_rfl) ?_
        refine s_load 2 ⟨b1, (cutV a).cells, 25⟩ (off := 0) (cutV a) (by kernel_rfl) rfl (by kernel_rfl) (by kernel_rfl) (by kernel_rfl) ?_
        refine s_call (k := 13) (args := #[cutV b, cutV a]) (.int .i64 (cmpC b a)) (by kernel_rfl) (fun _ => by kernel_rfl) (fun w _ => cmpC_any b a w sb sa) ?_
        refine s_val (.int .i64 (cmpC a b)) (by kernel_rfl) (fun _ => by kernel_rfl) ?_
        refine s_sum (k := .i64) ((0 : Int) - (cmpC a b)) (by kernel_rfl) (fun _ => by kernel_rfl) (IntWalk.i64_in _ (by omega)) ?_
        by_cases h4 : (cmpC b a : Int) = (0 : Int) - (cmpC a b)
        · skip
          refine s_dec (p := (cmpC b a : Int) = (0 : Int) - (cmpC a b)) true (by kernel_rfl) (fun _ => by kernel_rfl) (decide_eq_true (h4)) ?_
          refine s_val (.bool true) (by kernel_rfl) (fun _ => by kernel_rfl) ?_
          refine s_val (.bool true) (by kernel_rfl) (fun _ => by kernel_rfl) ?_
          refine s_val (.bool true) (by kernel_rfl) (fun _ => by kernel_rfl) ?_
          refine s_val (.bool true) (by kernel_rfl) (fun _ => by kernel_rfl) ?_
          refine s_val (.bool true) (by kernel_rfl) (fun _ => by kernel_rfl) ?_
          refine s_val (.bool true) (by kernel_rfl) (fun _ => by kernel_rfl) ?_
          refine s_val (.bool true) (by kernel_rfl) (fun _ => by kernel_rfl) ?_
          refine s_val (.bool true) (by kernel_rfl) (fun _ => by kernel_rfl) ?_
          refine s_val (.int .i64 (cmpC a b)) (by kernel_rfl) (fun _ => by kernel_rfl) ?_
          by_cases h5 : (cmpC a b : Int) = 0
          · skip
            refine s_dec (p := (cmpC a b : Int) = 0) true (by kernel_rfl) (fun _ => by kernel_rfl) (decide_eq_true (h5)) ?_
            refine s_load 2 ⟨b1, (cutV a).cells, 25⟩ (off := 0) (cutV a) (by kernel_rfl) rfl (by kernel_rfl) (by kernel_rfl) (by kernel_rfl) ?_
            refine s_load 1 ⟨b2, (cutV b).cells, 25⟩ (off := 0) (cutV b) (by kernel_rfl) rfl (by kernel_rfl) (by kernel_rfl) (by kernel_rfl) ?_
            by_cases h6 : a = b
            · skip
              refine s_val (.bool true) (by kernel_rfl) (op_eq_cut rfl (by kernel_rfl) (by kernel_rfl) (decide_eq_true (h6))) ?_
              refine s_val (.bool true) (by kernel_rfl) (fun _ => by kernel_rfl) ?_
              refine s_val (.bool true) (by kernel_rfl) (fun _ => by kernel_rfl) ?_
              refine s_val (.bool true) (by kernel_rfl) (fun _ => by kernel_rfl) ?_
              refine s_nil ?_
              refine fin_seq ?_
              refine ok_ret ?_
              refine fin_ret (.bool true) Try.results5 (by kernel_rfl) ?_
              exact fun w hO => ⟨rfl, hO.below⟩
            · skip
              refine s_val (.bool false) (by kernel_rfl) (op_eq_cut rfl (by kernel_rfl) (by kernel_rfl) (decide_eq_false (h6))) ?_
              refine s_val (.bool false) (by kernel_rfl) (fun _ => by kernel_rfl) ?_
              refine s_val (.bool false) (by kernel_rfl) (fun _ => by kernel_rfl) ?_
              refine s_val (.bool false) (by kernel_rfl) (fun _ => by kernel_rfl) ?_
              refine s_nil ?_
              refine fin_seq ?_
              refine ok_ret ?_
              refine fin_ret (.bool false) Try.results5 (by kernel_rfl) ?_
              exact fun w hO => by exfalso; first | omega | (have := hsame (by omega) (by omega); omega) | (have := heq.1 (by omega); contradiction) | (have := heq.2 (by assumption); omega)
          · skip
            refine s_dec (p := (cmpC a b : Int) = 0) false (by kernel_rfl) (fun _ => by kernel_rfl) (decide_eq_false (h5)) ?_
            refine s_load 2 ⟨b1, (cutV a).cells, 25⟩ (off := 0) (cutV a) (by kernel_rfl) rfl (by kernel_rfl) (by kernel_rfl) (by kernel_rfl) ?_
            refine s_load 1 ⟨b2, (cutV b).cells, 25⟩ (off := 0) (cutV b) (by kernel_rfl) rfl (by kernel_rfl) (by kernel_rfl) (by kernel_rfl) ?_
            by_cases h7 : a = b
            · skip
              refine s_val (.bool true) (by kernel_rfl) (op_eq_cut rfl (by kernel_rfl) (by kernel_rfl) (decide_eq_true (h7))) ?_
              refine s_val (.bool false) (by kernel_rfl) (fun _ => by kernel_rfl) ?_
              refine s_val (.bool false) (by kernel_rfl) (fun _ => by kernel_rfl) ?_
              refine s_val (.bool false) (by kernel_rfl) (fun _ => by kernel_rfl) ?_
              refine s_nil ?_
              refine fin_seq ?_
              refine ok_ret ?_
              refine fin_ret (.bool false) Try.results5 (by kernel_rfl) ?_
              exact fun w hO => by exfalso; first | omega | (have := hsame (by omega) (by omega); omega) | (have := heq.1 (by omega); contradiction) | (have := heq.2 (by assumption); omega)
            · skip
              refine s_val (.bool false) (by kernel_rfl) (op_eq_cut rfl (by kernel_rfl) (by kernel_rfl) (decide_eq_false (h7))) ?_
              refine s_val (.bool true) (by kernel_rfl) (fun _ => by kernel_rfl) ?_
              refine s_val (.bool true) (by kernel_rfl) (fun _ => by kernel_rfl) ?_
              refine s_val (.bool true) (by kernel_rfl) (fun _ => by kernel_rfl) ?_
              refine s_nil ?_
              refine fin_seq ?_
              refine ok_ret ?_
              refine fin_ret (.bool true) Try.results5 (by kernel_rfl) ?_
              exact fun w hO => ⟨rfl, hO.below⟩
        · skip
          refine s_dec (p := (cmpC b a : Int) = (0 : Int) - (cmpC a b)) false (by kernel_rfl) (fun _ => by kernel_rfl) (decide_eq_false (h4)) ?_
          refine s_val (.bool false) (by kernel_rfl) (fun _ => by kernel_rfl) ?_
          refine s_val (.bool false) (by kernel_rfl) (fun _ => by kernel_rfl) ?_
          refine s_skip (by kernel_rfl) ?_
          refine s_val (.bool false) (by kernel_rfl) (fun _ => by kernel_rfl) ?_
          refine s_val (.bool false) (by kernel_rfl) (fun _ => by kernel_rfl) ?_
          refine s_skip (by kernel_rfl) ?_
          refine s_val (.bool false) (by kernel_rfl) (fun _ => by kernel_rfl) ?_
          refine s_val (.bool false) (by kernel_rfl) (fun _ => by kernel_rfl) ?_
          refine s_skip (by kernel_rfl) ?_
          refine s_skip (by kernel_rfl) ?_
          refine s_skip (by kernel_rfl) ?_
          refine s_skip (by kernel_rfl) ?_
          refine s_skip (by kernel_rfl) ?_
          refine s_skip (by kernel_rfl) ?_
          refine s_val (.bool false) (by kernel_rfl) (fun _ => by kernel_rfl) ?_
          refine s_val (.bool false) (by kernel_rfl) (fun _ => by kernel_rfl) ?_
          refine s_nil ?_
          refine fin_seq ?_
          refine ok_ret ?_
          refine fin_ret (.bool false) Try.results5 (by kernel_rfl) ?_
          exact fun w hO => by exfalso; first | omega | (have := hsame (by omega) (by omega); omega) | (have := heq.1 (by omega); contradiction) | (have := heq.2 (by assumption); omega)
      · skip
        refine s_dec (p := (cmpC a (endC (1)) : Int) ≤ 0) false (by kernel_rfl) (fun _ => by kernel_rfl) (decide_eq_false (h3)) ?_
        refine s_val (.bool false) (by kernel_rfl) (fun _ => by kernel_rfl) ?_
        refine s_val (.bool false) (by kernel_rfl) (fun _ => by kernel_rfl) ?_
        refine s_nil ?_
        refine fin_seq ?_
        refine ok_seq ?_
        refine ok_region ?_
        refine s_call (k := 10) (args := #[]) (.bool true) (by kernel_rfl) (fun _ => by kernel_rfl) (fun w _ => awake3_any w) ?_
        refine s_val (.bool true) (by kernel_rfl) (fun _ => by kernel_rfl) ?_
        refine s_load 1 ⟨b2, (cutV b).cells, 25⟩ (off := 0) (cutV b) (by kernel_rfl) rfl (by kernel_rfl) (by kernel_rfl) (by kernel_rfl) ?_
        refine s_load 2 ⟨b1, (cutV a).cells, 25⟩ (off := 0) (cutV a) (by kernel_rfl) rfl (by kernel_rfl) (by kernel_rfl) (by kernel_rfl) ?_
        refine s_call (k := 13) (args := #[cutV b, cutV a]) (.int .i64 (cmpC b a)) (by kernel_rfl) (fun _ => by kernel_rfl) (fun w _ => cmpC_any b a w sb sa) ?_
        refine s_val (.int .i64 (cmpC a b)) (by kernel_rfl) (fun _ => by kernel_rfl) ?_
        refine s_sum (k := .i64) ((0 : Int) - (cmpC a b)) (by kernel_rfl) (fun _ => by kernel_rfl) (IntWalk.i64_in _ (by omega)) ?_
        by_cases h8 : (cmpC b a : Int) = (0 : Int) - (cmpC a b)
        · skip
          refine s_dec (p := (cmpC b a : Int) = (0 : Int) - (cmpC a b)) true (by kernel_rfl) (fun _ => by kernel_rfl) (decide_eq_true (h8)) ?_
          refine s_val (.bool true) (by kernel_rfl) (fun _ => by kernel_rfl) ?_
          refine s_val (.bool true) (by kernel_rfl) (fun _ => by kernel_rfl) ?_
          refine s_val (.bool true) (by kernel_rfl) (fun _ => by kernel_rfl) ?_
          refine s_val (.bool true) (by kernel_rfl) (fun _ => by kernel_rfl) ?_
          refine s_val (.bool true) (by kernel_rfl) (fun _ => by kernel_rfl) ?_
          refine s_val (.bool false) (by kernel_rfl) (fun _ => by kernel_rfl) ?_
          refine s_val (.bool false) (by kernel_rfl) (fun _ => by kernel_rfl) ?_
          refine s_val (.bool false) (by kernel_rfl) (fun _ => by kernel_rfl) ?_
          refine s_skip (by kernel_rfl) ?_
          refine s_skip (by kernel_rfl) ?_
          refine s_skip (by kernel_rfl) ?_
          refine s_skip (by kernel_rfl) ?_
          refine s_skip (by kernel_rfl) ?_
          refine s_skip (by kernel_rfl) ?_
          refine s_val (.bool false) (by kernel_rfl) (fun _ => by kernel_rfl) ?_
          refine s_val (.bool false) (by kernel_rfl) (fun _ => by kernel_rfl) ?_
          refine s_nil ?_
          refine fin_seq ?_
          refine ok_ret ?_
          refine fin_ret (.bool false) Try.results5 (by kernel_rfl) ?_
          exact fun w hO => by exfalso; first | omega | (have := hsame (by omega) (by omega); omega) | (have := heq.1 (by omega); contradiction) | (have := heq.2 (by assumption); omega)
        · skip
          refine s_dec (p := (cmpC b a : Int) = (0 : Int) - (cmpC a b)) false (by kernel_rfl) (fun _ => by kernel_rfl) (decide_eq_false (h8)) ?_
          refine s_val (.bool false) (by kernel_rfl) (fun _ => by kernel_rfl) ?_
          refine s_val (.bool false) (by kernel_rfl) (fun _ => by kernel_rfl) ?_
          refine s_skip (by kernel_rfl) ?_
          refine s_val (.bool false) (by kernel_rfl) (fun _ => by kernel_rfl) ?_
          refine s_val (.bool false) (by kernel_rfl) (fun _ => by kernel_rfl) ?_
          refine s_skip (by kernel_rfl) ?_
          refine s_val (.bool false) (by kernel_rfl) (fun _ => by kernel_rfl) ?_
          refine s_val (.bool false) (by kernel_rfl) (fun _ => by kernel_rfl) ?_
          refine s_skip (by kernel_rfl) ?_
          refine s_skip (by kernel_rfl) ?_
          refine s_skip (by kernel_rfl) ?_
          refine s_skip (by kernel_rfl) ?_
          refine s_skip (by kernel_rfl) ?_
          refine s_skip (by kernel_rfl) ?_
          refine s_val (.bool false) (by kernel_rfl) (fun _ => by kernel_rfl) ?_
          refine s_val (.bool false) (by kernel_rfl) (fun _ => by kernel_rfl) ?_
          refine s_nil ?_
          refine fin_seq ?_
          refine ok_ret ?_
          refine fin_ret (.bool false) Try.results5 (by kernel_rfl) ?_
          exact fun w hO => by exfalso; first | omega | (have := hsame (by omega) (by omega); omega) | (have := heq.1 (by omega); contradiction) | (have := heq.2 (by assumption); omega)
    · skip
      refine s_dec (p := (cmpC (endC (-1)) a : Int) ≤ 0) false (by kernel_rfl) (fun _ => by kernel_rfl) (decide_eq_false (h2)) ?_
      refine s_val (.bool false) (by kernel_rfl) (fun _ => by kernel_rfl) ?_
      refine s_skip (by kernel_rfl) ?_
      refine s_skip (by kernel_rfl) ?_
      refine s_skip (by kernel_rfl) ?_
      refine s_skip (by kernel_rfl) ?_
      refine s_val (.bool false) (by kernel_rfl) (fun _ => by kernel_rfl) ?_
      refine s_val (.bool false) (by kernel_rfl) (fun _ => by kernel_rfl) ?_
      refine s_nil ?_
      refine fin_seq ?_
      refine ok_seq ?_
      refine ok_region ?_
      refine s_call (k := 10) (args := #[]) (.bool true) (by kernel_rfl) (fun _ => by kernel_rfl) (fun w _ => awake3_any w) ?_
      refine s_val (.bool true) (by kernel_rfl) (fun _ => by kernel_rfl) ?_
      refine s_load 1 ⟨b2, (cutV b).cells, 25⟩ (off := 0) (cutV b) (by kernel_rfl) rfl (by kernel_rfl) (by kernel_rfl) (by kernel_rfl) ?_
      refine s_load 2 ⟨b1, (cutV a).cells, 25⟩ (off := 0) (cutV a) (by kernel_rfl) rfl (by kernel_rfl) (by kernel_rfl) (by kernel_rfl) ?_
      refine s_call (k := 13) (args := #[cutV b, cutV a]) (.int .i64 (cmpC b a)) (by kernel_rfl) (fun _ => by kernel_rfl) (fun w _ => cmpC_any b a w sb sa) ?_
      refine s_val (.int .i64 (cmpC a b)) (by kernel_rfl) (fun _ => by kernel_rfl) ?_
      refine s_sum (k := .i64) ((0 : Int) - (cmpC a b)) (by kernel_rfl) (fun _ => by kernel_rfl) (IntWalk.i64_in _ (by omega)) ?_
      by_cases h9 : (cmpC b a : Int) = (0 : Int) - (cmpC a b)
      · skip
        refine s_dec (p := (cmpC b a : Int) = (0 : Int) - (cmpC a b)) true (by kernel_rfl) (fun _ => by kernel_rfl) (decide_eq_true (h9)) ?_
        refine s_val (.bool true) (by kernel_rfl) (fun _ => by kernel_rfl) ?_
        refine s_val (.bool true) (by kernel_rfl) (fun _ => by kernel_rfl) ?_
        refine s_val (.bool true) (by kernel_rfl) (fun _ => by kernel_rfl) ?_
        refine s_val (.bool true) (by kernel_rfl) (fun _ => by kernel_rfl) ?_
        refine s_val (.bool true) (by kernel_rfl) (fun _ => by kernel_rfl) ?_
        refine s_val (.bool false) (by kernel_rfl) (fun _ => by kernel_rfl) ?_
        refine s_val (.bool false) (by kernel_rfl) (fun _ => by kernel_rfl) ?_
        refine s_val (.bool false) (by kernel_rfl) (fun _ => by kernel_rfl) ?_
        refine s_skip (by kernel_rfl) ?_
        refine s_skip (by kernel_rfl) ?_
        refine s_skip (by kernel_rfl) ?_
        refine s_skip (by kernel_rfl) ?_
        refine s_skip (by kernel_rfl) ?_
        refine s_skip (by kernel_rfl) ?_
        refine s_val (.bool false) (by kernel_rfl) (fun _ => by kernel_rfl) ?_
        refine s_val (.bool false) (by kernel_rfl) (fun _ => by kernel_rfl) ?_
        refine s_nil ?_
        refine fin_seq ?_
        refine ok_ret ?_
        refine fin_ret (.bool false) Try.results5 (by kernel_rfl) ?_
        exact fun w hO => by exfalso; first | omega | (have := hsame (by omega) (by omega); omega) | (have := heq.1 (by omega); contradiction) | (have := heq.2 (by assumption); omega)
      · skip
        refine s_dec (p := (cmpC b a : Int) = (0 : Int) - (cmpC a b)) false (by kernel_rfl) (fun _ => by kernel_rfl) (decide_eq_false (h9)) ?_
        refine s_val (.bool false) (by kernel_rfl) (fun _ => by kernel_rfl) ?_
        refine s_val (.bool false) (by kernel_rfl) (fun _ => by kernel_rfl) ?_
        refine s_skip (by kernel_rfl) ?_
        refine s_val (.bool false) (by kernel_rfl) (fun _ => by kernel_rfl) ?_
        refine s_val (.bool false) (by kernel_rfl) (fun _ => by kernel_rfl) ?_
        refine s_skip (by kernel_rfl) ?_
        refine s_val (.bool false) (by kernel_rfl) (fun _ => by kernel_rfl) ?_
        refine s_val (.bool false) (by kernel_rfl) (fun _ => by kernel_rfl) ?_
        refine s_skip (by kernel_rfl) ?_
        refine s_skip (by kernel_rfl) ?_
        refine s_skip (by kernel_rfl) ?_
        refine s_skip (by kernel_rfl) ?_
        refine s_skip (by kernel_rfl) ?_
        refine s_skip (by kernel_rfl) ?_
        refine s_val (.bool false) (by kernel_rfl) (fun _ => by kernel_rfl) ?_
        refine s_val (.bool false) (by kernel_rfl) (fun _ => by kernel_rfl) ?_
        refine s_nil ?_
        refine fin_seq ?_
        refine ok_ret ?_
        refine fin_ret (.bool false) Try.results5 (by kernel_rfl) ?_
        exact fun w hO => by exfalso; first | omega | (have := hsame (by omega) (by omega); omega) | (have := heq.1 (by omega); contradiction) | (have := heq.2 (by assumption); omega)
  · skip
    refine s_dec (p := (0 : Int) < cmpC a b) false (by kernel_rfl) (fun _ => by kernel_rfl) (decide_eq_false (h1)) ?_
    refine s_val (.bool false) (by kernel_rfl) (fun _ => by kernel_rfl) ?_
    refine s_val (.int .i64 (cmpC b c)) (by kernel_rfl) (fun _ => by kernel_rfl) ?_
    by_cases h10 : (0 : Int) < cmpC b c
    · skip
      refine s_dec (p := (0 : Int) < cmpC b c) true (by kernel_rfl) (fun _ => by kernel_rfl) (decide_eq_true (h10)) ?_
      refine s_val (.bool true) (by kernel_rfl) (fun _ => by kernel_rfl) ?_
      refine s_val (.bool true) (by kernel_rfl) (fun _ => by kernel_rfl) ?_
      refine s_skip (by kernel_rfl) ?_
      refine s_skip (by kernel_rfl) ?_
      refine s_skip (by kernel_rfl) ?_
      refine s_skip (by kernel_rfl) ?_
      refine s_skip (by kernel_rfl) ?_
      refine s_skip (by kernel_rfl) ?_
      refine s_skip (by kernel_rfl) ?_
      refine s_skip (by kernel_rfl) ?_
      refine s_skip (by kernel_rfl) ?_
      refine s_skip (by kernel_rfl) ?_
      refine s_skip (by kernel_rfl) ?_
      refine s_skip (by kernel_rfl) ?_
      refine s_skip (by kernel_rfl) ?_
      refine s_val (.bool true) (by kernel_rfl) (fun _ => by kernel_rfl) ?_
      refine s_val (.bool true) (by kernel_rfl) (fun _ => by kernel_rfl) ?_
      refine s_nil ?_
      refine fin_seq ?_
      refine ok_seq ?_
      refine ok_region ?_
      refine s_val (.agg #[.int .i64 (-1), .int .i64 0, .int .i64 0, .int .i64 0, .string ⟨#[]⟩, .string ⟨#[]⟩, .bool false]) (by kernel_rfl) (fun _ => by kernel_rfl) ?_
      refine s_load 2 ⟨b1, (cutV a).cells, 25⟩ (off := 0) (cutV a) (by kernel_rfl) rfl (by kernel_rfl) (by kernel_rfl) (by kernel_rfl) ?_
      refine s_call (k := 13) (args := #[.agg #[.int .i64 (-1), .int .i64 0, .int .i64 0, .int .i64 0, .string ⟨#[]⟩, .string ⟨#[]⟩, .bool false], cutV a]) (.int .i64 (cmpC (endC (-1)) a)) (by kernel_rfl) (fun _ => by kernel_rfl) (fun w _ => cmpC_any (endC (-1)) a w (end_short (-1)) sa) ?_
      by_cases h11 : (cmpC (endC (-1)) a : Int) ≤ 0
      · skip
        refine s_dec (p := (cmpC (endC (-1)) a : Int) ≤ 0) true (by kernel_rfl) (fun _ => by kernel_rfl) (decide_eq_true (h11)) ?_
        refine s_val (.bool true) (by kernel_rfl) (fun _ => by kernel_rfl) ?_
        refine s_load 2 ⟨b1, (cutV a).cells, 25⟩ (off := 0) (cutV a) (by kernel_rfl) rfl (by kernel_rfl) (by kernel_rfl) (by kernel_rfl) ?_
        refine s_val (.agg #[.int .i64 1, .int .i64 0, .int .i64 0, .int .i64 0, .string ⟨#[]⟩, .string ⟨#[]⟩, .bool false]) (by kernel_rfl) (fun _ => by kernel_rfl) ?_
        refine s_call (k := 13) (args := #[cutV a, .agg #[.int .i64 1, .int .i64 0, .int .i64 0, .int .i64 0, .string ⟨#[]⟩, .string ⟨#[]⟩, .bool false]]) (.int .i64 (cmpC a (endC (1)))) (by kernel_rfl) (fun _ => by kernel_rfl) (fun w _ => cmpC_any a (endC (1)) w sa (end_short (1))) ?_
        by_cases h12 : (cmpC a (endC (1)) : Int) ≤ 0
        · skip
          refine s_dec (p := (cmpC a (endC (1)) : Int) ≤ 0) true (by kernel_rfl) (fun _ => by kernel_rfl) (decide_eq_true (h12)) ?_
          refine s_val (.bool true) (by kernel_rfl) (fun _ => by kernel_rfl) ?_
          refine s_val (.bool true) (by kernel_rfl) (fun _ => by kernel_rfl) ?_
          refine s_nil ?_
          refine fin_seq ?_
          refine ok_seq ?_
          refine ok_region ?_
          refine s_call (k := 10) (args := #[]) (.bool true) (by kernel_rfl) (fun _ => by kernel_rfl) (fun w _ => awake3_any w) ?_
          refine s_val (.bool true) (by kernel_rfl) (fun _ => by kernel_rfl) ?_
          refine s_load 1 ⟨b2, (cutV b).cells, 25⟩ (off := 0) (cutV b) (by kernel_rfl) rfl (by kernel_rfl) (by kernel_rfl) (by kernel_rfl) ?_
          refine s_load 2 ⟨b1, (cutV a).cells, 25⟩ (off := 0) (cutV a) (by kernel_rfl) rfl (by kernel_rfl) (by kernel_rfl) (by kernel_rfl) ?_
          refine s_call (k := 13) (args := #[cutV b, cutV a]) (.int .i64 (cmpC b a)) (by kernel_rfl) (fun _ => by kernel_rfl) (fun w _ => cmpC_any b a w sb sa) ?_
          refine s_val (.int .i64 (cmpC a b)) (by kernel_rfl) (fun _ => by kernel_rfl) ?_
          refine s_sum (k := .i64) ((0 : Int) - (cmpC a b)) (by kernel_rfl) (fun _ => by kernel_rfl) (IntWalk.i64_in _ (by omega)) ?_
          by_cases h13 : (cmpC b a : Int) = (0 : Int) - (cmpC a b)
          · skip
            refine s_dec (p := (cmpC b a : Int) = (0 : Int) - (cmpC a b)) true (by kernel_rfl) (fun _ => by kernel_rfl) (decide_eq_true (h13)) ?_
            refine s_val (.bool true) (by kernel_rfl) (fun _ => by kernel_rfl) ?_
            refine s_val (.bool true) (by kernel_rfl) (fun _ => by kernel_rfl) ?_
            refine s_val (.bool true) (by kernel_rfl) (fun _ => by kernel_rfl) ?_
            refine s_val (.bool true) (by kernel_rfl) (fun _ => by kernel_rfl) ?_
            refine s_val (.bool true) (by kernel_rfl) (fun _ => by kernel_rfl) ?_
            refine s_val (.bool true) (by kernel_rfl) (fun _ => by kernel_rfl) ?_
            refine s_val (.bool true) (by kernel_rfl) (fun _ => by kernel_rfl) ?_
            refine s_val (.bool true) (by kernel_rfl) (fun _ => by kernel_rfl) ?_
            refine s_val (.int .i64 (cmpC a b)) (by kernel_rfl) (fun _ => by kernel_rfl) ?_
            by_cases h14 : (cmpC a b : Int) = 0
            · skip
              refine s_dec (p := (cmpC a b : Int) = 0) true (by kernel_rfl) (fun _ => by kernel_rfl) (decide_eq_true (h14)) ?_
              refine s_load 2 ⟨b1, (cutV a).cells, 25⟩ (off := 0) (cutV a) (by kernel_rfl) rfl (by kernel_rfl) (by kernel_rfl) (by kernel_rfl) ?_
              refine s_load 1 ⟨b2, (cutV b).cells, 25⟩ (off := 0) (cutV b) (by kernel_rfl) rfl (by kernel_rfl) (by kernel_rfl) (by kernel_rfl) ?_
              by_cases h15 : a = b
              · skip
                refine s_val (.bool true) (by kernel_rfl) (op_eq_cut rfl (by kernel_rfl) (by kernel_rfl) (decide_eq_true (h15))) ?_
                refine s_val (.bool true) (by kernel_rfl) (fun _ => by kernel_rfl) ?_
                refine s_val (.bool true) (by kernel_rfl) (fun _ => by kernel_rfl) ?_
                refine s_val (.bool true) (by kernel_rfl) (fun _ => by kernel_rfl) ?_
                refine s_nil ?_
                refine fin_seq ?_
                refine ok_ret ?_
                refine fin_ret (.bool true) Try.results5 (by kernel_rfl) ?_
                exact fun w hO => ⟨rfl, hO.below⟩
              · skip
                refine s_val (.bool false) (by kernel_rfl) (op_eq_cut rfl (by kernel_rfl) (by kernel_rfl) (decide_eq_false (h15))) ?_
                refine s_val (.bool false) (by kernel_rfl) (fun _ => by kernel_rfl) ?_
                refine s_val (.bool false) (by kernel_rfl) (fun _ => by kernel_rfl) ?_
                refine s_val (.bool false) (by kernel_rfl) (fun _ => by kernel_rfl) ?_
                refine s_nil ?_
                refine fin_seq ?_
                refine ok_ret ?_
                refine fin_ret (.bool false) Try.results5 (by kernel_rfl) ?_
                exact fun w hO => by exfalso; first | omega | (have := hsame (by omega) (by omega); omega) | (have := heq.1 (by omega); contradiction) | (have := heq.2 (by assumption); omega)
            · skip
              refine s_dec (p := (cmpC a b : Int) = 0) false (by kernel_rfl) (fun _ => by kernel_rfl) (decide_eq_false (h14)) ?_
              refine s_load 2 ⟨b1, (cutV a).cells, 25⟩ (off := 0) (cutV a) (by kernel_rfl) rfl (by kernel_rfl) (by kernel_rfl) (by kernel_rfl) ?_
              refine s_load 1 ⟨b2, (cutV b).cells, 25⟩ (off := 0) (cutV b) (by kernel_rfl) rfl (by kernel_rfl) (by kernel_rfl) (by kernel_rfl) ?_
              by_cases h16 : a = b
              · skip
                refine s_val (.bool true) (by kernel_rfl) (op_eq_cut rfl (by kernel_rfl) (by kernel_rfl) (decide_eq_true (h16))) ?_
                refine s_val (.bool false) (by kernel_rfl) (fun _ => by kernel_rfl) ?_
                refine s_val (.bool false) (by kernel_rfl) (fun _ => by kernel_rfl) ?_
                refine s_val (.bool false) (by kernel_rfl) (fun _ => by kernel_rfl) ?_
                refine s_nil ?_
                refine fin_seq ?_
                refine ok_ret ?_
                refine fin_ret (.bool false) Try.results5 (by kernel_rfl) ?_
                exact fun w hO => by exfalso; first | omega | (have := hsame (by omega) (by omega); omega) | (have := heq.1 (by omega); contradiction) | (have := heq.2 (by assumption); omega)
              · skip
                refine s_val (.bool false) (by kernel_rfl) (op_eq_cut rfl (by kernel_rfl) (by kernel_rfl) (decide_eq_false (h16))) ?_
                refine s_val (.bool true) (by kernel_rfl) (fun _ => by kernel_rfl) ?_
                refine s_val (.bool true) (by kernel_rfl) (fun _ => by kernel_rfl) ?_
                refine s_val (.bool true) (by kernel_rfl) (fun _ => by kernel_rfl) ?_
                refine s_nil ?_
                refine fin_seq ?_
                refine ok_ret ?_
                refine fin_ret (.bool true) Try.results5 (by kernel_rfl) ?_
                exact fun w hO => ⟨rfl, hO.below⟩
          · skip
            refine s_dec (p := (cmpC b a : Int) = (0 : Int) - (cmpC a b)) false (by kernel_rfl) (fun _ => by kernel_rfl) (decide_eq_false (h13)) ?_
            refine s_val (.bool false) (by kernel_rfl) (fun _ => by kernel_rfl) ?_
            refine s_val (.bool false) (by kernel_rfl) (fun _ => by kernel_rfl) ?_
            refine s_skip (by kernel_rfl) ?_
            refine s_val (.bool false) (by kernel_rfl) (fun _ => by kernel_rfl) ?_
            refine s_val (.bool false) (by kernel_rfl) (fun _ => by kernel_rfl) ?_
            refine s_skip (by kernel_rfl) ?_
            refine s_val (.bool false) (by kernel_rfl) (fun _ => by kernel_rfl) ?_
            refine s_val (.bool false) (by kernel_rfl) (fun _ => by kernel_rfl) ?_
            refine s_skip (by kernel_rfl) ?_
            refine s_skip (by kernel_rfl) ?_
            refine s_skip (by kernel_rfl) ?_
            refine s_skip (by kernel_rfl) ?_
            refine s_skip (by kernel_rfl) ?_
            refine s_skip (by kernel_rfl) ?_
            refine s_val (.bool false) (by kernel_rfl) (fun _ => by kernel_rfl) ?_
            refine s_val (.bool false) (by kernel_rfl) (fun _ => by kernel_rfl) ?_
            refine s_nil ?_
            refine fin_seq ?_
            refine ok_ret ?_
            refine fin_ret (.bool false) Try.results5 (by kernel_rfl) ?_
            exact fun w hO => by exfalso; first | omega | (have := hsame (by omega) (by omega); omega) | (have := heq.1 (by omega); contradiction) | (have := heq.2 (by assumption); omega)
        · skip
          refine s_dec (p := (cmpC a (endC (1)) : Int) ≤ 0) false (by kernel_rfl) (fun _ => by kernel_rfl) (decide_eq_false (h12)) ?_
          refine s_val (.bool false) (by kernel_rfl) (fun _ => by kernel_rfl) ?_
          refine s_val (.bool false) (by kernel_rfl) (fun _ => by kernel_rfl) ?_
          refine s_nil ?_
          refine fin_seq ?_
          refine ok_seq ?_
          refine ok_region ?_
          refine s_call (k := 10) (args := #[]) (.bool true) (by kernel_rfl) (fun _ => by kernel_rfl) (fun w _ => awake3_any w) ?_
          refine s_val (.bool true) (by kernel_rfl) (fun _ => by kernel_rfl) ?_
          refine s_load 1 ⟨b2, (cutV b).cells, 25⟩ (off := 0) (cutV b) (by kernel_rfl) rfl (by kernel_rfl) (by kernel_rfl) (by kernel_rfl) ?_
          refine s_load 2 ⟨b1, (cutV a).cells, 25⟩ (off := 0) (cutV a) (by kernel_rfl) rfl (by kernel_rfl) (by kernel_rfl) (by kernel_rfl) ?_
          refine s_call (k := 13) (args := #[cutV b, cutV a]) (.int .i64 (cmpC b a)) (by kernel_rfl) (fun _ => by kernel_rfl) (fun w _ => cmpC_any b a w sb sa) ?_
          refine s_val (.int .i64 (cmpC a b)) (by kernel_rfl) (fun _ => by kernel_rfl) ?_
          refine s_sum (k := .i64) ((0 : Int) - (cmpC a b)) (by kernel_rfl) (fun _ => by kernel_rfl) (IntWalk.i64_in _ (by omega)) ?_
          by_cases h17 : (cmpC b a : Int) = (0 : Int) - (cmpC a b)
          · skip
            refine s_dec (p := (cmpC b a : Int) = (0 : Int) - (cmpC a b)) true (by kernel_rfl) (fun _ => by kernel_rfl) (decide_eq_true (h17)) ?_
            refine s_val (.bool true) (by kernel_rfl) (fun _ => by kernel_rfl) ?_
            refine s_val (.bool true) (by kernel_rfl) (fun _ => by kernel_rfl) ?_
            refine s_val (.bool true) (by kernel_rfl) (fun _ => by kernel_rfl) ?_
            refine s_val (.bool true) (by kernel_rfl) (fun _ => by kernel_rfl) ?_
            refine s_val (.bool true) (by kernel_rfl) (fun _ => by kernel_rfl) ?_
            refine s_val (.bool false) (by kernel_rfl) (fun _ => by kernel_rfl) ?_
            refine s_val (.bool false) (by kernel_rfl) (fun _ => by kernel_rfl) ?_
            refine s_val (.bool false) (by kernel_rfl) (fun _ => by kernel_rfl) ?_
            refine s_skip (by kernel_rfl) ?_
            refine s_skip (by kernel_rfl) ?_
            refine s_skip (by kernel_rfl) ?_
            refine s_skip (by kernel_rfl) ?_
            refine s_skip (by kernel_rfl) ?_
            refine s_skip (by kernel_rfl) ?_
            refine s_val (.bool false) (by kernel_rfl) (fun _ => by kernel_rfl) ?_
            refine s_val (.bool false) (by kernel_rfl) (fun _ => by kernel_rfl) ?_
            refine s_nil ?_
            refine fin_seq ?_
            refine ok_ret ?_
            refine fin_ret (.bool false) Try.results5 (by kernel_rfl) ?_
            exact fun w hO => by exfalso; first | omega | (have := hsame (by omega) (by omega); omega) | (have := heq.1 (by omega); contradiction) | (have := heq.2 (by assumption); omega)
          · skip
            refine s_dec (p := (cmpC b a : Int) = (0 : Int) - (cmpC a b)) false (by kernel_rfl) (fun _ => by kernel_rfl) (decide_eq_false (h17)) ?_
            refine s_val (.bool false) (by kernel_rfl) (fun _ => by kernel_rfl) ?_
            refine s_val (.bool false) (by kernel_rfl) (fun _ => by kernel_rfl) ?_
            refine s_skip (by kernel_rfl) ?_
            refine s_val (.bool false) (by kernel_rfl) (fun _ => by kernel_rfl) ?_
            refine s_val (.bool false) (by kernel_rfl) (fun _ => by kernel_rfl) ?_
            refine s_skip (by kernel_rfl) ?_
            refine s_val (.bool false) (by kernel_rfl) (fun _ => by kernel_rfl) ?_
            refine s_val (.bool false) (by kernel_rfl) (fun _ => by kernel_rfl) ?_
            refine s_skip (by kernel_rfl) ?_
            refine s_skip (by kernel_rfl) ?_
            refine s_skip (by kernel_rfl) ?_
            refine s_skip (by kernel_rfl) ?_
            refine s_skip (by kernel_rfl) ?_
            refine s_skip (by kernel_rfl) ?_
            refine s_val (.bool false) (by kernel_rfl) (fun _ => by kernel_rfl) ?_
            refine s_val (.bool false) (by kernel_rfl) (fun _ => by kernel_rfl) ?_
            refine s_nil ?_
            refine fin_seq ?_
            refine ok_ret ?_
            refine fin_ret (.bool false) Try.results5 (by kernel_rfl) ?_
            exact fun w hO => by exfalso; first | omega | (have := hsame (by omega) (by omega); omega) | (have := heq.1 (by omega); contradiction) | (have := heq.2 (by assumption); omega)
      · skip
        refine s_dec (p := (cmpC (endC (-1)) a : Int) ≤ 0) false (by kernel_rfl) (fun _ => by kernel_rfl) (decide_eq_false (h11)) ?_
        refine s_val (.bool false) (by kernel_rfl) (fun _ => by kernel_rfl) ?_
        refine s_skip (by kernel_rfl) ?_
        refine s_skip (by kernel_rfl) ?_
        refine s_skip (by kernel_rfl) ?_
        refine s_skip (by kernel_rfl) ?_
        refine s_val (.bool false) (by kernel_rfl) (fun _ => by kernel_rfl) ?_
        refine s_val (.bool false) (by kernel_rfl) (fun _ => by kernel_rfl) ?_
        refine s_nil ?_
        refine fin_seq ?_
        refine ok_seq ?_
        refine ok_region ?_
        refine s_call (k := 10) (args := #[]) (.bool true) (by kernel_rfl) (fun _ => by kernel_rfl) (fun w _ => awake3_any w) ?_
        refine s_val (.bool true) (by kernel_rfl) (fun _ => by kernel_rfl) ?_
        refine s_load 1 ⟨b2, (cutV b).cells, 25⟩ (off := 0) (cutV b) (by kernel_rfl) rfl (by kernel_rfl) (by kernel_rfl) (by kernel_rfl) ?_
        refine s_load 2 ⟨b1, (cutV a).cells, 25⟩ (off := 0) (cutV a) (by kernel_rfl) rfl (by kernel_rfl) (by kernel_rfl) (by kernel_rfl) ?_
        refine s_call (k := 13) (args := #[cutV b, cutV a]) (.int .i64 (cmpC b a)) (by kernel_rfl) (fun _ => by kernel_rfl) (fun w _ => cmpC_any b a w sb sa) ?_
        refine s_val (.int .i64 (cmpC a b)) (by kernel_rfl) (fun _ => by kernel_rfl) ?_
        refine s_sum (k := .i64) ((0 : Int) - (cmpC a b)) (by kernel_rfl) (fun _ => by kernel_rfl) (IntWalk.i64_in _ (by omega)) ?_
        by_cases h18 : (cmpC b a : Int) = (0 : Int) - (cmpC a b)
        · skip
          refine s_dec (p := (cmpC b a : Int) = (0 : Int) - (cmpC a b)) true (by kernel_rfl) (fun _ => by kernel_rfl) (decide_eq_true (h18)) ?_
          refine s_val (.bool true) (by kernel_rfl) (fun _ => by kernel_rfl) ?_
          refine s_val (.bool true) (by kernel_rfl) (fun _ => by kernel_rfl) ?_
          refine s_val (.bool true) (by kernel_rfl) (fun _ => by kernel_rfl) ?_
          refine s_val (.bool true) (by kernel_rfl) (fun _ => by kernel_rfl) ?_
          refine s_val (.bool true) (by kernel_rfl) (fun _ => by kernel_rfl) ?_
          refine s_val (.bool false) (by kernel_rfl) (fun _ => by kernel_rfl) ?_
          refine s_val (.bool false) (by kernel_rfl) (fun _ => by kernel_rfl) ?_
          refine s_val (.bool false) (by kernel_rfl) (fun _ => by kernel_rfl) ?_
          refine s_skip (by kernel_rfl) ?_
          refine s_skip (by kernel_rfl) ?_
          refine s_skip (by kernel_rfl) ?_
          refine s_skip (by kernel_rfl) ?_
          refine s_skip (by kernel_rfl) ?_
          refine s_skip (by kernel_rfl) ?_
          refine s_val (.bool false) (by kernel_rfl) (fun _ => by kernel_rfl) ?_
          refine s_val (.bool false) (by kernel_rfl) (fun _ => by kernel_rfl) ?_
          refine s_nil ?_
          refine fin_seq ?_
          refine ok_ret ?_
          refine fin_ret (.bool false) Try.results5 (by kernel_rfl) ?_
          exact fun w hO => by exfalso; first | omega | (have := hsame (by omega) (by omega); omega) | (have := heq.1 (by omega); contradiction) | (have := heq.2 (by assumption); omega)
        · skip
          refine s_dec (p := (cmpC b a : Int) = (0 : Int) - (cmpC a b)) false (by kernel_rfl) (fun _ => by kernel_rfl) (decide_eq_false (h18)) ?_
          refine s_val (.bool false) (by kernel_rfl) (fun _ => by kernel_rfl) ?_
          refine s_val (.bool false) (by kernel_rfl) (fun _ => by kernel_rfl) ?_
          refine s_skip (by kernel_rfl) ?_
          refine s_val (.bool false) (by kernel_rfl) (fun _ => by kernel_rfl) ?_
          refine s_val (.bool false) (by kernel_rfl) (fun _ => by kernel_rfl) ?_
          refine s_skip (by kernel_rfl) ?_
          refine s_val (.bool false) (by kernel_rfl) (fun _ => by kernel_rfl) ?_
          refine s_val (.bool false) (by kernel_rfl) (fun _ => by kernel_rfl) ?_
          refine s_skip (by kernel_rfl) ?_
          refine s_skip (by kernel_rfl) ?_
          refine s_skip (by kernel_rfl) ?_
          refine s_skip (by kernel_rfl) ?_
          refine s_skip (by kernel_rfl) ?_
          refine s_skip (by kernel_rfl) ?_
          refine s_val (.bool false) (by kernel_rfl) (fun _ => by kernel_rfl) ?_
          refine s_val (.bool false) (by kernel_rfl) (fun _ => by kernel_rfl) ?_
          refine s_nil ?_
          refine fin_seq ?_
          refine ok_ret ?_
          refine fin_ret (.bool false) Try.results5 (by kernel_rfl) ?_
          exact fun w hO => by exfalso; first | omega | (have := hsame (by omega) (by omega); omega) | (have := heq.1 (by omega); contradiction) | (have := heq.2 (by assumption); omega)
    · skip
      refine s_dec (p := (0 : Int) < cmpC b c) false (by kernel_rfl) (fun _ => by kernel_rfl) (decide_eq_false (h10)) ?_
      refine s_val (.bool false) (by kernel_rfl) (fun _ => by kernel_rfl) ?_
      refine s_val (.bool false) (by kernel_rfl) (fun _ => by kernel_rfl) ?_
      refine s_val (.int .i64 (cmpC a c)) (by kernel_rfl) (fun _ => by kernel_rfl) ?_
      by_cases h19 : (cmpC a c : Int) ≤ 0
      · skip
        refine s_dec (p := (cmpC a c : Int) ≤ 0) true (by kernel_rfl) (fun _ => by kernel_rfl) (decide_eq_true (h19)) ?_
        refine s_val (.bool true) (by kernel_rfl) (fun _ => by kernel_rfl) ?_
        refine s_val (.int .i64 (cmpC a b)) (by kernel_rfl) (fun _ => by kernel_rfl) ?_
        by_cases h20 : (cmpC a b : Int) = 0
        · skip
          refine s_dec (p := (cmpC a b : Int) = 0) true (by kernel_rfl) (fun _ => by kernel_rfl) (decide_eq_true (h20)) ?_
          refine s_val (.bool true) (by kernel_rfl) (fun _ => by kernel_rfl) ?_
          refine s_val (.int .i64 (cmpC b c)) (by kernel_rfl) (fun _ => by kernel_rfl) ?_
          by_cases h21 : (cmpC b c : Int) = 0
          · skip
            refine s_dec (p := (cmpC b c : Int) = 0) true (by kernel_rfl) (fun _ => by kernel_rfl) (decide_eq_true (h21)) ?_
            refine s_val (.bool true) (by kernel_rfl) (fun _ => by kernel_rfl) ?_
            refine s_val (.int .i64 (cmpC a c)) (by kernel_rfl) (fun _ => by kernel_rfl) ?_
            by_cases h22 : (cmpC a c : Int) = 0
            · skip
              refine s_dec (p := (cmpC a c : Int) = 0) true (by kernel_rfl) (fun _ => by kernel_rfl) (decide_eq_true (h22)) ?_
              refine s_val (.bool true) (by kernel_rfl) (fun _ => by kernel_rfl) ?_
              refine s_val (.bool true) (by kernel_rfl) (fun _ => by kernel_rfl) ?_
              refine s_val (.bool true) (by kernel_rfl) (fun _ => by kernel_rfl) ?_
              refine s_val (.bool true) (by kernel_rfl) (fun _ => by kernel_rfl) ?_
              refine s_nil ?_
              refine fin_seq ?_
              refine ok_seq ?_
              refine ok_region ?_
              refine s_val (.agg #[.int .i64 (-1), .int .i64 0, .int .i64 0, .int .i64 0, .string ⟨#[]⟩, .string ⟨#[]⟩, .bool false]) (by kernel_rfl) (fun _ => by kernel_rfl) ?_
              refine s_load 2 ⟨b1, (cutV a).cells, 25⟩ (off := 0) (cutV a) (by kernel_rfl) rfl (by kernel_rfl) (by kernel_rfl) (by kernel_rfl) ?_
              refine s_call (k := 13) (args := #[.agg #[.int .i64 (-1), .int .i64 0, .int .i64 0, .int .i64 0, .string ⟨#[]⟩, .string ⟨#[]⟩, .bool false], cutV a]) (.int .i64 (cmpC (endC (-1)) a)) (by kernel_rfl) (fun _ => by kernel_rfl) (fun w _ => cmpC_any (endC (-1)) a w (end_short (-1)) sa) ?_
              by_cases h23 : (cmpC (endC (-1)) a : Int) ≤ 0
              · skip
                refine s_dec (p := (cmpC (endC (-1)) a : Int) ≤ 0) true (by kernel_rfl) (fun _ => by kernel_rfl) (decide_eq_true (h23)) ?_
                refine s_val (.bool true) (by kernel_rfl) (fun _ => by kernel_rfl) ?_
                refine s_load 2 ⟨b1, (cutV a).cells, 25⟩ (off := 0) (cutV a) (by kernel_rfl) rfl (by kernel_rfl) (by kernel_rfl) (by kernel_rfl) ?_
                refine s_val (.agg #[.int .i64 1, .int .i64 0, .int .i64 0, .int .i64 0, .string ⟨#[]⟩, .string ⟨#[]⟩, .bool false]) (by kernel_rfl) (fun _ => by kernel_rfl) ?_
                refine s_call (k := 13) (args := #[cutV a, .agg #[.int .i64 1, .int .i64 0, .int .i64 0, .int .i64 0, .string ⟨#[]⟩, .string ⟨#[]⟩, .bool false]]) (.int .i64 (cmpC a (endC (1)))) (by kernel_rfl) (fun _ => by kernel_rfl) (fun w _ => cmpC_any a (endC (1)) w sa (end_short (1))) ?_
                by_cases h24 : (cmpC a (endC (1)) : Int) ≤ 0
                · skip
                  refine s_dec (p := (cmpC a (endC (1)) : Int) ≤ 0) true (by kernel_rfl) (fun _ => by kernel_rfl) (decide_eq_true (h24)) ?_
                  refine s_val (.bool true) (by kernel_rfl) (fun _ => by kernel_rfl) ?_
                  refine s_val (.bool true) (by kernel_rfl) (fun _ => by kernel_rfl) ?_
                  refine s_nil ?_
                  refine fin_seq ?_
                  refine ok_seq ?_
                  refine ok_region ?_
                  refine s_call (k := 10) (args := #[]) (.bool true) (by kernel_rfl) (fun _ => by kernel_rfl) (fun w _ => awake3_any w) ?_
                  refine s_val (.bool true) (by kernel_rfl) (fun _ => by kernel_rfl) ?_
                  refine s_load 1 ⟨b2, (cutV b).cells, 25⟩ (off := 0) (cutV b) (by kernel_rfl) rfl (by kernel_rfl) (by kernel_rfl) (by kernel_rfl) ?_
                  refine s_load 2 ⟨b1, (cutV a).cells, 25⟩ (off := 0) (cutV a) (by kernel_rfl) rfl (by kernel_rfl) (by kernel_rfl) (by kernel_rfl) ?_
                  refine s_call (k := 13) (args := #[cutV b, cutV a]) (.int .i64 (cmpC b a)) (by kernel_rfl) (fun _ => by kernel_rfl) (fun w _ => cmpC_any b a w sb sa) ?_
                  refine s_val (.int .i64 (cmpC a b)) (by kernel_rfl) (fun _ => by kernel_rfl) ?_
                  refine s_sum (k := .i64) ((0 : Int) - (cmpC a b)) (by kernel_rfl) (fun _ => by kernel_rfl) (IntWalk.i64_in _ (by omega)) ?_
                  by_cases h25 : (cmpC b a : Int) = (0 : Int) - (cmpC a b)
                  · skip
                    refine s_dec (p := (cmpC b a : Int) = (0 : Int) - (cmpC a b)) true (by kernel_rfl) (fun _ => by kernel_rfl) (decide_eq_true (h25)) ?_
                    refine s_val (.bool true) (by kernel_rfl) (fun _ => by kernel_rfl) ?_
                    refine s_val (.bool true) (by kernel_rfl) (fun _ => by kernel_rfl) ?_
                    refine s_val (.bool true) (by kernel_rfl) (fun _ => by kernel_rfl) ?_
                    refine s_val (.bool true) (by kernel_rfl) (fun _ => by kernel_rfl) ?_
                    refine s_val (.bool true) (by kernel_rfl) (fun _ => by kernel_rfl) ?_
                    refine s_val (.bool true) (by kernel_rfl) (fun _ => by kernel_rfl) ?_
                    refine s_val (.bool true) (by kernel_rfl) (fun _ => by kernel_rfl) ?_
                    refine s_val (.bool true) (by kernel_rfl) (fun _ => by kernel_rfl) ?_
                    refine s_val (.int .i64 (cmpC a b)) (by kernel_rfl) (fun _ => by kernel_rfl) ?_
                    refine s_dec (p := (cmpC a b : Int) = 0) true (by kernel_rfl) (fun _ => by kernel_rfl) (decide_eq_true (h20)) ?_
                    refine s_load 2 ⟨b1, (cutV a).cells, 25⟩ (off := 0) (cutV a) (by kernel_rfl) rfl (by kernel_rfl) (by kernel_rfl) (by kernel_rfl) ?_
                    refine s_load 1 ⟨b2, (cutV b).cells, 25⟩ (off := 0) (cutV b) (by kernel_rfl) rfl (by kernel_rfl) (by kernel_rfl) (by kernel_rfl) ?_
                    by_cases h26 : a = b
                    · skip
                      refine s_val (.bool true) (by kernel_rfl) (op_eq_cut rfl (by kernel_rfl) (by kernel_rfl) (decide_eq_true (h26))) ?_
                      refine s_val (.bool true) (by kernel_rfl) (fun _ => by kernel_rfl) ?_
                      refine s_val (.bool true) (by kernel_rfl) (fun _ => by kernel_rfl) ?_
                      refine s_val (.bool true) (by kernel_rfl) (fun _ => by kernel_rfl) ?_
                      refine s_nil ?_
                      refine fin_seq ?_
                      refine ok_ret ?_
                      refine fin_ret (.bool true) Try.results5 (by kernel_rfl) ?_
                      exact fun w hO => ⟨rfl, hO.below⟩
                    · skip
                      refine s_val (.bool false) (by kernel_rfl) (op_eq_cut rfl (by kernel_rfl) (by kernel_rfl) (decide_eq_false (h26))) ?_
                      refine s_val (.bool false) (by kernel_rfl) (fun _ => by kernel_rfl) ?_
                      refine s_val (.bool false) (by kernel_rfl) (fun _ => by kernel_rfl) ?_
                      refine s_val (.bool false) (by kernel_rfl) (fun _ => by kernel_rfl) ?_
                      refine s_nil ?_
                      refine fin_seq ?_
                      refine ok_ret ?_
                      refine fin_ret (.bool false) Try.results5 (by kernel_rfl) ?_
                      exact fun w hO => by exfalso; first | omega | (have := hsame (by omega) (by omega); omega) | (have := heq.1 (by omega); contradiction) | (have := heq.2 (by assumption); omega)
                  · skip
                    refine s_dec (p := (cmpC b a : Int) = (0 : Int) - (cmpC a b)) false (by kernel_rfl) (fun _ => by kernel_rfl) (decide_eq_false (h25)) ?_
                    refine s_val (.bool false) (by kernel_rfl) (fun _ => by kernel_rfl) ?_
                    refine s_val (.bool false) (by kernel_rfl) (fun _ => by kernel_rfl) ?_
                    refine s_skip (by kernel_rfl) ?_
                    refine s_val (.bool false) (by kernel_rfl) (fun _ => by kernel_rfl) ?_
                    refine s_val (.bool false) (by kernel_rfl) (fun _ => by kernel_rfl) ?_
                    refine s_skip (by kernel_rfl) ?_
                    refine s_val (.bool false) (by kernel_rfl) (fun _ => by kernel_rfl) ?_
                    refine s_val (.bool false) (by kernel_rfl) (fun _ => by kernel_rfl) ?_
                    refine s_skip (by kernel_rfl) ?_
                    refine s_skip (by kernel_rfl) ?_
                    refine s_skip (by kernel_rfl) ?_
                    refine s_skip (by kernel_rfl) ?_
                    refine s_skip (by kernel_rfl) ?_
                    refine s_skip (by kernel_rfl) ?_
                    refine s_val (.bool false) (by kernel_rfl) (fun _ => by kernel_rfl) ?_
                    refine s_val (.bool false) (by kernel_rfl) (fun _ => by kernel_rfl) ?_
                    refine s_nil ?_
                    refine fin_seq ?_
                    refine ok_ret ?_
                    refine fin_ret (.bool false) Try.results5 (by kernel_rfl) ?_
                    exact fun w hO => by exfalso; first | omega | (have := hsame (by omega) (by omega); omega) | (have := heq.1 (by omega); contradiction) | (have := heq.2 (by assumption); omega)
                · skip
                  refine s_dec (p := (cmpC a (endC (1)) : Int) ≤ 0) false (by kernel_rfl) (fun _ => by kernel_rfl) (decide_eq_false (h24)) ?_
                  refine s_val (.bool false) (by kernel_rfl) (fun _ => by kernel_rfl) ?_
                  refine s_val (.bool false) (by kernel_rfl) (fun _ => by kernel_rfl) ?_
                  refine s_nil ?_
                  refine fin_seq ?_
                  refine ok_seq ?_
                  refine ok_region ?_
                  refine s_call (k := 10) (args := #[]) (.bool true) (by kernel_rfl) (fun _ => by kernel_rfl) (fun w _ => awake3_any w) ?_
                  refine s_val (.bool true) (by kernel_rfl) (fun _ => by kernel_rfl) ?_
                  refine s_load 1 ⟨b2, (cutV b).cells, 25⟩ (off := 0) (cutV b) (by kernel_rfl) rfl (by kernel_rfl) (by kernel_rfl) (by kernel_rfl) ?_
                  refine s_load 2 ⟨b1, (cutV a).cells, 25⟩ (off := 0) (cutV a) (by kernel_rfl) rfl (by kernel_rfl) (by kernel_rfl) (by kernel_rfl) ?_
                  refine s_call (k := 13) (args := #[cutV b, cutV a]) (.int .i64 (cmpC b a)) (by kernel_rfl) (fun _ => by kernel_rfl) (fun w _ => cmpC_any b a w sb sa) ?_
                  refine s_val (.int .i64 (cmpC a b)) (by kernel_rfl) (fun _ => by kernel_rfl) ?_
                  refine s_sum (k := .i64) ((0 : Int) - (cmpC a b)) (by kernel_rfl) (fun _ => by kernel_rfl) (IntWalk.i64_in _ (by omega)) ?_
                  by_cases h27 : (cmpC b a : Int) = (0 : Int) - (cmpC a b)
                  · skip
                    refine s_dec (p := (cmpC b a : Int) = (0 : Int) - (cmpC a b)) true (by kernel_rfl) (fun _ => by kernel_rfl) (decide_eq_true (h27)) ?_
                    refine s_val (.bool true) (by kernel_rfl) (fun _ => by kernel_rfl) ?_
                    refine s_val (.bool true) (by kernel_rfl) (fun _ => by kernel_rfl) ?_
                    refine s_val (.bool true) (by kernel_rfl) (fun _ => by kernel_rfl) ?_
                    refine s_val (.bool true) (by kernel_rfl) (fun _ => by kernel_rfl) ?_
                    refine s_val (.bool true) (by kernel_rfl) (fun _ => by kernel_rfl) ?_
                    refine s_val (.bool false) (by kernel_rfl) (fun _ => by kernel_rfl) ?_
                    refine s_val (.bool false) (by kernel_rfl) (fun _ => by kernel_rfl) ?_
                    refine s_val (.bool false) (by kernel_rfl) (fun _ => by kernel_rfl) ?_
                    refine s_skip (by kernel_rfl) ?_
                    refine s_skip (by kernel_rfl) ?_
                    refine s_skip (by kernel_rfl) ?_
                    refine s_skip (by kernel_rfl) ?_
                    refine s_skip (by kernel_rfl) ?_
                    refine s_skip (by kernel_rfl) ?_
                    refine s_val (.bool false) (by kernel_rfl) (fun _ => by kernel_rfl) ?_
                    refine s_val (.bool false) (by kernel_rfl) (fun _ => by kernel_rfl) ?_
                    refine s_nil ?_
                    refine fin_seq ?_
                    refine ok_ret ?_
                    refine fin_ret (.bool false) Try.results5 (by kernel_rfl) ?_
                    exact fun w hO => by exfalso; first | omega | (have := hsame (by omega) (by omega); omega) | (have := heq.1 (by omega); contradiction) | (have := heq.2 (by assumption); omega)
                  · skip
                    refine s_dec (p := (cmpC b a : Int) = (0 : Int) - (cmpC a b)) false (by kernel_rfl) (fun _ => by kernel_rfl) (decide_eq_false (h27)) ?_
                    refine s_val (.bool false) (by kernel_rfl) (fun _ => by kernel_rfl) ?_
                    refine s_val (.bool false) (by kernel_rfl) (fun _ => by kernel_rfl) ?_
                    refine s_skip (by kernel_rfl) ?_
                    refine s_val (.bool false) (by kernel_rfl) (fun _ => by kernel_rfl) ?_
                    refine s_val (.bool false) (by kernel_rfl) (fun _ => by kernel_rfl) ?_
                    refine s_skip (by kernel_rfl) ?_
                    refine s_val (.bool false) (by kernel_rfl) (fun _ => by kernel_rfl) ?_
                    refine s_val (.bool false) (by kernel_rfl) (fun _ => by kernel_rfl) ?_
                    refine s_skip (by kernel_rfl) ?_
                    refine s_skip (by kernel_rfl) ?_
                    refine s_skip (by kernel_rfl) ?_
                    refine s_skip (by kernel_rfl) ?_
                    refine s_skip (by kernel_rfl) ?_
                    refine s_skip (by kernel_rfl) ?_
                    refine s_val (.bool false) (by kernel_rfl) (fun _ => by kernel_rfl) ?_
                    refine s_val (.bool false) (by kernel_rfl) (fun _ => by kernel_rfl) ?_
                    refine s_nil ?_
                    refine fin_seq ?_
                    refine ok_ret ?_
                    refine fin_ret (.bool false) Try.results5 (by kernel_rfl) ?_
                    exact fun w hO => by exfalso; first | omega | (have := hsame (by omega) (by omega); omega) | (have := heq.1 (by omega); contradiction) | (have := heq.2 (by assumption); omega)
              · skip
                refine s_dec (p := (cmpC (endC (-1)) a : Int) ≤ 0) false (by kernel_rfl) (fun _ => by kernel_rfl) (decide_eq_false (h23)) ?_
                refine s_val (.bool false) (by kernel_rfl) (fun _ => by kernel_rfl) ?_
                refine s_skip (by kernel_rfl) ?_
                refine s_skip (by kernel_rfl) ?_
                refine s_skip (by kernel_rfl) ?_
                refine s_skip (by kernel_rfl) ?_
                refine s_val (.bool false) (by kernel_rfl) (fun _ => by kernel_rfl) ?_
                refine s_val (.bool false) (by kernel_rfl) (fun _ => by kernel_rfl) ?_
                refine s_nil ?_
                refine fin_seq ?_
                refine ok_seq ?_
                refine ok_region ?_
                refine s_call (k := 10) (args := #[]) (.bool true) (by kernel_rfl) (fun _ => by kernel_rfl) (fun w _ => awake3_any w) ?_
                refine s_val (.bool true) (by kernel_rfl) (fun _ => by kernel_rfl) ?_
                refine s_load 1 ⟨b2, (cutV b).cells, 25⟩ (off := 0) (cutV b) (by kernel_rfl) rfl (by kernel_rfl) (by kernel_rfl) (by kernel_rfl) ?_
                refine s_load 2 ⟨b1, (cutV a).cells, 25⟩ (off := 0) (cutV a) (by kernel_rfl) rfl (by kernel_rfl) (by kernel_rfl) (by kernel_rfl) ?_
                refine s_call (k := 13) (args := #[cutV b, cutV a]) (.int .i64 (cmpC b a)) (by kernel_rfl) (fun _ => by kernel_rfl) (fun w _ => cmpC_any b a w sb sa) ?_
                refine s_val (.int .i64 (cmpC a b)) (by kernel_rfl) (fun _ => by kernel_rfl) ?_
                refine s_sum (k := .i64) ((0 : Int) - (cmpC a b)) (by kernel_rfl) (fun _ => by kernel_rfl) (IntWalk.i64_in _ (by omega)) ?_
                by_cases h28 : (cmpC b a : Int) = (0 : Int) - (cmpC a b)
                · skip
                  refine s_dec (p := (cmpC b a : Int) = (0 : Int) - (cmpC a b)) true (by kernel_rfl) (fun _ => by kernel_rfl) (decide_eq_true (h28)) ?_
                  refine s_val (.bool true) (by kernel_rfl) (fun _ => by kernel_rfl) ?_
                  refine s_val (.bool true) (by kernel_rfl) (fun _ => by kernel_rfl) ?_
                  refine s_val (.bool true) (by kernel_rfl) (fun _ => by kernel_rfl) ?_
                  refine s_val (.bool true) (by kernel_rfl) (fun _ => by kernel_rfl) ?_
                  refine s_val (.bool true) (by kernel_rfl) (fun _ => by kernel_rfl) ?_
                  refine s_val (.bool false) (by kernel_rfl) (fun _ => by kernel_rfl) ?_
                  refine s_val (.bool false) (by kernel_rfl) (fun _ => by kernel_rfl) ?_
                  refine s_val (.bool false) (by kernel_rfl) (fun _ => by kernel_rfl) ?_
                  refine s_skip (by kernel_rfl) ?_
                  refine s_skip (by kernel_rfl) ?_
                  refine s_skip (by kernel_rfl) ?_
                  refine s_skip (by kernel_rfl) ?_
                  refine s_skip (by kernel_rfl) ?_
                  refine s_skip (by kernel_rfl) ?_
                  refine s_val (.bool false) (by kernel_rfl) (fun _ => by kernel_rfl) ?_
                  refine s_val (.bool false) (by kernel_rfl) (fun _ => by kernel_rfl) ?_
                  refine s_nil ?_
                  refine fin_seq ?_
                  refine ok_ret ?_
                  refine fin_ret (.bool false) Try.results5 (by kernel_rfl) ?_
                  exact fun w hO => by exfalso; first | omega | (have := hsame (by omega) (by omega); omega) | (have := heq.1 (by omega); contradiction) | (have := heq.2 (by assumption); omega)
                · skip
                  refine s_dec (p := (cmpC b a : Int) = (0 : Int) - (cmpC a b)) false (by kernel_rfl) (fun _ => by kernel_rfl) (decide_eq_false (h28)) ?_
                  refine s_val (.bool false) (by kernel_rfl) (fun _ => by kernel_rfl) ?_
                  refine s_val (.bool false) (by kernel_rfl) (fun _ => by kernel_rfl) ?_
                  refine s_skip (by kernel_rfl) ?_
                  refine s_val (.bool false) (by kernel_rfl) (fun _ => by kernel_rfl) ?_
                  refine s_val (.bool false) (by kernel_rfl) (fun _ => by kernel_rfl) ?_
                  refine s_skip (by kernel_rfl) ?_
                  refine s_val (.bool false) (by kernel_rfl) (fun _ => by kernel_rfl) ?_
                  refine s_val (.bool false) (by kernel_rfl) (fun _ => by kernel_rfl) ?_
                  refine s_skip (by kernel_rfl) ?_
                  refine s_skip (by kernel_rfl) ?_
                  refine s_skip (by kernel_rfl) ?_
                  refine s_skip (by kernel_rfl) ?_
                  refine s_skip (by kernel_rfl) ?_
                  refine s_skip (by kernel_rfl) ?_
                  refine s_val (.bool false) (by kernel_rfl) (fun _ => by kernel_rfl) ?_
                  refine s_val (.bool false) (by kernel_rfl) (fun _ => by kernel_rfl) ?_
                  refine s_nil ?_
                  refine fin_seq ?_
                  refine ok_ret ?_
                  refine fin_ret (.bool false) Try.results5 (by kernel_rfl) ?_
                  exact fun w hO => by exfalso; first | omega | (have := hsame (by omega) (by omega); omega) | (have := heq.1 (by omega); contradiction) | (have := heq.2 (by assumption); omega)
            · skip
              refine s_dec (p := (cmpC a c : Int) = 0) false (by kernel_rfl) (fun _ => by kernel_rfl) (decide_eq_false (h22)) ?_
              refine s_val (.bool false) (by kernel_rfl) (fun _ => by kernel_rfl) ?_
              refine s_val (.bool false) (by kernel_rfl) (fun _ => by kernel_rfl) ?_
              refine s_val (.bool false) (by kernel_rfl) (fun _ => by kernel_rfl) ?_
              refine s_val (.bool false) (by kernel_rfl) (fun _ => by kernel_rfl) ?_
              refine s_nil ?_
              refine fin_seq ?_
              refine ok_seq ?_
              refine ok_region ?_
              refine s_val (.agg #[.int .i64 (-1), .int .i64 0, .int .i64 0, .int .i64 0, .string ⟨#[]⟩, .string ⟨#[]⟩, .bool false]) (by kernel_rfl) (fun _ => by kernel_rfl) ?_
              refine s_load 2 ⟨b1, (cutV a).cells, 25⟩ (off := 0) (cutV a) (by kernel_rfl) rfl (by kernel_rfl) (by kernel_rfl) (by kernel_rfl) ?_
              refine s_call (k := 13) (args := #[.agg #[.int .i64 (-1), .int .i64 0, .int .i64 0, .int .i64 0, .string ⟨#[]⟩, .string ⟨#[]⟩, .bool false], cutV a]) (.int .i64 (cmpC (endC (-1)) a)) (by kernel_rfl) (fun _ => by kernel_rfl) (fun w _ => cmpC_any (endC (-1)) a w (end_short (-1)) sa) ?_
              by_cases h29 : (cmpC (endC (-1)) a : Int) ≤ 0
              · skip
                refine s_dec (p := (cmpC (endC (-1)) a : Int) ≤ 0) true (by kernel_rfl) (fun _ => by kernel_rfl) (decide_eq_true (h29)) ?_
                refine s_val (.bool true) (by kernel_rfl) (fun _ => by kernel_rfl) ?_
                refine s_load 2 ⟨b1, (cutV a).cells, 25⟩ (off := 0) (cutV a) (by kernel_rfl) rfl (by kernel_rfl) (by kernel_rfl) (by kernel_rfl) ?_
                refine s_val (.agg #[.int .i64 1, .int .i64 0, .int .i64 0, .int .i64 0, .string ⟨#[]⟩, .string ⟨#[]⟩, .bool false]) (by kernel_rfl) (fun _ => by kernel_rfl) ?_
                refine s_call (k := 13) (args := #[cutV a, .agg #[.int .i64 1, .int .i64 0, .int .i64 0, .int .i64 0, .string ⟨#[]⟩, .string ⟨#[]⟩, .bool false]]) (.int .i64 (cmpC a (endC (1)))) (by kernel_rfl) (fun _ => by kernel_rfl) (fun w _ => cmpC_any a (endC (1)) w sa (end_short (1))) ?_
                by_cases h30 : (cmpC a (endC (1)) : Int) ≤ 0
                · skip
                  refine s_dec (p := (cmpC a (endC (1)) : Int) ≤ 0) true (by kernel_rfl) (fun _ => by kernel_rfl) (decide_eq_true (h30)) ?_
                  refine s_val (.bool true) (by kernel_rfl) (fun _ => by kernel_rfl) ?_
                  refine s_val (.bool true) (by kernel_rfl) (fun _ => by kernel_rfl) ?_
                  refine s_nil ?_
                  refine fin_seq ?_
                  refine ok_seq ?_
                  refine ok_region ?_
                  refine s_call (k := 10) (args := #[]) (.bool true) (by kernel_rfl) (fun _ => by kernel_rfl) (fun w _ => awake3_any w) ?_
                  refine s_val (.bool true) (by kernel_rfl) (fun _ => by kernel_rfl) ?_
                  refine s_load 1 ⟨b2, (cutV b).cells, 25⟩ (off := 0) (cutV b) (by kernel_rfl) rfl (by kernel_rfl) (by kernel_rfl) (by kernel_rfl) ?_
                  refine s_load 2 ⟨b1, (cutV a).cells, 25⟩ (off := 0) (cutV a) (by kernel_rfl) rfl (by kernel_rfl) (by kernel_rfl) (by kernel_rfl) ?_
                  refine s_call (k := 13) (args := #[cutV b, cutV a]) (.int .i64 (cmpC b a)) (by kernel_rfl) (fun _ => by kernel_rfl) (fun w _ => cmpC_any b a w sb sa) ?_
                  refine s_val (.int .i64 (cmpC a b)) (by kernel_rfl) (fun _ => by kernel_rfl) ?_
                  refine s_sum (k := .i64) ((0 : Int) - (cmpC a b)) (by kernel_rfl) (fun _ => by kernel_rfl) (IntWalk.i64_in _ (by omega)) ?_
                  by_cases h31 : (cmpC b a : Int) = (0 : Int) - (cmpC a b)
                  · skip
                    refine s_dec (p := (cmpC b a : Int) = (0 : Int) - (cmpC a b)) true (by kernel_rfl) (fun _ => by kernel_rfl) (decide_eq_true (h31)) ?_
                    refine s_val (.bool true) (by kernel_rfl) (fun _ => by kernel_rfl) ?_
                    refine s_val (.bool true) (by kernel_rfl) (fun _ => by kernel_rfl) ?_
                    refine s_val (.bool false) (by kernel_rfl) (fun _ => by kernel_rfl) ?_
                    refine s_val (.bool false) (by kernel_rfl) (fun _ => by kernel_rfl) ?_
                    refine s_val (.bool false) (by kernel_rfl) (fun _ => by kernel_rfl) ?_
                    refine s_skip (by kernel_rfl) ?_
                    refine s_val (.bool false) (by kernel_rfl) (fun _ => by kernel_rfl) ?_
                    refine s_val (.bool false) (by kernel_rfl) (fun _ => by kernel_rfl) ?_
                    refine s_skip (by kernel_rfl) ?_
                    refine s_skip (by kernel_rfl) ?_
                    refine s_skip (by kernel_rfl) ?_
                    refine s_skip (by kernel_rfl) ?_
                    refine s_skip (by kernel_rfl) ?_
                    refine s_skip (by kernel_rfl) ?_
                    refine s_val (.bool false) (by kernel_rfl) (fun _ => by kernel_rfl) ?_
                    refine s_val (.bool false) (by kernel_rfl) (fun _ => by kernel_rfl) ?_
                    refine s_nil ?_
                    refine fin_seq ?_
                    refine ok_ret ?_
                    refine fin_ret (.bool false) Try.results5 (by kernel_rfl) ?_
                    exact fun w hO => by exfalso; first | omega | (have := hsame (by omega) (by omega); omega) | (have := heq.1 (by omega); contradiction) | (have := heq.2 (by assumption); omega)
                  · skip
                    refine s_dec (p := (cmpC b a : Int) = (0 : Int) - (cmpC a b)) false (by kernel_rfl) (fun _ => by kernel_rfl) (decide_eq_false (h31)) ?_
                    refine s_val (.bool false) (by kernel_rfl) (fun _ => by kernel_rfl) ?_
                    refine s_val (.bool false) (by kernel_rfl) (fun _ => by kernel_rfl) ?_
                    refine s_skip (by kernel_rfl) ?_
                    refine s_val (.bool false) (by kernel_rfl) (fun _ => by kernel_rfl) ?_
                    refine s_val (.bool false) (by kernel_rfl) (fun _ => by kernel_rfl) ?_
                    refine s_skip (by kernel_rfl) ?_
                    refine s_val (.bool false) (by kernel_rfl) (fun _ => by kernel_rfl) ?_
                    refine s_val (.bool false) (by kernel_rfl) (fun _ => by kernel_rfl) ?_
                    refine s_skip (by kernel_rfl) ?_
                    refine s_skip (by kernel_rfl) ?_
                    refine s_skip (by kernel_rfl) ?_
                    refine s_skip (by kernel_rfl) ?_
                    refine s_skip (by kernel_rfl) ?_
                    refine s_skip (by kernel_rfl) ?_
                    refine s_val (.bool false) (by kernel_rfl) (fun _ => by kernel_rfl) ?_
                    refine s_val (.bool false) (by kernel_rfl) (fun _ => by kernel_rfl) ?_
                    refine s_nil ?_
                    refine fin_seq ?_
                    refine ok_ret ?_
                    refine fin_ret (.bool false) Try.results5 (by kernel_rfl) ?_
                    exact fun w hO => by exfalso; first | omega | (have := hsame (by omega) (by omega); omega) | (have := heq.1 (by omega); contradiction) | (have := heq.2 (by assumption); omega)
                · skip
                  refine s_dec (p := (cmpC a (endC (1)) : Int) ≤ 0) false (by kernel_rfl) (fun _ => by kernel_rfl) (decide_eq_false (h30)) ?_
                  refine s_val (.bool false) (by kernel_rfl) (fun _ => by kernel_rfl) ?_
                  refine s_val (.bool false) (by kernel_rfl) (fun _ => by kernel_rfl) ?_
                  refine s_nil ?_
                  refine fin_seq ?_
                  refine ok_seq ?_
                  refine ok_region ?_
                  refine s_call (k := 10) (args := #[]) (.bool true) (by kernel_rfl) (fun _ => by kernel_rfl) (fun w _ => awake3_any w) ?_
                  refine s_val (.bool true) (by kernel_rfl) (fun _ => by kernel_rfl) ?_
                  refine s_load 1 ⟨b2, (cutV b).cells, 25⟩ (off := 0) (cutV b) (by kernel_rfl) rfl (by kernel_rfl) (by kernel_rfl) (by kernel_rfl) ?_
                  refine s_load 2 ⟨b1, (cutV a).cells, 25⟩ (off := 0) (cutV a) (by kernel_rfl) rfl (by kernel_rfl) (by kernel_rfl) (by kernel_rfl) ?_
                  refine s_call (k := 13) (args := #[cutV b, cutV a]) (.int .i64 (cmpC b a)) (by kernel_rfl) (fun _ => by kernel_rfl) (fun w _ => cmpC_any b a w sb sa) ?_
                  refine s_val (.int .i64 (cmpC a b)) (by kernel_rfl) (fun _ => by kernel_rfl) ?_
                  refine s_sum (k := .i64) ((0 : Int) - (cmpC a b)) (by kernel_rfl) (fun _ => by kernel_rfl) (IntWalk.i64_in _ (by omega)) ?_
                  by_cases h32 : (cmpC b a : Int) = (0 : Int) - (cmpC a b)
                  · skip
                    refine s_dec (p := (cmpC b a : Int) = (0 : Int) - (cmpC a b)) true (by kernel_rfl) (fun _ => by kernel_rfl) (decide_eq_true (h32)) ?_
                    refine s_val (.bool true) (by kernel_rfl) (fun _ => by kernel_rfl) ?_
                    refine s_val (.bool true) (by kernel_rfl) (fun _ => by kernel_rfl) ?_
                    refine s_val (.bool false) (by kernel_rfl) (fun _ => by kernel_rfl) ?_
                    refine s_val (.bool false) (by kernel_rfl) (fun _ => by kernel_rfl) ?_
                    refine s_val (.bool false) (by kernel_rfl) (fun _ => by kernel_rfl) ?_
                    refine s_skip (by kernel_rfl) ?_
                    refine s_val (.bool false) (by kernel_rfl) (fun _ => by kernel_rfl) ?_
                    refine s_val (.bool false) (by kernel_rfl) (fun _ => by kernel_rfl) ?_
                    refine s_skip (by kernel_rfl) ?_
                    refine s_skip (by kernel_rfl) ?_
                    refine s_skip (by kernel_rfl) ?_
                    refine s_skip (by kernel_rfl) ?_
                    refine s_skip (by kernel_rfl) ?_
                    refine s_skip (by kernel_rfl) ?_
                    refine s_val (.bool false) (by kernel_rfl) (fun _ => by kernel_rfl) ?_
                    refine s_val (.bool false) (by kernel_rfl) (fun _ => by kernel_rfl) ?_
                    refine s_nil ?_
                    refine fin_seq ?_
                    refine ok_ret ?_
                    refine fin_ret (.bool false) Try.results5 (by kernel_rfl) ?_
                    exact fun w hO => by exfalso; first | omega | (have := hsame (by omega) (by omega); omega) | (have := heq.1 (by omega); contradiction) | (have := heq.2 (by assumption); omega)
                  · skip
                    refine s_dec (p := (cmpC b a : Int) = (0 : Int) - (cmpC a b)) false (by kernel_rfl) (fun _ => by kernel_rfl) (decide_eq_false (h32)) ?_
                    refine s_val (.bool false) (by kernel_rfl) (fun _ => by kernel_rfl) ?_
                    refine s_val (.bool false) (by kernel_rfl) (fun _ => by kernel_rfl) ?_
                    refine s_skip (by kernel_rfl) ?_
                    refine s_val (.bool false) (by kernel_rfl) (fun _ => by kernel_rfl) ?_
                    refine s_val (.bool false) (by kernel_rfl) (fun _ => by kernel_rfl) ?_
                    refine s_skip (by kernel_rfl) ?_
                    refine s_val (.bool false) (by kernel_rfl) (fun _ => by kernel_rfl) ?_
                    refine s_val (.bool false) (by kernel_rfl) (fun _ => by kernel_rfl) ?_
                    refine s_skip (by kernel_rfl) ?_
                    refine s_skip (by kernel_rfl) ?_
                    refine s_skip (by kernel_rfl) ?_
                    refine s_skip (by kernel_rfl) ?_
                    refine s_skip (by kernel_rfl) ?_
                    refine s_skip (by kernel_rfl) ?_
                    refine s_val (.bool false) (by kernel_rfl) (fun _ => by kernel_rfl) ?_
                    refine s_val (.bool false) (by kernel_rfl) (fun _ => by kernel_rfl) ?_
                    refine s_nil ?_
                    refine fin_seq ?_
                    refine ok_ret ?_
                    refine fin_ret (.bool false) Try.results5 (by kernel_rfl) ?_
                    exact fun w hO => by exfalso; first | omega | (have := hsame (by omega) (by omega); omega) | (have := heq.1 (by omega); contradiction) | (have := heq.2 (by assumption); omega)
              · skip
                refine s_dec (p := (cmpC (endC (-1)) a : Int) ≤ 0) false (by kernel_rfl) (fun _ => by kernel_rfl) (decide_eq_false (h29)) ?_
                refine s_val (.bool false) (by kernel_rfl) (fun _ => by kernel_rfl) ?_
                refine s_skip (by kernel_rfl) ?_
                refine s_skip (by kernel_rfl) ?_
                refine s_skip (by kernel_rfl) ?_
                refine s_skip (by kernel_rfl) ?_
                refine s_val (.bool false) (by kernel_rfl) (fun _ => by kernel_rfl) ?_
                refine s_val (.bool false) (by kernel_rfl) (fun _ => by kernel_rfl) ?_
                refine s_nil ?_
                refine fin_seq ?_
                refine ok_seq ?_
                refine ok_region ?_
                refine s_call (k := 10) (args := #[]) (.bool true) (by kernel_rfl) (fun _ => by kernel_rfl) (fun w _ => awake3_any w) ?_
                refine s_val (.bool true) (by kernel_rfl) (fun _ => by kernel_rfl) ?_
                refine s_load 1 ⟨b2, (cutV b).cells, 25⟩ (off := 0) (cutV b) (by kernel_rfl) rfl (by kernel_rfl) (by kernel_rfl) (by kernel_rfl) ?_
                refine s_load 2 ⟨b1, (cutV a).cells, 25⟩ (off := 0) (cutV a) (by kernel_rfl) rfl (by kernel_rfl) (by kernel_rfl) (by kernel_rfl) ?_
                refine s_call (k := 13) (args := #[cutV b, cutV a]) (.int .i64 (cmpC b a)) (by kernel_rfl) (fun _ => by kernel_rfl) (fun w _ => cmpC_any b a w sb sa) ?_
                refine s_val (.int .i64 (cmpC a b)) (by kernel_rfl) (fun _ => by kernel_rfl) ?_
                refine s_sum (k := .i64) ((0 : Int) - (cmpC a b)) (by kernel_rfl) (fun _ => by kernel_rfl) (IntWalk.i64_in _ (by omega)) ?_
                by_cases h33 : (cmpC b a : Int) = (0 : Int) - (cmpC a b)
                · skip
                  refine s_dec (p := (cmpC b a : Int) = (0 : Int) - (cmpC a b)) true (by kernel_rfl) (fun _ => by kernel_rfl) (decide_eq_true (h33)) ?_
                  refine s_val (.bool true) (by kernel_rfl) (fun _ => by kernel_rfl) ?_
                  refine s_val (.bool true) (by kernel_rfl) (fun _ => by kernel_rfl) ?_
                  refine s_val (.bool false) (by kernel_rfl) (fun _ => by kernel_rfl) ?_
                  refine s_val (.bool false) (by kernel_rfl) (fun _ => by kernel_rfl) ?_
                  refine s_val (.bool false) (by kernel_rfl) (fun _ => by kernel_rfl) ?_
                  refine s_skip (by kernel_rfl) ?_
                  refine s_val (.bool false) (by kernel_rfl) (fun _ => by kernel_rfl) ?_
                  refine s_val (.bool false) (by kernel_rfl) (fun _ => by kernel_rfl) ?_
                  refine s_skip (by kernel_rfl) ?_
                  refine s_skip (by kernel_rfl) ?_
                  refine s_skip (by kernel_rfl) ?_
                  refine s_skip (by kernel_rfl) ?_
                  refine s_skip (by kernel_rfl) ?_
                  refine s_skip (by kernel_rfl) ?_
                  refine s_val (.bool false) (by kernel_rfl) (fun _ => by kernel_rfl) ?_
                  refine s_val (.bool false) (by kernel_rfl) (fun _ => by kernel_rfl) ?_
                  refine s_nil ?_
                  refine fin_seq ?_
                  refine ok_ret ?_
                  refine fin_ret (.bool false) Try.results5 (by kernel_rfl) ?_
                  exact fun w hO => by exfalso; first | omega | (have := hsame (by omega) (by omega); omega) | (have := heq.1 (by omega); contradiction) | (have := heq.2 (by assumption); omega)
                · skip
                  refine s_dec (p := (cmpC b a : Int) = (0 : Int) - (cmpC a b)) false (by kernel_rfl) (fun _ => by kernel_rfl) (decide_eq_false (h33)) ?_
                  refine s_val (.bool false) (by kernel_rfl) (fun _ => by kernel_rfl) ?_
                  refine s_val (.bool false) (by kernel_rfl) (fun _ => by kernel_rfl) ?_
                  refine s_skip (by kernel_rfl) ?_
                  refine s_val (.bool false) (by kernel_rfl) (fun _ => by kernel_rfl) ?_
                  refine s_val (.bool false) (by kernel_rfl) (fun _ => by kernel_rfl) ?_
                  refine s_skip (by kernel_rfl) ?_
                  refine s_val (.bool false) (by kernel_rfl) (fun _ => by kernel_rfl) ?_
                  refine s_val (.bool false) (by kernel_rfl) (fun _ => by kernel_rfl) ?_
                  refine s_skip (by kernel_rfl) ?_
                  refine s_skip (by kernel_rfl) ?_
                  refine s_skip (by kernel_rfl) ?_
                  refine s_skip (by kernel_rfl) ?_
                  refine s_skip (by kernel_rfl) ?_
                  refine s_skip (by kernel_rfl) ?_
                  refine s_val (.bool false) (by kernel_rfl) (fun _ => by kernel_rfl) ?_
                  refine s_val (.bool false) (by kernel_rfl) (fun _ => by kernel_rfl) ?_
                  refine s_nil ?_
                  refine fin_seq ?_
                  refine ok_ret ?_
                  refine fin_ret (.bool false) Try.results5 (by kernel_rfl) ?_
                  exact fun w hO => by exfalso; first | omega | (have := hsame (by omega) (by omega); omega) | (have := heq.1 (by omega); contradiction) | (have := heq.2 (by assumption); omega)
          · skip
            refine s_dec (p := (cmpC b c : Int) = 0) false (by kernel_rfl) (fun _ => by kernel_rfl) (decide_eq_false (h21)) ?_
            refine s_val (.bool false) (by kernel_rfl) (fun _ => by kernel_rfl) ?_
            refine s_val (.int .i64 (cmpC a c)) (by kernel_rfl) (fun _ => by kernel_rfl) ?_
            by_cases h34 : (cmpC a c : Int) = 0
            · skip
              refine s_dec (p := (cmpC a c : Int) = 0) true (by kernel_rfl) (fun _ => by kernel_rfl) (decide_eq_true (h34)) ?_
              refine s_val (.bool false) (by kernel_rfl) (fun _ => by kernel_rfl) ?_
              refine s_val (.bool false) (by kernel_rfl) (fun _ => by kernel_rfl) ?_
              refine s_val (.bool false) (by kernel_rfl) (fun _ => by kernel_rfl) ?_
              refine s_val (.bool false) (by kernel_rfl) (fun _ => by kernel_rfl) ?_
              refine s_nil ?_
              refine fin_seq ?_
              refine ok_seq ?_
              refine ok_region ?_
              refine s_val (.agg #[.int .i64 (-1), .int .i64 0, .int .i64 0, .int .i64 0, .string ⟨#[]⟩, .string ⟨#[]⟩, .bool false]) (by kernel_rfl) (fun _ => by kernel_rfl) ?_
              refine s_load 2 ⟨b1, (cutV a).cells, 25⟩ (off := 0) (cutV a) (by kernel_rfl) rfl (by kernel_rfl) (by kernel_rfl) (by kernel_rfl) ?_
              refine s_call (k := 13) (args := #[.agg #[.int .i64 (-1), .int .i64 0, .int .i64 0, .int .i64 0, .string ⟨#[]⟩, .string ⟨#[]⟩, .bool false], cutV a]) (.int .i64 (cmpC (endC (-1)) a)) (by kernel_rfl) (fun _ => by kernel_rfl) (fun w _ => cmpC_any (endC (-1)) a w (end_short (-1)) sa) ?_
              by_cases h35 : (cmpC (endC (-1)) a : Int) ≤ 0
              · skip
                refine s_dec (p := (cmpC (endC (-1)) a : Int) ≤ 0) true (by kernel_rfl) (fun _ => by kernel_rfl) (decide_eq_true (h35)) ?_
                refine s_val (.bool true) (by kernel_rfl) (fun _ => by kernel_rfl) ?_
                refine s_load 2 ⟨b1, (cutV a).cells, 25⟩ (off := 0) (cutV a) (by kernel_rfl) rfl (by kernel_rfl) (by kernel_rfl) (by kernel_rfl) ?_
                refine s_val (.agg #[.int .i64 1, .int .i64 0, .int .i64 0, .int .i64 0, .string ⟨#[]⟩, .string ⟨#[]⟩, .bool false]) (by kernel_rfl) (fun _ => by kernel_rfl) ?_
                refine s_call (k := 13) (args := #[cutV a, .agg #[.int .i64 1, .int .i64 0, .int .i64 0, .int .i64 0, .string ⟨#[]⟩, .string ⟨#[]⟩, .bool false]]) (.int .i64 (cmpC a (endC (1)))) (by kernel_rfl) (fun _ => by kernel_rfl) (fun w _ => cmpC_any a (endC (1)) w sa (end_short (1))) ?_
                by_cases h36 : (cmpC a (endC (1)) : Int) ≤ 0
                · skip
                  refine s_dec (p := (cmpC a (endC (1)) : Int) ≤ 0) true (by kernel_rfl) (fun _ => by kernel_rfl) (decide_eq_true (h36)) ?_
                  refine s_val (.bool true) (by kernel_rfl) (fun _ => by kernel_rfl) ?_
                  refine s_val (.bool true) (by kernel_rfl) (fun _ => by kernel_rfl) ?_
                  refine s_nil ?_
                  refine fin_seq ?_
                  refine ok_seq ?_
                  refine ok_region ?_
                  refine s_call (k := 10) (args := #[]) (.bool true) (by kernel_rfl) (fun _ => by kernel_rfl) (fun w _ => awake3_any w) ?_
                  refine s_val (.bool true) (by kernel_rfl) (fun _ => by kernel_rfl) ?_
                  refine s_load 1 ⟨b2, (cutV b).cells, 25⟩ (off := 0) (cutV b) (by kernel_rfl) rfl (by kernel_rfl) (by kernel_rfl) (by kernel_rfl) ?_
                  refine s_load 2 ⟨b1, (cutV a).cells, 25⟩ (off := 0) (cutV a) (by kernel_rfl) rfl (by kernel_rfl) (by kernel_rfl) (by kernel_rfl) ?_
                  refine s_call (k := 13) (args := #[cutV b, cutV a]) (.int .i64 (cmpC b a)) (by kernel_rfl) (fun _ => by kernel_rfl) (fun w _ => cmpC_any b a w sb sa) ?_
                  refine s_val (.int .i64 (cmpC a b)) (by kernel_rfl) (fun _ => by kernel_rfl) ?_
                  refine s_sum (k := .i64) ((0 : Int) - (cmpC a b)) (by kernel_rfl) (fun _ => by kernel_rfl) (IntWalk.i64_in _ (by omega)) ?_
                  by_cases h37 : (cmpC b a : Int) = (0 : Int) - (cmpC a b)
                  · skip
                    refine s_dec (p := (cmpC b a : Int) = (0 : Int) - (cmpC a b)) true (by kernel_rfl) (fun _ => by kernel_rfl) (decide_eq_true (h37)) ?_
                    refine s_val (.bool true) (by kernel_rfl) (fun _ => by kernel_rfl) ?_
                    refine s_val (.bool true) (by kernel_rfl) (fun _ => by kernel_rfl) ?_
                    refine s_val (.bool false) (by kernel_rfl) (fun _ => by kernel_rfl) ?_
                    refine s_val (.bool false) (by kernel_rfl) (fun _ => by kernel_rfl) ?_
                    refine s_val (.bool false) (by kernel_rfl) (fun _ => by kernel_rfl) ?_
                    refine s_skip (by kernel_rfl) ?_
                    refine s_val (.bool false) (by kernel_rfl) (fun _ => by kernel_rfl) ?_
                    refine s_val (.bool false) (by kernel_rfl) (fun _ => by kernel_rfl) ?_
                    refine s_skip (by kernel_rfl) ?_
                    refine s_skip (by kernel_rfl) ?_
                    refine s_skip (by kernel_rfl) ?_
                    refine s_skip (by kernel_rfl) ?_
                    refine s_skip (by kernel_rfl) ?_
                    refine s_skip (by kernel_rfl) ?_
                    refine s_val (.bool false) (by kernel_rfl) (fun _ => by kernel_rfl) ?_
                    refine s_val (.bool false) (by kernel_rfl) (fun _ => by kernel_rfl) ?_
                    refine s_nil ?_
                    refine fin_seq ?_
                    refine ok_ret ?_
                    refine fin_ret (.bool false) Try.results5 (by kernel_rfl) ?_
                    exact fun w hO => by exfalso; first | omega | (have := hsame (by omega) (by omega); omega) | (have := heq.1 (by omega); contradiction) | (have := heq.2 (by assumption); omega)
                  · skip
                    refine s_dec (p := (cmpC b a : Int) = (0 : Int) - (cmpC a b)) false (by kernel_rfl) (fun _ => by kernel_rfl) (decide_eq_false (h37)) ?_
                    refine s_val (.bool false) (by kernel_rfl) (fun _ => by kernel_rfl) ?_
                    refine s_val (.bool false) (by kernel_rfl) (fun _ => by kernel_rfl) ?_
                    refine s_skip (by kernel_rfl) ?_
                    refine s_val (.bool false) (by kernel_rfl) (fun _ => by kernel_rfl) ?_
                    refine s_val (.bool false) (by kernel_rfl) (fun _ => by kernel_rfl) ?_
                    refine s_skip (by kernel_rfl) ?_
                    refine s_val (.bool false) (by kernel_rfl) (fun _ => by kernel_rfl) ?_
                    refine s_val (.bool false) (by kernel_rfl) (fun _ => by kernel_rfl) ?_
                    refine s_skip (by kernel_rfl) ?_
                    refine s_skip (by kernel_rfl) ?_
                    refine s_skip (by kernel_rfl) ?_
                    refine s_skip (by kernel_rfl) ?_
                    refine s_skip (by kernel_rfl) ?_
                    refine s_skip (by kernel_rfl) ?_
                    refine s_val (.bool false) (by kernel_rfl) (fun _ => by kernel_rfl) ?_
                    refine s_val (.bool false) (by kernel_rfl) (fun _ => by kernel_rfl) ?_
                    refine s_nil ?_
                    refine fin_seq ?_
                    refine ok_ret ?_
                    refine fin_ret (.bool false) Try.results5 (by kernel_rfl) ?_
                    exact fun w hO => by exfalso; first | omega | (have := hsame (by omega) (by omega); omega) | (have := heq.1 (by omega); contradiction) | (have := heq.2 (by assumption); omega)
                · skip
                  refine s_dec (p := (cmpC a (endC (1)) : Int) ≤ 0) false (by kernel_rfl) (fun _ => by kernel_rfl) (decide_eq_false (h36)) ?_
                  refine s_val (.bool false) (by kernel_rfl) (fun _ => by kernel_rfl) ?_
                  refine s_val (.bool false) (by kernel_rfl) (fun _ => by kernel_rfl) ?_
                  refine s_nil ?_
                  refine fin_seq ?_
                  refine ok_seq ?_
                  refine ok_region ?_
                  refine s_call (k := 10) (args := #[]) (.bool true) (by kernel_rfl) (fun _ => by kernel_rfl) (fun w _ => awake3_any w) ?_
                  refine s_val (.bool true) (by kernel_rfl) (fun _ => by kernel_rfl) ?_
                  refine s_load 1 ⟨b2, (cutV b).cells, 25⟩ (off := 0) (cutV b) (by kernel_rfl) rfl (by kernel_rfl) (by kernel_rfl) (by kernel_rfl) ?_
                  refine s_load 2 ⟨b1, (cutV a).cells, 25⟩ (off := 0) (cutV a) (by kernel_rfl) rfl (by kernel_rfl) (by kernel_rfl) (by kernel_rfl) ?_
                  refine s_call (k := 13) (args := #[cutV b, cutV a]) (.int .i64 (cmpC b a)) (by kernel_rfl) (fun _ => by kernel_rfl) (fun w _ => cmpC_any b a w sb sa) ?_
                  refine s_val (.int .i64 (cmpC a b)) (by kernel_rfl) (fun _ => by kernel_rfl) ?_
                  refine s_sum (k := .i64) ((0 : Int) - (cmpC a b)) (by kernel_rfl) (fun _ => by kernel_rfl) (IntWalk.i64_in _ (by omega)) ?_
                  by_cases h38 : (cmpC b a : Int) = (0 : Int) - (cmpC a b)
                  · skip
                    refine s_dec (p := (cmpC b a : Int) = (0 : Int) - (cmpC a b)) true (by kernel_rfl) (fun _ => by kernel_rfl) (decide_eq_true (h38)) ?_
                    refine s_val (.bool true) (by kernel_rfl) (fun _ => by kernel_rfl) ?_
                    refine s_val (.bool true) (by kernel_rfl) (fun _ => by kernel_rfl) ?_
                    refine s_val (.bool false) (by kernel_rfl) (fun _ => by kernel_rfl) ?_
                    refine s_val (.bool false) (by kernel_rfl) (fun _ => by kernel_rfl) ?_
                    refine s_val (.bool false) (by kernel_rfl) (fun _ => by kernel_rfl) ?_
                    refine s_skip (by kernel_rfl) ?_
                    refine s_val (.bool false) (by kernel_rfl) (fun _ => by kernel_rfl) ?_
                    refine s_val (.bool false) (by kernel_rfl) (fun _ => by kernel_rfl) ?_
                    refine s_skip (by kernel_rfl) ?_
                    refine s_skip (by kernel_rfl) ?_
                    refine s_skip (by kernel_rfl) ?_
                    refine s_skip (by kernel_rfl) ?_
                    refine s_skip (by kernel_rfl) ?_
                    refine s_skip (by kernel_rfl) ?_
                    refine s_val (.bool false) (by kernel_rfl) (fun _ => by kernel_rfl) ?_
                    refine s_val (.bool false) (by kernel_rfl) (fun _ => by kernel_rfl) ?_
                    refine s_nil ?_
                    refine fin_seq ?_
                    refine ok_ret ?_
                    refine fin_ret (.bool false) Try.results5 (by kernel_rfl) ?_
                    exact fun w hO => by exfalso; first | omega | (have := hsame (by omega) (by omega); omega) | (have := heq.1 (by omega); contradiction) | (have := heq.2 (by assumption); omega)
                  · skip
                    refine s_dec (p := (cmpC b a : Int) = (0 : Int) - (cmpC a b)) false (by kernel_rfl) (fun _ => by kernel_rfl) (decide_eq_false (h38)) ?_
                    refine s_val (.bool false) (by kernel_rfl) (fun _ => by kernel_rfl) ?_
                    refine s_val (.bool false) (by kernel_rfl) (fun _ => by kernel_rfl) ?_
                    refine s_skip (by kernel_rfl) ?_
                    refine s_val (.bool false) (by kernel_rfl) (fun _ => by kernel_rfl) ?_
                    refine s_val (.bool false) (by kernel_rfl) (fun _ => by kernel_rfl) ?_
                    refine s_skip (by kernel_rfl) ?_
                    refine s_val (.bool false) (by kernel_rfl) (fun _ => by kernel_rfl) ?_
                    refine s_val (.bool false) (by kernel_rfl) (fun _ => by kernel_rfl) ?_
                    refine s_skip (by kernel_rfl) ?_
                    refine s_skip (by kernel_rfl) ?_
                    refine s_skip (by kernel_rfl) ?_
                    refine s_skip (by kernel_rfl) ?_
                    refine s_skip (by kernel_rfl) ?_
                    refine s_skip (by kernel_rfl) ?_
                    refine s_val (.bool false) (by kernel_rfl) (fun _ => by kernel_rfl) ?_
                    refine s_val (.bool false) (by kernel_rfl) (fun _ => by kernel_rfl) ?_
                    refine s_nil ?_
                    refine fin_seq ?_
                    refine ok_ret ?_
                    refine fin_ret (.bool false) Try.results5 (by kernel_rfl) ?_
                    exact fun w hO => by exfalso; first | omega | (have := hsame (by omega) (by omega); omega) | (have := heq.1 (by omega); contradiction) | (have := heq.2 (by assumption); omega)
              · skip
                refine s_dec (p := (cmpC (endC (-1)) a : Int) ≤ 0) false (by kernel_rfl) (fun _ => by kernel_rfl) (decide_eq_false (h35)) ?_
                refine s_val (.bool false) (by kernel_rfl) (fun _ => by kernel_rfl) ?_
                refine s_skip (by kernel_rfl) ?_
                refine s_skip (by kernel_rfl) ?_
                refine s_skip (by kernel_rfl) ?_
                refine s_skip (by kernel_rfl) ?_
                refine s_val (.bool false) (by kernel_rfl) (fun _ => by kernel_rfl) ?_
                refine s_val (.bool false) (by kernel_rfl) (fun _ => by kernel_rfl) ?_
                refine s_nil ?_
                refine fin_seq ?_
                refine ok_seq ?_
                refine ok_region ?_
                refine s_call (k := 10) (args := #[]) (.bool true) (by kernel_rfl) (fun _ => by kernel_rfl) (fun w _ => awake3_any w) ?_
                refine s_val (.bool true) (by kernel_rfl) (fun _ => by kernel_rfl) ?_
                refine s_load 1 ⟨b2, (cutV b).cells, 25⟩ (off := 0) (cutV b) (by kernel_rfl) rfl (by kernel_rfl) (by kernel_rfl) (by kernel_rfl) ?_
                refine s_load 2 ⟨b1, (cutV a).cells, 25⟩ (off := 0) (cutV a) (by kernel_rfl) rfl (by kernel_rfl) (by kernel_rfl) (by kernel_rfl) ?_
                refine s_call (k := 13) (args := #[cutV b, cutV a]) (.int .i64 (cmpC b a)) (by kernel_rfl) (fun _ => by kernel_rfl) (fun w _ => cmpC_any b a w sb sa) ?_
                refine s_val (.int .i64 (cmpC a b)) (by kernel_rfl) (fun _ => by kernel_rfl) ?_
                refine s_sum (k := .i64) ((0 : Int) - (cmpC a b)) (by kernel_rfl) (fun _ => by kernel_rfl) (IntWalk.i64_in _ (by omega)) ?_
                by_cases h39 : (cmpC b a : Int) = (0 : Int) - (cmpC a b)
                · skip
                  refine s_dec (p := (cmpC b a : Int) = (0 : Int) - (cmpC a b)) true (by kernel_rfl) (fun _ => by kernel_rfl) (decide_eq_true (h39)) ?_
                  refine s_val (.bool true) (by kernel_rfl) (fun _ => by kernel_rfl) ?_
                  refine s_val (.bool true) (by kernel_rfl) (fun _ => by kernel_rfl) ?_
                  refine s_val (.bool false) (by kernel_rfl) (fun _ => by kernel_rfl) ?_
                  refine s_val (.bool false) (by kernel_rfl) (fun _ => by kernel_rfl) ?_
                  refine s_val (.bool false) (by kernel_rfl) (fun _ => by kernel_rfl) ?_
                  refine s_skip (by kernel_rfl) ?_
                  refine s_val (.bool false) (by kernel_rfl) (fun _ => by kernel_rfl) ?_
                  refine s_val (.bool false) (by kernel_rfl) (fun _ => by kernel_rfl) ?_
                  refine s_skip (by kernel_rfl) ?_
                  refine s_skip (by kernel_rfl) ?_
                  refine s_skip (by kernel_rfl) ?_
                  refine s_skip (by kernel_rfl) ?_
                  refine s_skip (by kernel_rfl) ?_
                  refine s_skip (by kernel_rfl) ?_
                  refine s_val (.bool false) (by kernel_rfl) (fun _ => by kernel_rfl) ?_
                  refine s_val (.bool false) (by kernel_rfl) (fun _ => by kernel_rfl) ?_
                  refine s_nil ?_
                  refine fin_seq ?_
                  refine ok_ret ?_
                  refine fin_ret (.bool false) Try.results5 (by kernel_rfl) ?_
                  exact fun w hO => by exfalso; first | omega | (have := hsame (by omega) (by omega); omega) | (have := heq.1 (by omega); contradiction) | (have := heq.2 (by assumption); omega)
                · skip
                  refine s_dec (p := (cmpC b a : Int) = (0 : Int) - (cmpC a b)) false (by kernel_rfl) (fun _ => by kernel_rfl) (decide_eq_false (h39)) ?_
                  refine s_val (.bool false) (by kernel_rfl) (fun _ => by kernel_rfl) ?_
                  refine s_val (.bool false) (by kernel_rfl) (fun _ => by kernel_rfl) ?_
                  refine s_skip (by kernel_rfl) ?_
                  refine s_val (.bool false) (by kernel_rfl) (fun _ => by kernel_rfl) ?_
                  refine s_val (.bool false) (by kernel_rfl) (fun _ => by kernel_rfl) ?_
                  refine s_skip (by kernel_rfl) ?_
                  refine s_val (.bool false) (by kernel_rfl) (fun _ => by kernel_rfl) ?_
                  refine s_val (.bool false) (by kernel_rfl) (fun _ => by kernel_rfl) ?_
                  refine s_skip (by kernel_rfl) ?_
                  refine s_skip (by kernel_rfl) ?_
                  refine s_skip (by kernel_rfl) ?_
                  refine s_skip (by kernel_rfl) ?_
                  refine s_skip (by kernel_rfl) ?_
                  refine s_skip (by kernel_rfl) ?_
                  refine s_val (.bool false) (by kernel_rfl) (fun _ => by kernel_rfl) ?_
                  refine s_val (.bool false) (by kernel_rfl) (fun _ => by kernel_rfl) ?_
                  refine s_nil ?_
                  refine fin_seq ?_
                  refine ok_ret ?_
                  refine fin_ret (.bool false) Try.results5 (by kernel_rfl) ?_
                  exact fun w hO => by exfalso; first | omega | (have := hsame (by omega) (by omega); omega) | (have := heq.1 (by omega); contradiction) | (have := heq.2 (by assumption); omega)
            · skip
              refine s_dec (p := (cmpC a c : Int) = 0) false (by kernel_rfl) (fun _ => by kernel_rfl) (decide_eq_false (h34)) ?_
              refine s_val (.bool true) (by kernel_rfl) (fun _ => by kernel_rfl) ?_
              refine s_val (.bool true) (by kernel_rfl) (fun _ => by kernel_rfl) ?_
              refine s_val (.bool true) (by kernel_rfl) (fun _ => by kernel_rfl) ?_
              refine s_val (.bool true) (by kernel_rfl) (fun _ => by kernel_rfl) ?_
              refine s_nil ?_
              refine fin_seq ?_
              refine ok_seq ?_
              refine ok_region ?_
              refine s_val (.agg #[.int .i64 (-1), .int .i64 0, .int .i64 0, .int .i64 0, .string ⟨#[]⟩, .string ⟨#[]⟩, .bool false]) (by kernel_rfl) (fun _ => by kernel_rfl) ?_
              refine s_load 2 ⟨b1, (cutV a).cells, 25⟩ (off := 0) (cutV a) (by kernel_rfl) rfl (by kernel_rfl) (by kernel_rfl) (by kernel_rfl) ?_
              refine s_call (k := 13) (args := #[.agg #[.int .i64 (-1), .int .i64 0, .int .i64 0, .int .i64 0, .string ⟨#[]⟩, .string ⟨#[]⟩, .bool false], cutV a]) (.int .i64 (cmpC (endC (-1)) a)) (by kernel_rfl) (fun _ => by kernel_rfl) (fun w _ => cmpC_any (endC (-1)) a w (end_short (-1)) sa) ?_
              by_cases h40 : (cmpC (endC (-1)) a : Int) ≤ 0
              · skip
                refine s_dec (p := (cmpC (endC (-1)) a : Int) ≤ 0) true (by kernel_rfl) (fun _ => by kernel_rfl) (decide_eq_true (h40)) ?_
                refine s_val (.bool true) (by kernel_rfl) (fun _ => by kernel_rfl) ?_
                refine s_load 2 ⟨b1, (cutV a).cells, 25⟩ (off := 0) (cutV a) (by kernel_rfl) rfl (by kernel_rfl) (by kernel_rfl) (by kernel_rfl) ?_
                refine s_val (.agg #[.int .i64 1, .int .i64 0, .int .i64 0, .int .i64 0, .string ⟨#[]⟩, .string ⟨#[]⟩, .bool false]) (by kernel_rfl) (fun _ => by kernel_rfl) ?_
                refine s_call (k := 13) (args := #[cutV a, .agg #[.int .i64 1, .int .i64 0, .int .i64 0, .int .i64 0, .string ⟨#[]⟩, .string ⟨#[]⟩, .bool false]]) (.int .i64 (cmpC a (endC (1)))) (by kernel_rfl) (fun _ => by kernel_rfl) (fun w _ => cmpC_any a (endC (1)) w sa (end_short (1))) ?_
                by_cases h41 : (cmpC a (endC (1)) : Int) ≤ 0
                · skip
                  refine s_dec (p := (cmpC a (endC (1)) : Int) ≤ 0) true (by kernel_rfl) (fun _ => by kernel_rfl) (decide_eq_true (h41)) ?_
                  refine s_val (.bool true) (by kernel_rfl) (fun _ => by kernel_rfl) ?_
                  refine s_val (.bool true) (by kernel_rfl) (fun _ => by kernel_rfl) ?_
                  refine s_nil ?_
                  refine fin_seq ?_
                  refine ok_seq ?_
                  refine ok_region ?_
                  refine s_call (k := 10) (args := #[]) (.bool true) (by kernel_rfl) (fun _ => by kernel_rfl) (fun w _ => awake3_any w) ?_
                  refine s_val (.bool true) (by kernel_rfl) (fun _ => by kernel_rfl) ?_
                  refine s_load 1 ⟨b2, (cutV b).cells, 25⟩ (off := 0) (cutV b) (by kernel_rfl) rfl (by kernel_rfl) (by kernel_rfl) (by kernel_rfl) ?_
                  refine s_load 2 ⟨b1, (cutV a).cells, 25⟩ (off := 0) (cutV a) (by kernel_rfl) rfl (by kernel_rfl) (by kernel_rfl) (by kernel_rfl) ?_
                  refine s_call (k := 13) (args := #[cutV b, cutV a]) (.int .i64 (cmpC b a)) (by kernel_rfl) (fun _ => by kernel_rfl) (fun w _ => cmpC_any b a w sb sa) ?_
                  refine s_val (.int .i64 (cmpC a b)) (by kernel_rfl) (fun _ => by kernel_rfl) ?_
                  refine s_sum (k := .i64) ((0 : Int) - (cmpC a b)) (by kernel_rfl) (fun _ => by kernel_rfl) (IntWalk.i64_in _ (by omega)) ?_
                  by_cases h42 : (cmpC b a : Int) = (0 : Int) - (cmpC a b)
                  · skip
                    refine s_dec (p := (cmpC b a : Int) = (0 : Int) - (cmpC a b)) true (by kernel_rfl) (fun _ => by kernel_rfl) (decide_eq_true (h42)) ?_
                    refine s_val (.bool true) (by kernel_rfl) (fun _ => by kernel_rfl) ?_
                    refine s_val (.bool true) (by kernel_rfl) (fun _ => by kernel_rfl) ?_
                    refine s_val (.bool true) (by kernel_rfl) (fun _ => by kernel_rfl) ?_
                    refine s_val (.bool true) (by kernel_rfl) (fun _ => by kernel_rfl) ?_
                    refine s_val (.bool true) (by kernel_rfl) (fun _ => by kernel_rfl) ?_
                    refine s_val (.bool true) (by kernel_rfl) (fun _ => by kernel_rfl) ?_
                    refine s_val (.bool true) (by kernel_rfl) (fun _ => by kernel_rfl) ?_
                    refine s_val (.bool true) (by kernel_rfl) (fun _ => by kernel_rfl) ?_
                    refine s_val (.int .i64 (cmpC a b)) (by kernel_rfl) (fun _ => by kernel_rfl) ?_
                    refine s_dec (p := (cmpC a b : Int) = 0) true (by kernel_rfl) (fun _ => by kernel_rfl) (decide_eq_true (h20)) ?_
                    refine s_load 2 ⟨b1, (cutV a).cells, 25⟩ (off := 0) (cutV a) (by kernel_rfl) rfl (by kernel_rfl) (by kernel_rfl) (by kernel_rfl) ?_
                    refine s_load 1 ⟨b2, (cutV b).cells, 25⟩ (off := 0) (cutV b) (by kernel_rfl) rfl (by kernel_rfl) (by kernel_rfl) (by kernel_rfl) ?_
                    by_cases h43 : a = b
                    · skip
                      refine s_val (.bool true) (by kernel_rfl) (op_eq_cut rfl (by kernel_rfl) (by kernel_rfl) (decide_eq_true (h43))) ?_
                      refine s_val (.bool true) (by kernel_rfl) (fun _ => by kernel_rfl) ?_
                      refine s_val (.bool true) (by kernel_rfl) (fun _ => by kernel_rfl) ?_
                      refine s_val (.bool true) (by kernel_rfl) (fun _ => by kernel_rfl) ?_
                      refine s_nil ?_
                      refine fin_seq ?_
                      refine ok_ret ?_
                      refine fin_ret (.bool true) Try.results5 (by kernel_rfl) ?_
                      exact fun w hO => ⟨rfl, hO.below⟩
                    · skip
                      refine s_val (.bool false) (by kernel_rfl) (op_eq_cut rfl (by kernel_rfl) (by kernel_rfl) (decide_eq_false (h43))) ?_
                      refine s_val (.bool false) (by kernel_rfl) (fun _ => by kernel_rfl) ?_
                      refine s_val (.bool false) (by kernel_rfl) (fun _ => by kernel_rfl) ?_
                      refine s_val (.bool false) (by kernel_rfl) (fun _ => by kernel_rfl) ?_
                      refine s_nil ?_
                      refine fin_seq ?_
                      refine ok_ret ?_
                      refine fin_ret (.bool false) Try.results5 (by kernel_rfl) ?_
                      exact fun w hO => by exfalso; first | omega | (have := hsame (by omega) (by omega); omega) | (have := heq.1 (by omega); contradiction) | (have := heq.2 (by assumption); omega)
                  · skip
                    refine s_dec (p := (cmpC b a : Int) = (0 : Int) - (cmpC a b)) false (by kernel_rfl) (fun _ => by kernel_rfl) (decide_eq_false (h42)) ?_
                    refine s_val (.bool false) (by kernel_rfl) (fun _ => by kernel_rfl) ?_
                    refine s_val (.bool false) (by kernel_rfl) (fun _ => by kernel_rfl) ?_
                    refine s_skip (by kernel_rfl) ?_
                    refine s_val (.bool false) (by kernel_rfl) (fun _ => by kernel_rfl) ?_
                    refine s_val (.bool false) (by kernel_rfl) (fun _ => by kernel_rfl) ?_
                    refine s_skip (by kernel_rfl) ?_
                    refine s_val (.bool false) (by kernel_rfl) (fun _ => by kernel_rfl) ?_
                    refine s_val (.bool false) (by kernel_rfl) (fun _ => by kernel_rfl) ?_
                    refine s_skip (by kernel_rfl) ?_
                    refine s_skip (by kernel_rfl) ?_
                    refine s_skip (by kernel_rfl) ?_
                    refine s_skip (by kernel_rfl) ?_
                    refine s_skip (by kernel_rfl) ?_
                    refine s_skip (by kernel_rfl) ?_
                    refine s_val (.bool false) (by kernel_rfl) (fun _ => by kernel_rfl) ?_
                    refine s_val (.bool false) (by kernel_rfl) (fun _ => by kernel_rfl) ?_
                    refine s_nil ?_
                    refine fin_seq ?_
                    refine ok_ret ?_
                    refine fin_ret (.bool false) Try.results5 (by kernel_rfl) ?_
                    exact fun w hO => by exfalso; first | omega | (have := hsame (by omega) (by omega); omega) | (have := heq.1 (by omega); contradiction) | (have := heq.2 (by assumption); omega)
                · skip
                  refine s_dec (p := (cmpC a (endC (1)) : Int) ≤ 0) false (by kernel_rfl) (fun _ => by kernel_rfl) (decide_eq_false (h41)) ?_
                  refine s_val (.bool false) (by kernel_rfl) (fun _ => by kernel_rfl) ?_
                  refine s_val (.bool false) (by kernel_rfl) (fun _ => by kernel_rfl) ?_
                  refine s_nil ?_
                  refine fin_seq ?_
                  refine ok_seq ?_
                  refine ok_region ?_
                  refine s_call (k := 10) (args := #[]) (.bool true) (by kernel_rfl) (fun _ => by kernel_rfl) (fun w _ => awake3_any w) ?_
                  refine s_val (.bool true) (by kernel_rfl) (fun _ => by kernel_rfl) ?_
                  refine s_load 1 ⟨b2, (cutV b).cells, 25⟩ (off := 0) (cutV b) (by kernel_rfl) rfl (by kernel_rfl) (by kernel_rfl) (by kernel_rfl) ?_
                  refine s_load 2 ⟨b1, (cutV a).cells, 25⟩ (off := 0) (cutV a) (by kernel_rfl) rfl (by kernel_rfl) (by kernel_rfl) (by kernel_rfl) ?_
                  refine s_call (k := 13) (args := #[cutV b, cutV a]) (.int .i64 (cmpC b a)) (by kernel_rfl) (fun _ => by kernel_rfl) (fun w _ => cmpC_any b a w sb sa) ?_
                  refine s_val (.int .i64 (cmpC a b)) (by kernel_rfl) (fun _ => by kernel_rfl) ?_
                  refine s_sum (k := .i64) ((0 : Int) - (cmpC a b)) (by kernel_rfl) (fun _ => by kernel_rfl) (IntWalk.i64_in _ (by omega)) ?_
                  by_cases h44 : (cmpC b a : Int) = (0 : Int) - (cmpC a b)
                  · skip
                    refine s_dec (p := (cmpC b a : Int) = (0 : Int) - (cmpC a b)) true (by kernel_rfl) (fun _ => by kernel_rfl) (decide_eq_true (h44)) ?_
                    refine s_val (.bool true) (by kernel_rfl) (fun _ => by kernel_rfl) ?_
                    refine s_val (.bool true) (by kernel_rfl) (fun _ => by kernel_rfl) ?_
                    refine s_val (.bool true) (by kernel_rfl) (fun _ => by kernel_rfl) ?_
                    refine s_val (.bool true) (by kernel_rfl) (fun _ => by kernel_rfl) ?_
                    refine s_val (.bool true) (by kernel_rfl) (fun _ => by kernel_rfl) ?_
                    refine s_val (.bool false) (by kernel_rfl) (fun _ => by kernel_rfl) ?_
                    refine s_val (.bool false) (by kernel_rfl) (fun _ => by kernel_rfl) ?_
                    refine s_val (.bool false) (by kernel_rfl) (fun _ => by kernel_rfl) ?_
                    refine s_skip (by kernel_rfl) ?_
                    refine s_skip (by kernel_rfl) ?_
                    refine s_skip (by kernel_rfl) ?_
                    refine s_skip (by kernel_rfl) ?_
                    refine s_skip (by kernel_rfl) ?_
                    refine s_skip (by kernel_rfl) ?_
                    refine s_val (.bool false) (by kernel_rfl) (fun _ => by kernel_rfl) ?_
                    refine s_val (.bool false) (by kernel_rfl) (fun _ => by kernel_rfl) ?_
                    refine s_nil ?_
                    refine fin_seq ?_
                    refine ok_ret ?_
                    refine fin_ret (.bool false) Try.results5 (by kernel_rfl) ?_
                    exact fun w hO => by exfalso; first | omega | (have := hsame (by omega) (by omega); omega) | (have := heq.1 (by omega); contradiction) | (have := heq.2 (by assumption); omega)
                  · skip
                    refine s_dec (p := (cmpC b a : Int) = (0 : Int) - (cmpC a b)) false (by kernel_rfl) (fun _ => by kernel_rfl) (decide_eq_false (h44)) ?_
                    refine s_val (.bool false) (by kernel_rfl) (fun _ => by kernel_rfl) ?_
                    refine s_val (.bool false) (by kernel_rfl) (fun _ => by kernel_rfl) ?_
                    refine s_skip (by kernel_rfl) ?_
                    refine s_val (.bool false) (by kernel_rfl) (fun _ => by kernel_rfl) ?_
                    refine s_val (.bool false) (by kernel_rfl) (fun _ => by kernel_rfl) ?_
                    refine s_skip (by kernel_rfl) ?_
                    refine s_val (.bool false) (by kernel_rfl) (fun _ => by kernel_rfl) ?_
                    refine s_val (.bool false) (by kernel_rfl) (fun _ => by kernel_rfl) ?_
                    refine s_skip (by kernel_rfl) ?_
                    refine s_skip (by kernel_rfl) ?_
                    refine s_skip (by kernel_rfl) ?_
                    refine s_skip (by kernel_rfl) ?_
                    refine s_skip (by kernel_rfl) ?_
                    refine s_skip (by kernel_rfl) ?_
                    refine s_val (.bool false) (by kernel_rfl) (fun _ => by kernel_rfl) ?_
                    refine s_val (.bool false) (by kernel_rfl) (fun _ => by kernel_rfl) ?_
                    refine s_nil ?_
                    refine fin_seq ?_
                    refine ok_ret ?_
                    refine fin_ret (.bool false) Try.results5 (by kernel_rfl) ?_
                    exact fun w hO => by exfalso; first | omega | (have := hsame (by omega) (by omega); omega) | (have := heq.1 (by omega); contradiction) | (have := heq.2 (by assumption); omega)
              · skip
                refine s_dec (p := (cmpC (endC (-1)) a : Int) ≤ 0) false (by kernel_rfl) (fun _ => by kernel_rfl) (decide_eq_false (h40)) ?_
                refine s_val (.bool false) (by kernel_rfl) (fun _ => by kernel_rfl) ?_
                refine s_skip (by kernel_rfl) ?_
                refine s_skip (by kernel_rfl) ?_
                refine s_skip (by kernel_rfl) ?_
                refine s_skip (by kernel_rfl) ?_
                refine s_val (.bool false) (by kernel_rfl) (fun _ => by kernel_rfl) ?_
                refine s_val (.bool false) (by kernel_rfl) (fun _ => by kernel_rfl) ?_
                refine s_nil ?_
                refine fin_seq ?_
                refine ok_seq ?_
                refine ok_region ?_
                refine s_call (k := 10) (args := #[]) (.bool true) (by kernel_rfl) (fun _ => by kernel_rfl) (fun w _ => awake3_any w) ?_
                refine s_val (.bool true) (by kernel_rfl) (fun _ => by kernel_rfl) ?_
                refine s_load 1 ⟨b2, (cutV b).cells, 25⟩ (off := 0) (cutV b) (by kernel_rfl) rfl (by kernel_rfl) (by kernel_rfl) (by kernel_rfl) ?_
                refine s_load 2 ⟨b1, (cutV a).cells, 25⟩ (off := 0) (cutV a) (by kernel_rfl) rfl (by kernel_rfl) (by kernel_rfl) (by kernel_rfl) ?_
                refine s_call (k := 13) (args := #[cutV b, cutV a]) (.int .i64 (cmpC b a)) (by kernel_rfl) (fun _ => by kernel_rfl) (fun w _ => cmpC_any b a w sb sa) ?_
                refine s_val (.int .i64 (cmpC a b)) (by kernel_rfl) (fun _ => by kernel_rfl) ?_
                refine s_sum (k := .i64) ((0 : Int) - (cmpC a b)) (by kernel_rfl) (fun _ => by kernel_rfl) (IntWalk.i64_in _ (by omega)) ?_
                by_cases h45 : (cmpC b a : Int) = (0 : Int) - (cmpC a b)
                · skip
                  refine s_dec (p := (cmpC b a : Int) = (0 : Int) - (cmpC a b)) true (by kernel_rfl) (fun _ => by kernel_rfl) (decide_eq_true (h45)) ?_
                  refine s_val (.bool true) (by kernel_rfl) (fun _ => by kernel_rfl) ?_
                  refine s_val (.bool true) (by kernel_rfl) (fun _ => by kernel_rfl) ?_
                  refine s_val (.bool true) (by kernel_rfl) (fun _ => by kernel_rfl) ?_
                  refine s_val (.bool true) (by kernel_rfl) (fun _ => by kernel_rfl) ?_
                  refine s_val (.bool true) (by kernel_rfl) (fun _ => by kernel_rfl) ?_
                  refine s_val (.bool false) (by kernel_rfl) (fun _ => by kernel_rfl) ?_
                  refine s_val (.bool false) (by kernel_rfl) (fun _ => by kernel_rfl) ?_
                  refine s_val (.bool false) (by kernel_rfl) (fun _ => by kernel_rfl) ?_
                  refine s_skip (by kernel_rfl) ?_
                  refine s_skip (by kernel_rfl) ?_
                  refine s_skip (by kernel_rfl) ?_
                  refine s_skip (by kernel_rfl) ?_
                  refine s_skip (by kernel_rfl) ?_
                  refine s_skip (by kernel_rfl) ?_
                  refine s_val (.bool false) (by kernel_rfl) (fun _ => by kernel_rfl) ?_
                  refine s_val (.bool false) (by kernel_rfl) (fun _ => by kernel_rfl) ?_
                  refine s_nil ?_
                  refine fin_seq ?_
                  refine ok_ret ?_
                  refine fin_ret (.bool false) Try.results5 (by kernel_rfl) ?_
                  exact fun w hO => by exfalso; first | omega | (have := hsame (by omega) (by omega); omega) | (have := heq.1 (by omega); contradiction) | (have := heq.2 (by assumption); omega)
                · skip
                  refine s_dec (p := (cmpC b a : Int) = (0 : Int) - (cmpC a b)) false (by kernel_rfl) (fun _ => by kernel_rfl) (decide_eq_false (h45)) ?_
                  refine s_val (.bool false) (by kernel_rfl) (fun _ => by kernel_rfl) ?_
                  refine s_val (.bool false) (by kernel_rfl) (fun _ => by kernel_rfl) ?_
                  refine s_skip (by kernel_rfl) ?_
                  refine s_val (.bool false) (by kernel_rfl) (fun _ => by kernel_rfl) ?_
                  refine s_val (.bool false) (by kernel_rfl) (fun _ => by kernel_rfl) ?_
                  refine s_skip (by kernel_rfl) ?_
                  refine s_val (.bool false) (by kernel_rfl) (fun _ => by kernel_rfl) ?_
                  refine s_val (.bool false) (by kernel_rfl) (fun _ => by kernel_rfl) ?_
                  refine s_skip (by kernel_rfl) ?_
                  refine s_skip (by kernel_rfl) ?_
                  refine s_skip (by kernel_rfl) ?_
                  refine s_skip (by kernel_rfl) ?_
                  refine s_skip (by kernel_rfl) ?_
                  refine s_skip (by kernel_rfl) ?_
                  refine s_val (.bool false) (by kernel_rfl) (fun _ => by kernel_rfl) ?_
                  refine s_val (.bool false) (by kernel_rfl) (fun _ => by kernel_rfl) ?_
                  refine s_nil ?_
                  refine fin_seq ?_
                  refine ok_ret ?_
                  refine fin_ret (.bool false) Try.results5 (by kernel_rfl) ?_
                  exact fun w hO => by exfalso; first | omega | (have := hsame (by omega) (by omega); omega) | (have := heq.1 (by omega); contradiction) | (have := heq.2 (by assumption); omega)
        · skip
          refine s_dec (p := (cmpC a b : Int) = 0) false (by kernel_rfl) (fun _ => by kernel_rfl) (decide_eq_false (h20)) ?_
          refine s_val (.bool false) (by kernel_rfl) (fun _ => by kernel_rfl) ?_
          refine s_skip (by kernel_rfl) ?_
          refine s_skip (by kernel_rfl) ?_
          refine s_val (.bool false) (by kernel_rfl) (fun _ => by kernel_rfl) ?_
          refine s_val (.int .i64 (cmpC a c)) (by kernel_rfl) (fun _ => by kernel_rfl) ?_
          by_cases h46 : (cmpC a c : Int) = 0
          · skip
            refine s_dec (p := (cmpC a c : Int) = 0) true (by kernel_rfl) (fun _ => by kernel_rfl) (decide_eq_true (h46)) ?_
            refine s_val (.bool false) (by kernel_rfl) (fun _ => by kernel_rfl) ?_
            refine s_val (.bool false) (by kernel_rfl) (fun _ => by kernel_rfl) ?_
            refine s_val (.bool false) (by kernel_rfl) (fun _ => by kernel_rfl) ?_
            refine s_val (.bool false) (by kernel_rfl) (fun _ => by kernel_rfl) ?_
            refine s_nil ?_
            refine fin_seq ?_
            refine ok_seq ?_
            refine ok_region ?_
            refine s_val (.agg #[.int .i64 (-1), .int .i64 0, .int .i64 0, .int .i64 0, .string ⟨#[]⟩, .string ⟨#[]⟩, .bool false]) (by kernel_rfl) (fun _ => by kernel_rfl) ?_
            refine s_load 2 ⟨b1, (cutV a).cells, 25⟩ (off := 0) (cutV a) (by kernel_rfl) rfl (by kernel_rfl) (by kernel_rfl) (by kernel_rfl) ?_
            refine s_call (k := 13) (args := #[.agg #[.int .i64 (-1), .int .i64 0, .int .i64 0, .int .i64 0, .string ⟨#[]⟩, .string ⟨#[]⟩, .bool false], cutV a]) (.int .i64 (cmpC (endC (-1)) a)) (by kernel_rfl) (fun _ => by kernel_rfl) (fun w _ => cmpC_any (endC (-1)) a w (end_short (-1)) sa) ?_
            by_cases h47 : (cmpC (endC (-1)) a : Int) ≤ 0
            · skip
              refine s_dec (p := (cmpC (endC (-1)) a : Int) ≤ 0) true (by kernel_rfl) (fun _ => by kernel_rfl) (decide_eq_true (h47)) ?_
              refine s_val (.bool true) (by kernel_rfl) (fun _ => by kernel_rfl) ?_
              refine s_load 2 ⟨b1, (cutV a).cells, 25⟩ (off := 0) (cutV a) (by kernel_rfl) rfl (by kernel_rfl) (by kernel_rfl) (by kernel_rfl) ?_
              refine s_val (.agg #[.int .i64 1, .int .i64 0, .int .i64 0, .int .i64 0, .string ⟨#[]⟩, .string ⟨#[]⟩, .bool false]) (by kernel_rfl) (fun _ => by kernel_rfl) ?_
              refine s_call (k := 13) (args := #[cutV a, .agg #[.int .i64 1, .int .i64 0, .int .i64 0, .int .i64 0, .string ⟨#[]⟩, .string ⟨#[]⟩, .bool false]]) (.int .i64 (cmpC a (endC (1)))) (by kernel_rfl) (fun _ => by kernel_rfl) (fun w _ => cmpC_any a (endC (1)) w sa (end_short (1))) ?_
              by_cases h48 : (cmpC a (endC (1)) : Int) ≤ 0
              · skip
                refine s_dec (p := (cmpC a (endC (1)) : Int) ≤ 0) true (by kernel_rfl) (fun _ => by kernel_rfl) (decide_eq_true (h48)) ?_
                refine s_val (.bool true) (by kernel_rfl) (fun _ => by kernel_rfl) ?_
                refine s_val (.bool true) (by kernel_rfl) (fun _ => by kernel_rfl) ?_
                refine s_nil ?_
                refine fin_seq ?_
                refine ok_seq ?_
                refine ok_region ?_
                refine s_call (k := 10) (args := #[]) (.bool true) (by kernel_rfl) (fun _ => by kernel_rfl) (fun w _ => awake3_any w) ?_
                refine s_val (.bool true) (by kernel_rfl) (fun _ => by kernel_rfl) ?_
                refine s_load 1 ⟨b2, (cutV b).cells, 25⟩ (off := 0) (cutV b) (by kernel_rfl) rfl (by kernel_rfl) (by kernel_rfl) (by kernel_rfl) ?_
                refine s_load 2 ⟨b1, (cutV a).cells, 25⟩ (off := 0) (cutV a) (by kernel_rfl) rfl (by kernel_rfl) (by kernel_rfl) (by kernel_rfl) ?_
                refine s_call (k := 13) (args := #[cutV b, cutV a]) (.int .i64 (cmpC b a)) (by kernel_rfl) (fun _ => by kernel_rfl) (fun w _ => cmpC_any b a w sb sa) ?_
                refine s_val (.int .i64 (cmpC a b)) (by kernel_rfl) (fun _ => by kernel_rfl) ?_
                refine s_sum (k := .i64) ((0 : Int) - (cmpC a b)) (by kernel_rfl) (fun _ => by kernel_rfl) (IntWalk.i64_in _ (by omega)) ?_
                by_cases h49 : (cmpC b a : Int) = (0 : Int) - (cmpC a b)
                · skip
                  refine s_dec (p := (cmpC b a : Int) = (0 : Int) - (cmpC a b)) true (by kernel_rfl) (fun _ => by kernel_rfl) (decide_eq_true (h49)) ?_
                  refine s_val (.bool true) (by kernel_rfl) (fun _ => by kernel_rfl) ?_
                  refine s_val (.bool true) (by kernel_rfl) (fun _ => by kernel_rfl) ?_
                  refine s_val (.bool false) (by kernel_rfl) (fun _ => by kernel_rfl) ?_
                  refine s_val (.bool false) (by kernel_rfl) (fun _ => by kernel_rfl) ?_
                  refine s_val (.bool false) (by kernel_rfl) (fun _ => by kernel_rfl) ?_
                  refine s_skip (by kernel_rfl) ?_
                  refine s_val (.bool false) (by kernel_rfl) (fun _ => by kernel_rfl) ?_
                  refine s_val (.bool false) (by kernel_rfl) (fun _ => by kernel_rfl) ?_
                  refine s_skip (by kernel_rfl) ?_
                  refine s_skip (by kernel_rfl) ?_
                  refine s_skip (by kernel_rfl) ?_
                  refine s_skip (by kernel_rfl) ?_
                  refine s_skip (by kernel_rfl) ?_
                  refine s_skip (by kernel_rfl) ?_
                  refine s_val (.bool false) (by kernel_rfl) (fun _ => by kernel_rfl) ?_
                  refine s_val (.bool false) (by kernel_rfl) (fun _ => by kernel_rfl) ?_
                  refine s_nil ?_
                  refine fin_seq ?_
                  refine ok_ret ?_
                  refine fin_ret (.bool false) Try.results5 (by kernel_rfl) ?_
                  exact fun w hO => by exfalso; first | omega | (have := hsame (by omega) (by omega); omega) | (have := heq.1 (by omega); contradiction) | (have := heq.2 (by assumption); omega)
                · skip
                  refine s_dec (p := (cmpC b a : Int) = (0 : Int) - (cmpC a b)) false (by kernel_rfl) (fun _ => by kernel_rfl) (decide_eq_false (h49)) ?_
                  refine s_val (.bool false) (by kernel_rfl) (fun _ => by kernel_rfl) ?_
                  refine s_val (.bool false) (by kernel_rfl) (fun _ => by kernel_rfl) ?_
                  refine s_skip (by kernel_rfl) ?_
                  refine s_val (.bool false) (by kernel_rfl) (fun _ => by kernel_rfl) ?_
                  refine s_val (.bool false) (by kernel_rfl) (fun _ => by kernel_rfl) ?_
                  refine s_skip (by kernel_rfl) ?_
                  refine s_val (.bool false) (by kernel_rfl) (fun _ => by kernel_rfl) ?_
                  refine s_val (.bool false) (by kernel_rfl) (fun _ => by kernel_rfl) ?_
                  refine s_skip (by kernel_rfl) ?_
                  refine s_skip (by kernel_rfl) ?_
                  refine s_skip (by kernel_rfl) ?_
                  refine s_skip (by kernel_rfl) ?_
                  refine s_skip (by kernel_rfl) ?_
                  refine s_skip (by kernel_rfl) ?_
                  refine s_val (.bool false) (by kernel_rfl) (fun _ => by kernel_rfl) ?_
                  refine s_val (.bool false) (by kernel_rfl) (fun _ => by kernel_rfl) ?_
                  refine s_nil ?_
                  refine fin_seq ?_
                  refine ok_ret ?_
                  refine fin_ret (.bool false) Try.results5 (by kernel_rfl) ?_
                  exact fun w hO => by exfalso; first | omega | (have := hsame (by omega) (by omega); omega) | (have := heq.1 (by omega); contradiction) | (have := heq.2 (by assumption); omega)
              · skip
                refine s_dec (p := (cmpC a (endC (1)) : Int) ≤ 0) false (by kernel_rfl) (fun _ => by kernel_rfl) (decide_eq_false (h48)) ?_
                refine s_val (.bool false) (by kernel_rfl) (fun _ => by kernel_rfl) ?_
                refine s_val (.bool false) (by kernel_rfl) (fun _ => by kernel_rfl) ?_
                refine s_nil ?_
                refine fin_seq ?_
                refine ok_seq ?_
                refine ok_region ?_
                refine s_call (k := 10) (args := #[]) (.bool true) (by kernel_rfl) (fun _ => by kernel_rfl) (fun w _ => awake3_any w) ?_
                refine s_val (.bool true) (by kernel_rfl) (fun _ => by kernel_rfl) ?_
                refine s_load 1 ⟨b2, (cutV b).cells, 25⟩ (off := 0) (cutV b) (by kernel_rfl) rfl (by kernel_rfl) (by kernel_rfl) (by kernel_rfl) ?_
                refine s_load 2 ⟨b1, (cutV a).cells, 25⟩ (off := 0) (cutV a) (by kernel_rfl) rfl (by kernel_rfl) (by kernel_rfl) (by kernel_rfl) ?_
                refine s_call (k := 13) (args := #[cutV b, cutV a]) (.int .i64 (cmpC b a)) (by kernel_rfl) (fun _ => by kernel_rfl) (fun w _ => cmpC_any b a w sb sa) ?_
                refine s_val (.int .i64 (cmpC a b)) (by kernel_rfl) (fun _ => by kernel_rfl) ?_
                refine s_sum (k := .i64) ((0 : Int) - (cmpC a b)) (by kernel_rfl) (fun _ => by kernel_rfl) (IntWalk.i64_in _ (by omega)) ?_
                by_cases h50 : (cmpC b a : Int) = (0 : Int) - (cmpC a b)
                · skip
                  refine s_dec (p := (cmpC b a : Int) = (0 : Int) - (cmpC a b)) true (by kernel_rfl) (fun _ => by kernel_rfl) (decide_eq_true (h50)) ?_
                  refine s_val (.bool true) (by kernel_rfl) (fun _ => by kernel_rfl) ?_
                  refine s_val (.bool true) (by kernel_rfl) (fun _ => by kernel_rfl) ?_
                  refine s_val (.bool false) (by kernel_rfl) (fun _ => by kernel_rfl) ?_
                  refine s_val (.bool false) (by kernel_rfl) (fun _ => by kernel_rfl) ?_
                  refine s_val (.bool false) (by kernel_rfl) (fun _ => by kernel_rfl) ?_
                  refine s_skip (by kernel_rfl) ?_
                  refine s_val (.bool false) (by kernel_rfl) (fun _ => by kernel_rfl) ?_
                  refine s_val (.bool false) (by kernel_rfl) (fun _ => by kernel_rfl) ?_
                  refine s_skip (by kernel_rfl) ?_
                  refine s_skip (by kernel_rfl) ?_
                  refine s_skip (by kernel_rfl) ?_
                  refine s_skip (by kernel_rfl) ?_
                  refine s_skip (by kernel_rfl) ?_
                  refine s_skip (by kernel_rfl) ?_
                  refine s_val (.bool false) (by kernel_rfl) (fun _ => by kernel_rfl) ?_
                  refine s_val (.bool false) (by kernel_rfl) (fun _ => by kernel_rfl) ?_
                  refine s_nil ?_
                  refine fin_seq ?_
                  refine ok_ret ?_
                  refine fin_ret (.bool false) Try.results5 (by kernel_rfl) ?_
                  exact fun w hO => by exfalso; first | omega | (have := hsame (by omega) (by omega); omega) | (have := heq.1 (by omega); contradiction) | (have := heq.2 (by assumption); omega)
                · skip
                  refine s_dec (p := (cmpC b a : Int) = (0 : Int) - (cmpC a b)) false (by kernel_rfl) (fun _ => by kernel_rfl) (decide_eq_false (h50)) ?_
                  refine s_val (.bool false) (by kernel_rfl) (fun _ => by kernel_rfl) ?_
                  refine s_val (.bool false) (by kernel_rfl) (fun _ => by kernel_rfl) ?_
                  refine s_skip (by kernel_rfl) ?_
                  refine s_val (.bool false) (by kernel_rfl) (fun _ => by kernel_rfl) ?_
                  refine s_val (.bool false) (by kernel_rfl) (fun _ => by kernel_rfl) ?_
                  refine s_skip (by kernel_rfl) ?_
                  refine s_val (.bool false) (by kernel_rfl) (fun _ => by kernel_rfl) ?_
                  refine s_val (.bool false) (by kernel_rfl) (fun _ => by kernel_rfl) ?_
                  refine s_skip (by kernel_rfl) ?_
                  refine s_skip (by kernel_rfl) ?_
                  refine s_skip (by kernel_rfl) ?_
                  refine s_skip (by kernel_rfl) ?_
                  refine s_skip (by kernel_rfl) ?_
                  refine s_skip (by kernel_rfl) ?_
                  refine s_val (.bool false) (by kernel_rfl) (fun _ => by kernel_rfl) ?_
                  refine s_val (.bool false) (by kernel_rfl) (fun _ => by kernel_rfl) ?_
                  refine s_nil ?_
                  refine fin_seq ?_
                  refine ok_ret ?_
                  refine fin_ret (.bool false) Try.results5 (by kernel_rfl) ?_
                  exact fun w hO => by exfalso; first | omega | (have := hsame (by omega) (by omega); omega) | (have := heq.1 (by omega); contradiction) | (have := heq.2 (by assumption); omega)
            · skip
              refine s_dec (p := (cmpC (endC (-1)) a : Int) ≤ 0) false (by kernel_rfl) (fun _ => by kernel_rfl) (decide_eq_false (h47)) ?_
              refine s_val (.bool false) (by kernel_rfl) (fun _ => by kernel_rfl) ?_
              refine s_skip (by kernel_rfl) ?_
              refine s_skip (by kernel_rfl) ?_
              refine s_skip (by kernel_rfl) ?_
              refine s_skip (by kernel_rfl) ?_
              refine s_val (.bool false) (by kernel_rfl) (fun _ => by kernel_rfl) ?_
              refine s_val (.bool false) (by kernel_rfl) (fun _ => by kernel_rfl) ?_
              refine s_nil ?_
              refine fin_seq ?_
              refine ok_seq ?_
              refine ok_region ?_
              refine s_call (k := 10) (args := #[]) (.bool true) (by kernel_rfl) (fun _ => by kernel_rfl) (fun w _ => awake3_any w) ?_
              refine s_val (.bool true) (by kernel_rfl) (fun _ => by kernel_rfl) ?_
              refine s_load 1 ⟨b2, (cutV b).cells, 25⟩ (off := 0) (cutV b) (by kernel_rfl) rfl (by kernel_rfl) (by kernel_rfl) (by kernel_rfl) ?_
              refine s_load 2 ⟨b1, (cutV a).cells, 25⟩ (off := 0) (cutV a) (by kernel_rfl) rfl (by kernel_rfl) (by kernel_rfl) (by kernel_rfl) ?_
              refine s_call (k := 13) (args := #[cutV b, cutV a]) (.int .i64 (cmpC b a)) (by kernel_rfl) (fun _ => by kernel_rfl) (fun w _ => cmpC_any b a w sb sa) ?_
              refine s_val (.int .i64 (cmpC a b)) (by kernel_rfl) (fun _ => by kernel_rfl) ?_
              refine s_sum (k := .i64) ((0 : Int) - (cmpC a b)) (by kernel_rfl) (fun _ => by kernel_rfl) (IntWalk.i64_in _ (by omega)) ?_
              by_cases h51 : (cmpC b a : Int) = (0 : Int) - (cmpC a b)
              · skip
                refine s_dec (p := (cmpC b a : Int) = (0 : Int) - (cmpC a b)) true (by kernel_rfl) (fun _ => by kernel_rfl) (decide_eq_true (h51)) ?_
                refine s_val (.bool true) (by kernel_rfl) (fun _ => by kernel_rfl) ?_
                refine s_val (.bool true) (by kernel_rfl) (fun _ => by kernel_rfl) ?_
                refine s_val (.bool false) (by kernel_rfl) (fun _ => by kernel_rfl) ?_
                refine s_val (.bool false) (by kernel_rfl) (fun _ => by kernel_rfl) ?_
                refine s_val (.bool false) (by kernel_rfl) (fun _ => by kernel_rfl) ?_
                refine s_skip (by kernel_rfl) ?_
                refine s_val (.bool false) (by kernel_rfl) (fun _ => by kernel_rfl) ?_
                refine s_val (.bool false) (by kernel_rfl) (fun _ => by kernel_rfl) ?_
                refine s_skip (by kernel_rfl) ?_
                refine s_skip (by kernel_rfl) ?_
                refine s_skip (by kernel_rfl) ?_
                refine s_skip (by kernel_rfl) ?_
                refine s_skip (by kernel_rfl) ?_
                refine s_skip (by kernel_rfl) ?_
                refine s_val (.bool false) (by kernel_rfl) (fun _ => by kernel_rfl) ?_
                refine s_val (.bool false) (by kernel_rfl) (fun _ => by kernel_rfl) ?_
                refine s_nil ?_
                refine fin_seq ?_
                refine ok_ret ?_
                refine fin_ret (.bool false) Try.results5 (by kernel_rfl) ?_
                exact fun w hO => by exfalso; first | omega | (have := hsame (by omega) (by omega); omega) | (have := heq.1 (by omega); contradiction) | (have := heq.2 (by assumption); omega)
              · skip
                refine s_dec (p := (cmpC b a : Int) = (0 : Int) - (cmpC a b)) false (by kernel_rfl) (fun _ => by kernel_rfl) (decide_eq_false (h51)) ?_
                refine s_val (.bool false) (by kernel_rfl) (fun _ => by kernel_rfl) ?_
                refine s_val (.bool false) (by kernel_rfl) (fun _ => by kernel_rfl) ?_
                refine s_skip (by kernel_rfl) ?_
                refine s_val (.bool false) (by kernel_rfl) (fun _ => by kernel_rfl) ?_
                refine s_val (.bool false) (by kernel_rfl) (fun _ => by kernel_rfl) ?_
                refine s_skip (by kernel_rfl) ?_
                refine s_val (.bool false) (by kernel_rfl) (fun _ => by kernel_rfl) ?_
                refine s_val (.bool false) (by kernel_rfl) (fun _ => by kernel_rfl) ?_
                refine s_skip (by kernel_rfl) ?_
                refine s_skip (by kernel_rfl) ?_
                refine s_skip (by kernel_rfl) ?_
                refine s_skip (by kernel_rfl) ?_
                refine s_skip (by kernel_rfl) ?_
                refine s_skip (by kernel_rfl) ?_
                refine s_val (.bool false) (by kernel_rfl) (fun _ => by kernel_rfl) ?_
                refine s_val (.bool false) (by kernel_rfl) (fun _ => by kernel_rfl) ?_
                refine s_nil ?_
                refine fin_seq ?_
                refine ok_ret ?_
                refine fin_ret (.bool false) Try.results5 (by kernel_rfl) ?_
                exact fun w hO => by exfalso; first | omega | (have := hsame (by omega) (by omega); omega) | (have := heq.1 (by omega); contradiction) | (have := heq.2 (by assumption); omega)
          · skip
            refine s_dec (p := (cmpC a c : Int) = 0) false (by kernel_rfl) (fun _ => by kernel_rfl) (decide_eq_false (h46)) ?_
            refine s_val (.bool true) (by kernel_rfl) (fun _ => by kernel_rfl) ?_
            refine s_val (.bool true) (by kernel_rfl) (fun _ => by kernel_rfl) ?_
            refine s_val (.bool true) (by kernel_rfl) (fun _ => by kernel_rfl) ?_
            refine s_val (.bool true) (by kernel_rfl) (fun _ => by kernel_rfl) ?_
            refine s_nil ?_
            refine fin_seq ?_
            refine ok_seq ?_
            refine ok_region ?_
            refine s_val (.agg #[.int .i64 (-1), .int .i64 0, .int .i64 0, .int .i64 0, .string ⟨#[]⟩, .string ⟨#[]⟩, .bool false]) (by kernel_rfl) (fun _ => by kernel_rfl) ?_
            refine s_load 2 ⟨b1, (cutV a).cells, 25⟩ (off := 0) (cutV a) (by kernel_rfl) rfl (by kernel_rfl) (by kernel_rfl) (by kernel_rfl) ?_
            refine s_call (k := 13) (args := #[.agg #[.int .i64 (-1), .int .i64 0, .int .i64 0, .int .i64 0, .string ⟨#[]⟩, .string ⟨#[]⟩, .bool false], cutV a]) (.int .i64 (cmpC (endC (-1)) a)) (by kernel_rfl) (fun _ => by kernel_rfl) (fun w _ => cmpC_any (endC (-1)) a w (end_short (-1)) sa) ?_
            by_cases h52 : (cmpC (endC (-1)) a : Int) ≤ 0
            · skip
              refine s_dec (p := (cmpC (endC (-1)) a : Int) ≤ 0) true (by kernel_rfl) (fun _ => by kernel_rfl) (decide_eq_true (h52)) ?_
              refine s_val (.bool true) (by kernel_rfl) (fun _ => by kernel_rfl) ?_
              refine s_load 2 ⟨b1, (cutV a).cells, 25⟩ (off := 0) (cutV a) (by kernel_rfl) rfl (by kernel_rfl) (by kernel_rfl) (by kernel_rfl) ?_
              refine s_val (.agg #[.int .i64 1, .int .i64 0, .int .i64 0, .int .i64 0, .string ⟨#[]⟩, .string ⟨#[]⟩, .bool false]) (by kernel_rfl) (fun _ => by kernel_rfl) ?_
              refine s_call (k := 13) (args := #[cutV a, .agg #[.int .i64 1, .int .i64 0, .int .i64 0, .int .i64 0, .string ⟨#[]⟩, .string ⟨#[]⟩, .bool false]]) (.int .i64 (cmpC a (endC (1)))) (by kernel_rfl) (fun _ => by kernel_rfl) (fun w _ => cmpC_any a (endC (1)) w sa (end_short (1))) ?_
              by_cases h53 : (cmpC a (endC (1)) : Int) ≤ 0
              · skip
                refine s_dec (p := (cmpC a (endC (1)) : Int) ≤ 0) true (by kernel_rfl) (fun _ => by kernel_rfl) (decide_eq_true (h53)) ?_
                refine s_val (.bool true) (by kernel_rfl) (fun _ => by kernel_rfl) ?_
                refine s_val (.bool true) (by kernel_rfl) (fun _ => by kernel_rfl) ?_
                refine s_nil ?_
                refine fin_seq ?_
                refine ok_seq ?_
                refine ok_region ?_
                refine s_call (k := 10) (args := #[]) (.bool true) (by kernel_rfl) (fun _ => by kernel_rfl) (fun w _ => awake3_any w) ?_
                refine s_val (.bool true) (by kernel_rfl) (fun _ => by kernel_rfl) ?_
                refine s_load 1 ⟨b2, (cutV b).cells, 25⟩ (off := 0) (cutV b) (by kernel_rfl) rfl (by kernel_rfl) (by kernel_rfl) (by kernel_rfl) ?_
                refine s_load 2 ⟨b1, (cutV a).cells, 25⟩ (off := 0) (cutV a) (by kernel_rfl) rfl (by kernel_rfl) (by kernel_rfl) (by kernel_rfl) ?_
                refine s_call (k := 13) (args := #[cutV b, cutV a]) (.int .i64 (cmpC b a)) (by kernel_rfl) (fun _ => by kernel_rfl) (fun w _ => cmpC_any b a w sb sa) ?_
                refine s_val (.int .i64 (cmpC a b)) (by kernel_rfl) (fun _ => by kernel_rfl) ?_
                refine s_sum (k := .i64) ((0 : Int) - (cmpC a b)) (by kernel_rfl) (fun _ => by kernel_rfl) (IntWalk.i64_in _ (by omega)) ?_
                by_cases h54 : (cmpC b a : Int) = (0 : Int) - (cmpC a b)
                · skip
                  refine s_dec (p := (cmpC b a : Int) = (0 : Int) - (cmpC a b)) true (by kernel_rfl) (fun _ => by kernel_rfl) (decide_eq_true (h54)) ?_
                  refine s_val (.bool true) (by kernel_rfl) (fun _ => by kernel_rfl) ?_
                  refine s_val (.bool true) (by kernel_rfl) (fun _ => by kernel_rfl) ?_
                  refine s_val (.bool true) (by kernel_rfl) (fun _ => by kernel_rfl) ?_
                  refine s_val (.bool true) (by kernel_rfl) (fun _ => by kernel_rfl) ?_
                  refine s_val (.bool true) (by kernel_rfl) (fun _ => by kernel_rfl) ?_
                  refine s_val (.bool true) (by kernel_rfl) (fun _ => by kernel_rfl) ?_
                  refine s_val (.bool true) (by kernel_rfl) (fun _ => by kernel_rfl) ?_
                  refine s_val (.bool true) (by kernel_rfl) (fun _ => by kernel_rfl) ?_
                  refine s_val (.int .i64 (cmpC a b)) (by kernel_rfl) (fun _ => by kernel_rfl) ?_
                  refine s_dec (p := (cmpC a b : Int) = 0) false (by kernel_rfl) (fun _ => by kernel_rfl) (decide_eq_false (h20)) ?_
                  refine s_load 2 ⟨b1, (cutV a).cells, 25⟩ (off := 0) (cutV a) (by kernel_rfl) rfl (by kernel_rfl) (by kernel_rfl) (by kernel_rfl) ?_
                  refine s_load 1 ⟨b2, (cutV b).cells, 25⟩ (off := 0) (cutV b) (by kernel_rfl) rfl (by kernel_rfl) (by kernel_rfl) (by kernel_rfl) ?_
                  by_cases h55 : a = b
                  · skip
                    refine s_val (.bool true) (by kernel_rfl) (op_eq_cut rfl (by kernel_rfl) (by kernel_rfl) (decide_eq_true (h55))) ?_
                    refine s_val (.bool false) (by kernel_rfl) (fun _ => by kernel_rfl) ?_
                    refine s_val (.bool false) (by kernel_rfl) (fun _ => by kernel_rfl) ?_
                    refine s_val (.bool false) (by kernel_rfl) (fun _ => by kernel_rfl) ?_
                    refine s_nil ?_
                    refine fin_seq ?_
                    refine ok_ret ?_
                    refine fin_ret (.bool false) Try.results5 (by kernel_rfl) ?_
                    exact fun w hO => by exfalso; first | omega | (have := hsame (by omega) (by omega); omega) | (have := heq.1 (by omega); contradiction) | (have := heq.2 (by assumption); omega)
                  · skip
                    refine s_val (.bool false) (by kernel_rfl) (op_eq_cut rfl (by kernel_rfl) (by kernel_rfl) (decide_eq_false (h55))) ?_
                    refine s_val (.bool true) (by kernel_rfl) (fun _ => by kernel_rfl) ?_
                    refine s_val (.bool true) (by kernel_rfl) (fun _ => by kernel_rfl) ?_
                    refine s_val (.bool true) (by kernel_rfl) (fun _ => by kernel_rfl) ?_
                    refine s_nil ?_
                    refine fin_seq ?_
                    refine ok_ret ?_
                    refine fin_ret (.bool true) Try.results5 (by kernel_rfl) ?_
                    exact fun w hO => ⟨rfl, hO.below⟩
                · skip
                  refine s_dec (p := (cmpC b a : Int) = (0 : Int) - (cmpC a b)) false (by kernel_rfl) (fun _ => by kernel_rfl) (decide_eq_false (h54)) ?_
                  refine s_val (.bool false) (by kernel_rfl) (fun _ => by kernel_rfl) ?_
                  refine s_val (.bool false) (by kernel_rfl) (fun _ => by kernel_rfl) ?_
                  refine s_skip (by kernel_rfl) ?_
                  refine s_val (.bool false) (by kernel_rfl) (fun _ => by kernel_rfl) ?_
                  refine s_val (.bool false) (by kernel_rfl) (fun _ => by kernel_rfl) ?_
                  refine s_skip (by kernel_rfl) ?_
                  refine s_val (.bool false) (by kernel_rfl) (fun _ => by kernel_rfl) ?_
                  refine s_val (.bool false) (by kernel_rfl) (fun _ => by kernel_rfl) ?_
                  refine s_skip (by kernel_rfl) ?_
                  refine s_skip (by kernel_rfl) ?_
                  refine s_skip (by kernel_rfl) ?_
                  refine s_skip (by kernel_rfl) ?_
                  refine s_skip (by kernel_rfl) ?_
                  refine s_skip (by kernel_rfl) ?_
                  refine s_val (.bool false) (by kernel_rfl) (fun _ => by kernel_rfl) ?_
                  refine s_val (.bool false) (by kernel_rfl) (fun _ => by kernel_rfl) ?_
                  refine s_nil ?_
                  refine fin_seq ?_
                  refine ok_ret ?_
                  refine fin_ret (.bool false) Try.results5 (by kernel_rfl) ?_
                  exact fun w hO => by exfalso; first | omega | (have := hsame (by omega) (by omega); omega) | (have := heq.1 (by omega); contradiction) | (have := heq.2 (by assumption); omega)
              · skip
                refine s_dec (p := (cmpC a (endC (1)) : Int) ≤ 0) false (by kernel_rfl) (fun _ => by kernel_rfl) (decide_eq_false (h53)) ?_
                refine s_val (.bool false) (by kernel_rfl) (fun _ => by kernel_rfl) ?_
                refine s_val (.bool false) (by kernel_rfl) (fun _ => by kernel_rfl) ?_
                refine s_nil ?_
                refine fin_seq ?_
                refine ok_seq ?_
                refine ok_region ?_
                refine s_call (k := 10) (args := #[]) (.bool true) (by kernel_rfl) (fun _ => by kernel_rfl) (fun w _ => awake3_any w) ?_
                refine s_val (.bool true) (by kernel_rfl) (fun _ => by kernel_rfl) ?_
                refine s_load 1 ⟨b2, (cutV b).cells, 25⟩ (off := 0) (cutV b) (by kernel_rfl) rfl (by kernel_rfl) (by kernel_rfl) (by kernel_rfl) ?_
                refine s_load 2 ⟨b1, (cutV a).cells, 25⟩ (off := 0) (cutV a) (by kernel_rfl) rfl (by kernel_rfl) (by kernel_rfl) (by kernel_rfl) ?_
                refine s_call (k := 13) (args := #[cutV b, cutV a]) (.int .i64 (cmpC b a)) (by kernel_rfl) (fun _ => by kernel_rfl) (fun w _ => cmpC_any b a w sb sa) ?_
                refine s_val (.int .i64 (cmpC a b)) (by kernel_rfl) (fun _ => by kernel_rfl) ?_
                refine s_sum (k := .i64) ((0 : Int) - (cmpC a b)) (by kernel_rfl) (fun _ => by kernel_rfl) (IntWalk.i64_in _ (by omega)) ?_
                by_cases h56 : (cmpC b a : Int) = (0 : Int) - (cmpC a b)
                · skip
                  refine s_dec (p := (cmpC b a : Int) = (0 : Int) - (cmpC a b)) true (by kernel_rfl) (fun _ => by kernel_rfl) (decide_eq_true (h56)) ?_
                  refine s_val (.bool true) (by kernel_rfl) (fun _ => by kernel_rfl) ?_
                  refine s_val (.bool true) (by kernel_rfl) (fun _ => by kernel_rfl) ?_
                  refine s_val (.bool true) (by kernel_rfl) (fun _ => by kernel_rfl) ?_
                  refine s_val (.bool true) (by kernel_rfl) (fun _ => by kernel_rfl) ?_
                  refine s_val (.bool true) (by kernel_rfl) (fun _ => by kernel_rfl) ?_
                  refine s_val (.bool false) (by kernel_rfl) (fun _ => by kernel_rfl) ?_
                  refine s_val (.bool false) (by kernel_rfl) (fun _ => by kernel_rfl) ?_
                  refine s_val (.bool false) (by kernel_rfl) (fun _ => by kernel_rfl) ?_
                  refine s_skip (by kernel_rfl) ?_
                  refine s_skip (by kernel_rfl) ?_
                  refine s_skip (by kernel_rfl) ?_
                  refine s_skip (by kernel_rfl) ?_
                  refine s_skip (by kernel_rfl) ?_
                  refine s_skip (by kernel_rfl) ?_
                  refine s_val (.bool false) (by kernel_rfl) (fun _ => by kernel_rfl) ?_
                  refine s_val (.bool false) (by kernel_rfl) (fun _ => by kernel_rfl) ?_
                  refine s_nil ?_
                  refine fin_seq ?_
                  refine ok_ret ?_
                  refine fin_ret (.bool false) Try.results5 (by kernel_rfl) ?_
                  exact fun w hO => by exfalso; first | omega | (have := hsame (by omega) (by omega); omega) | (have := heq.1 (by omega); contradiction) | (have := heq.2 (by assumption); omega)
                · skip
                  refine s_dec (p := (cmpC b a : Int) = (0 : Int) - (cmpC a b)) false (by kernel_rfl) (fun _ => by kernel_rfl) (decide_eq_false (h56)) ?_
                  refine s_val (.bool false) (by kernel_rfl) (fun _ => by kernel_rfl) ?_
                  refine s_val (.bool false) (by kernel_rfl) (fun _ => by kernel_rfl) ?_
                  refine s_skip (by kernel_rfl) ?_
                  refine s_val (.bool false) (by kernel_rfl) (fun _ => by kernel_rfl) ?_
                  refine s_val (.bool false) (by kernel_rfl) (fun _ => by kernel_rfl) ?_
                  refine s_skip (by kernel_rfl) ?_
                  refine s_val (.bool false) (by kernel_rfl) (fun _ => by kernel_rfl) ?_
                  refine s_val (.bool false) (by kernel_rfl) (fun _ => by kernel_rfl) ?_
                  refine s_skip (by kernel_rfl) ?_
                  refine s_skip (by kernel_rfl) ?_
                  refine s_skip (by kernel_rfl) ?_
                  refine s_skip (by kernel_rfl) ?_
                  refine s_skip (by kernel_rfl) ?_
                  refine s_skip (by kernel_rfl) ?_
                  refine s_val (.bool false) (by kernel_rfl) (fun _ => by kernel_rfl) ?_
                  refine s_val (.bool false) (by kernel_rfl) (fun _ => by kernel_rfl) ?_
                  refine s_nil ?_
                  refine fin_seq ?_
                  refine ok_ret ?_
                  refine fin_ret (.bool false) Try.results5 (by kernel_rfl) ?_
                  exact fun w hO => by exfalso; first | omega | (have := hsame (by omega) (by omega); omega) | (have := heq.1 (by omega); contradiction) | (have := heq.2 (by assumption); omega)
            · skip
              refine s_dec (p := (cmpC (endC (-1)) a : Int) ≤ 0) false (by kernel_rfl) (fun _ => by kernel_rfl) (decide_eq_false (h52)) ?_
              refine s_val (.bool false) (by kernel_rfl) (fun _ => by kernel_rfl) ?_
              refine s_skip (by kernel_rfl) ?_
              refine s_skip (by kernel_rfl) ?_
              refine s_skip (by kernel_rfl) ?_
              refine s_skip (by kernel_rfl) ?_
              refine s_val (.bool false) (by kernel_rfl) (fun _ => by kernel_rfl) ?_
              refine s_val (.bool false) (by kernel_rfl) (fun _ => by kernel_rfl) ?_
              refine s_nil ?_
              refine fin_seq ?_
              refine ok_seq ?_
              refine ok_region ?_
              refine s_call (k := 10) (args := #[]) (.bool true) (by kernel_rfl) (fun _ => by kernel_rfl) (fun w _ => awake3_any w) ?_
              refine s_val (.bool true) (by kernel_rfl) (fun _ => by kernel_rfl) ?_
              refine s_load 1 ⟨b2, (cutV b).cells, 25⟩ (off := 0) (cutV b) (by kernel_rfl) rfl (by kernel_rfl) (by kernel_rfl) (by kernel_rfl) ?_
              refine s_load 2 ⟨b1, (cutV a).cells, 25⟩ (off := 0) (cutV a) (by kernel_rfl) rfl (by kernel_rfl) (by kernel_rfl) (by kernel_rfl) ?_
              refine s_call (k := 13) (args := #[cutV b, cutV a]) (.int .i64 (cmpC b a)) (by kernel_rfl) (fun _ => by kernel_rfl) (fun w _ => cmpC_any b a w sb sa) ?_
              refine s_val (.int .i64 (cmpC a b)) (by kernel_rfl) (fun _ => by kernel_rfl) ?_
              refine s_sum (k := .i64) ((0 : Int) - (cmpC a b)) (by kernel_rfl) (fun _ => by kernel_rfl) (IntWalk.i64_in _ (by omega)) ?_
              by_cases h57 : (cmpC b a : Int) = (0 : Int) - (cmpC a b)
              · skip
                refine s_dec (p := (cmpC b a : Int) = (0 : Int) - (cmpC a b)) true (by kernel_rfl) (fun _ => by kernel_rfl) (decide_eq_true (h57)) ?_
                refine s_val (.bool true) (by kernel_rfl) (fun _ => by kernel_rfl) ?_
                refine s_val (.bool true) (by kernel_rfl) (fun _ => by kernel_rfl) ?_
                refine s_val (.bool true) (by kernel_rfl) (fun _ => by kernel_rfl) ?_
                refine s_val (.bool true) (by kernel_rfl) (fun _ => by kernel_rfl) ?_
                refine s_val (.bool true) (by kernel_rfl) (fun _ => by kernel_rfl) ?_
                refine s_val (.bool false) (by kernel_rfl) (fun _ => by kernel_rfl) ?_
                refine s_val (.bool false) (by kernel_rfl) (fun _ => by kernel_rfl) ?_
                refine s_val (.bool false) (by kernel_rfl) (fun _ => by kernel_rfl) ?_
                refine s_skip (by kernel_rfl) ?_
                refine s_skip (by kernel_rfl) ?_
                refine s_skip (by kernel_rfl) ?_
                refine s_skip (by kernel_rfl) ?_
                refine s_skip (by kernel_rfl) ?_
                refine s_skip (by kernel_rfl) ?_
                refine s_val (.bool false) (by kernel_rfl) (fun _ => by kernel_rfl) ?_
                refine s_val (.bool false) (by kernel_rfl) (fun _ => by kernel_rfl) ?_
                refine s_nil ?_
                refine fin_seq ?_
                refine ok_ret ?_
                refine fin_ret (.bool false) Try.results5 (by kernel_rfl) ?_
                exact fun w hO => by exfalso; first | omega | (have := hsame (by omega) (by omega); omega) | (have := heq.1 (by omega); contradiction) | (have := heq.2 (by assumption); omega)
              · skip
                refine s_dec (p := (cmpC b a : Int) = (0 : Int) - (cmpC a b)) false (by kernel_rfl) (fun _ => by kernel_rfl) (decide_eq_false (h57)) ?_
                refine s_val (.bool false) (by kernel_rfl) (fun _ => by kernel_rfl) ?_
                refine s_val (.bool false) (by kernel_rfl) (fun _ => by kernel_rfl) ?_
                refine s_skip (by kernel_rfl) ?_
                refine s_val (.bool false) (by kernel_rfl) (fun _ => by kernel_rfl) ?_
                refine s_val (.bool false) (by kernel_rfl) (fun _ => by kernel_rfl) ?_
                refine s_skip (by kernel_rfl) ?_
                refine s_val (.bool false) (by kernel_rfl) (fun _ => by kernel_rfl) ?_
                refine s_val (.bool false) (by kernel_rfl) (fun _ => by kernel_rfl) ?_
                refine s_skip (by kernel_rfl) ?_
                refine s_skip (by kernel_rfl) ?_
                refine s_skip (by kernel_rfl) ?_
                refine s_skip (by kernel_rfl) ?_
                refine s_skip (by kernel_rfl) ?_
                refine s_skip (by kernel_rfl) ?_
                refine s_val (.bool false) (by kernel_rfl) (fun _ => by kernel_rfl) ?_
                refine s_val (.bool false) (by kernel_rfl) (fun _ => by kernel_rfl) ?_
                refine s_nil ?_
                refine fin_seq ?_
                refine ok_ret ?_
                refine fin_ret (.bool false) Try.results5 (by kernel_rfl) ?_
                exact fun w hO => by exfalso; first | omega | (have := hsame (by omega) (by omega); omega) | (have := heq.1 (by omega); contradiction) | (have := heq.2 (by assumption); omega)
      · skip
        refine s_dec (p := (cmpC a c : Int) ≤ 0) false (by kernel_rfl) (fun _ => by kernel_rfl) (decide_eq_false (h19)) ?_
        refine s_val (.bool false) (by kernel_rfl) (fun _ => by kernel_rfl) ?_
        refine s_skip (by kernel_rfl) ?_
        refine s_skip (by kernel_rfl) ?_
        refine s_skip (by kernel_rfl) ?_
        refine s_skip (by kernel_rfl) ?_
        refine s_skip (by kernel_rfl) ?_
        refine s_skip (by kernel_rfl) ?_
        refine s_skip (by kernel_rfl) ?_
        refine s_skip (by kernel_rfl) ?_
        refine s_skip (by kernel_rfl) ?_
        refine s_val (.bool false) (by kernel_rfl) (fun _ => by kernel_rfl) ?_
        refine s_val (.bool false) (by kernel_rfl) (fun _ => by kernel_rfl) ?_
        refine s_val (.bool false) (by kernel_rfl) (fun _ => by kernel_rfl) ?_
        refine s_nil ?_
        refine fin_seq ?_
        refine ok_seq ?_
        refine ok_region ?_
        refine s_val (.agg #[.int .i64 (-1), .int .i64 0, .int .i64 0, .int .i64 0, .string ⟨#[]⟩, .string ⟨#[]⟩, .bool false]) (by kernel_rfl) (fun _ => by kernel_rfl) ?_
        refine s_load 2 ⟨b1, (cutV a).cells, 25⟩ (off := 0) (cutV a) (by kernel_rfl) rfl (by kernel_rfl) (by kernel_rfl) (by kernel_rfl) ?_
        refine s_call (k := 13) (args := #[.agg #[.int .i64 (-1), .int .i64 0, .int .i64 0, .int .i64 0, .string ⟨#[]⟩, .string ⟨#[]⟩, .bool false], cutV a]) (.int .i64 (cmpC (endC (-1)) a)) (by kernel_rfl) (fun _ => by kernel_rfl) (fun w _ => cmpC_any (endC (-1)) a w (end_short (-1)) sa) ?_
        by_cases h58 : (cmpC (endC (-1)) a : Int) ≤ 0
        · skip
          refine s_dec (p := (cmpC (endC (-1)) a : Int) ≤ 0) true (by kernel_rfl) (fun _ => by kernel_rfl) (decide_eq_true (h58)) ?_
          refine s_val (.bool true) (by kernel_rfl) (fun _ => by kernel_rfl) ?_
          refine s_load 2 ⟨b1, (cutV a).cells, 25⟩ (off := 0) (cutV a) (by kernel_rfl) rfl (by kernel_rfl) (by kernel_rfl) (by kernel_rfl) ?_
          refine s_val (.agg #[.int .i64 1, .int .i64 0, .int .i64 0, .int .i64 0, .string ⟨#[]⟩, .string ⟨#[]⟩, .bool false]) (by kernel_rfl) (fun _ => by kernel_rfl) ?_
          refine s_call (k := 13) (args := #[cutV a, .agg #[.int .i64 1, .int .i64 0, .int .i64 0, .int .i64 0, .string ⟨#[]⟩, .string ⟨#[]⟩, .bool false]]) (.int .i64 (cmpC a (endC (1)))) (by kernel_rfl) (fun _ => by kernel_rfl) (fun w _ => cmpC_any a (endC (1)) w sa (end_short (1))) ?_
          by_cases h59 : (cmpC a (endC (1)) : Int) ≤ 0
          · skip
            refine s_dec (p := (cmpC a (endC (1)) : Int) ≤ 0) true (by kernel_rfl) (fun _ => by kernel_rfl) (decide_eq_true (h59)) ?_
            refine s_val (.bool true) (by kernel_rfl) (fun _ => by kernel_rfl) ?_
            refine s_val (.bool true) (by kernel_rfl) (fun _ => by kernel_rfl) ?_
            refine s_nil ?_
            refine fin_seq ?_
            refine ok_seq ?_
            refine ok_region ?_
            refine s_call (k := 10) (args := #[]) (.bool true) (by kernel_rfl) (fun _ => by kernel_rfl) (fun w _ => awake3_any w) ?_
            refine s_val (.bool true) (by kernel_rfl) (fun _ => by kernel_rfl) ?_
            refine s_load 1 ⟨b2, (cutV b).cells, 25⟩ (off := 0) (cutV b) (by kernel_rfl) rfl (by kernel_rfl) (by kernel_rfl) (by kernel_rfl) ?_
            refine s_load 2 ⟨b1, (cutV a).cells, 25⟩ (off := 0) (cutV a) (by kernel_rfl) rfl (by kernel_rfl) (by kernel_rfl) (by kernel_rfl) ?_
            refine s_call (k := 13) (args := #[cutV b, cutV a]) (.int .i64 (cmpC b a)) (by kernel_rfl) (fun _ => by kernel_rfl) (fun w _ => cmpC_any b a w sb sa) ?_
            refine s_val (.int .i64 (cmpC a b)) (by kernel_rfl) (fun _ => by kernel_rfl) ?_
            refine s_sum (k := .i64) ((0 : Int) - (cmpC a b)) (by kernel_rfl) (fun _ => by kernel_rfl) (IntWalk.i64_in _ (by omega)) ?_
            by_cases h60 : (cmpC b a : Int) = (0 : Int) - (cmpC a b)
            · skip
              refine s_dec (p := (cmpC b a : Int) = (0 : Int) - (cmpC a b)) true (by kernel_rfl) (fun _ => by kernel_rfl) (decide_eq_true (h60)) ?_
              refine s_val (.bool true) (by kernel_rfl) (fun _ => by kernel_rfl) ?_
              refine s_val (.bool true) (by kernel_rfl) (fun _ => by kernel_rfl) ?_
              refine s_val (.bool false) (by kernel_rfl) (fun _ => by kernel_rfl) ?_
              refine s_val (.bool false) (by kernel_rfl) (fun _ => by kernel_rfl) ?_
              refine s_val (.bool false) (by kernel_rfl) (fun _ => by kernel_rfl) ?_
              refine s_skip (by kernel_rfl) ?_
              refine s_val (.bool false) (by kernel_rfl) (fun _ => by kernel_rfl) ?_
              refine s_val (.bool false) (by kernel_rfl) (fun _ => by kernel_rfl) ?_
              refine s_skip (by kernel_rfl) ?_
              refine s_skip (by kernel_rfl) ?_
              refine s_skip (by kernel_rfl) ?_
              refine s_skip (by kernel_rfl) ?_
              refine s_skip (by kernel_rfl) ?_
              refine s_skip (by kernel_rfl) ?_
              refine s_val (.bool false) (by kernel_rfl) (fun _ => by kernel_rfl) ?_
              refine s_val (.bool false) (by kernel_rfl) (fun _ => by kernel_rfl) ?_
              refine s_nil ?_
              refine fin_seq ?_
              refine ok_ret ?_
              refine fin_ret (.bool false) Try.results5 (by kernel_rfl) ?_
              exact fun w hO => by exfalso; first | omega | (have := hsame (by omega) (by omega); omega) | (have := heq.1 (by omega); contradiction) | (have := heq.2 (by assumption); omega)
            · skip
              refine s_dec (p := (cmpC b a : Int) = (0 : Int) - (cmpC a b)) false (by kernel_rfl) (fun _ => by kernel_rfl) (decide_eq_false (h60)) ?_
              refine s_val (.bool false) (by kernel_rfl) (fun _ => by kernel_rfl) ?_
              refine s_val (.bool false) (by kernel_rfl) (fun _ => by kernel_rfl) ?_
              refine s_skip (by kernel_rfl) ?_
              refine s_val (.bool false) (by kernel_rfl) (fun _ => by kernel_rfl) ?_
              refine s_val (.bool false) (by kernel_rfl) (fun _ => by kernel_rfl) ?_
              refine s_skip (by kernel_rfl) ?_
              refine s_val (.bool false) (by kernel_rfl) (fun _ => by kernel_rfl) ?_
              refine s_val (.bool false) (by kernel_rfl) (fun _ => by kernel_rfl) ?_
              refine s_skip (by kernel_rfl) ?_
              refine s_skip (by kernel_rfl) ?_
              refine s_skip (by kernel_rfl) ?_
              refine s_skip (by kernel_rfl) ?_
              refine s_skip (by kernel_rfl) ?_
              refine s_skip (by kernel_rfl) ?_
              refine s_val (.bool false) (by kernel_rfl) (fun _ => by kernel_rfl) ?_
              refine s_val (.bool false) (by kernel_rfl) (fun _ => by kernel_rfl) ?_
              refine s_nil ?_
              refine fin_seq ?_
              refine ok_ret ?_
              refine fin_ret (.bool false) Try.results5 (by kernel_rfl) ?_
              exact fun w hO => by exfalso; first | omega | (have := hsame (by omega) (by omega); omega) | (have := heq.1 (by omega); contradiction) | (have := heq.2 (by assumption); omega)
          · skip
            refine s_dec (p := (cmpC a (endC (1)) : Int) ≤ 0) false (by kernel_rfl) (fun _ => by kernel_rfl) (decide_eq_false (h59)) ?_
            refine s_val (.bool false) (by kernel_rfl) (fun _ => by kernel_rfl) ?_
            refine s_val (.bool false) (by kernel_rfl) (fun _ => by kernel_rfl) ?_
            refine s_nil ?_
            refine fin_seq ?_
            refine ok_seq ?_
            refine ok_region ?_
            refine s_call (k := 10) (args := #[]) (.bool true) (by kernel_rfl) (fun _ => by kernel_rfl) (fun w _ => awake3_any w) ?_
            refine s_val (.bool true) (by kernel_rfl) (fun _ => by kernel_rfl) ?_
            refine s_load 1 ⟨b2, (cutV b).cells, 25⟩ (off := 0) (cutV b) (by kernel_rfl) rfl (by kernel_rfl) (by kernel_rfl) (by kernel_rfl) ?_
            refine s_load 2 ⟨b1, (cutV a).cells, 25⟩ (off := 0) (cutV a) (by kernel_rfl) rfl (by kernel_rfl) (by kernel_rfl) (by kernel_rfl) ?_
            refine s_call (k := 13) (args := #[cutV b, cutV a]) (.int .i64 (cmpC b a)) (by kernel_rfl) (fun _ => by kernel_rfl) (fun w _ => cmpC_any b a w sb sa) ?_
            refine s_val (.int .i64 (cmpC a b)) (by kernel_rfl) (fun _ => by kernel_rfl) ?_
            refine s_sum (k := .i64) ((0 : Int) - (cmpC a b)) (by kernel_rfl) (fun _ => by kernel_rfl) (IntWalk.i64_in _ (by omega)) ?_
            by_cases h61 : (cmpC b a : Int) = (0 : Int) - (cmpC a b)
            · skip
              refine s_dec (p := (cmpC b a : Int) = (0 : Int) - (cmpC a b)) true (by kernel_rfl) (fun _ => by kernel_rfl) (decide_eq_true (h61)) ?_
              refine s_val (.bool true) (by kernel_rfl) (fun _ => by kernel_rfl) ?_
              refine s_val (.bool true) (by kernel_rfl) (fun _ => by kernel_rfl) ?_
              refine s_val (.bool false) (by kernel_rfl) (fun _ => by kernel_rfl) ?_
              refine s_val (.bool false) (by kernel_rfl) (fun _ => by kernel_rfl) ?_
              refine s_val (.bool false) (by kernel_rfl) (fun _ => by kernel_rfl) ?_
              refine s_skip (by kernel_rfl) ?_
              refine s_val (.bool false) (by kernel_rfl) (fun _ => by kernel_rfl) ?_
              refine s_val (.bool false) (by kernel_rfl) (fun _ => by kernel_rfl) ?_
              refine s_skip (by kernel_rfl) ?_
              refine s_skip (by kernel_rfl) ?_
              refine s_skip (by kernel_rfl) ?_
              refine s_skip (by kernel_rfl) ?_
              refine s_skip (by kernel_rfl) ?_
              refine s_skip (by kernel_rfl) ?_
              refine s_val (.bool false) (by kernel_rfl) (fun _ => by kernel_rfl) ?_
              refine s_val (.bool false) (by kernel_rfl) (fun _ => by kernel_rfl) ?_
              refine s_nil ?_
              refine fin_seq ?_
              refine ok_ret ?_
              refine fin_ret (.bool false) Try.results5 (by kernel_rfl) ?_
              exact fun w hO => by exfalso; first | omega | (have := hsame (by omega) (by omega); omega) | (have := heq.1 (by omega); contradiction) | (have := heq.2 (by assumption); omega)
            · skip
              refine s_dec (p := (cmpC b a : Int) = (0 : Int) - (cmpC a b)) false (by kernel_rfl) (fun _ => by kernel_rfl) (decide_eq_false (h61)) ?_
              refine s_val (.bool false) (by kernel_rfl) (fun _ => by kernel_rfl) ?_
              refine s_val (.bool false) (by kernel_rfl) (fun _ => by kernel_rfl) ?_
              refine s_skip (by kernel_rfl) ?_
              refine s_val (.bool false) (by kernel_rfl) (fun _ => by kernel_rfl) ?_
              refine s_val (.bool false) (by kernel_rfl) (fun _ => by kernel_rfl) ?_
              refine s_skip (by kernel_rfl) ?_
              refine s_val (.bool false) (by kernel_rfl) (fun _ => by kernel_rfl) ?_
              refine s_val (.bool false) (by kernel_rfl) (fun _ => by kernel_rfl) ?_
              refine s_skip (by kernel_rfl) ?_
              refine s_skip (by kernel_rfl) ?_
              refine s_skip (by kernel_rfl) ?_
              refine s_skip (by kernel_rfl) ?_
              refine s_skip (by kernel_rfl) ?_
              refine s_skip (by kernel_rfl) ?_
              refine s_val (.bool false) (by kernel_rfl) (fun _ => by kernel_rfl) ?_
              refine s_val (.bool false) (by kernel_rfl) (fun _ => by kernel_rfl) ?_
              refine s_nil ?_
              refine fin_seq ?_
              refine ok_ret ?_
              refine fin_ret (.bool false) Try.results5 (by kernel_rfl) ?_
              exact fun w hO => by exfalso; first | omega | (have := hsame (by omega) (by omega); omega) | (have := heq.1 (by omega); contradiction) | (have := heq.2 (by assumption); omega)
        · skip
          refine s_dec (p := (cmpC (endC (-1)) a : Int) ≤ 0) false (by kernel_rfl) (fun _ => by kernel_rfl) (decide_eq_false (h58)) ?_
          refine s_val (.bool false) (by kernel_rfl) (fun _ => by kernel_rfl) ?_
          refine s_skip (by kernel_rfl) ?_
          refine s_skip (by kernel_rfl) ?_
          refine s_skip (by kernel_rfl) ?_
          refine s_skip (by kernel_rfl) ?_
          refine s_val (.bool false) (by kernel_rfl) (fun _ => by kernel_rfl) ?_
          refine s_val (.bool false) (by kernel_rfl) (fun _ => by kernel_rfl) ?_
          refine s_nil ?_
          refine fin_seq ?_
          refine ok_seq ?_
          refine ok_region ?_
          refine s_call (k := 10) (args := #[]) (.bool true) (by kernel_rfl) (fun _ => by kernel_rfl) (fun w _ => awake3_any w) ?_
          refine s_val (.bool true) (by kernel_rfl) (fun _ => by kernel_rfl) ?_
          refine s_load 1 ⟨b2, (cutV b).cells, 25⟩ (off := 0) (cutV b) (by kernel_rfl) rfl (by kernel_rfl) (by kernel_rfl) (by kernel_rfl) ?_
          refine s_load 2 ⟨b1, (cutV a).cells, 25⟩ (off := 0) (cutV a) (by kernel_rfl) rfl (by kernel_rfl) (by kernel_rfl) (by kernel_rfl) ?_
          refine s_call (k := 13) (args := #[cutV b, cutV a]) (.int .i64 (cmpC b a)) (by kernel_rfl) (fun _ => by kernel_rfl) (fun w _ => cmpC_any b a w sb sa) ?_
          refine s_val (.int .i64 (cmpC a b)) (by kernel_rfl) (fun _ => by kernel_rfl) ?_
          refine s_sum (k := .i64) ((0 : Int) - (cmpC a b)) (by kernel_rfl) (fun _ => by kernel_rfl) (IntWalk.i64_in _ (by omega)) ?_
          by_cases h62 : (cmpC b a : Int) = (0 : Int) - (cmpC a b)
          · skip
            refine s_dec (p := (cmpC b a : Int) = (0 : Int) - (cmpC a b)) true (by kernel_rfl) (fun _ => by kernel_rfl) (decide_eq_true (h62)) ?_
            refine s_val (.bool true) (by kernel_rfl) (fun _ => by kernel_rfl) ?_
            refine s_val (.bool true) (by kernel_rfl) (fun _ => by kernel_rfl) ?_
            refine s_val (.bool false) (by kernel_rfl) (fun _ => by kernel_rfl) ?_
            refine s_val (.bool false) (by kernel_rfl) (fun _ => by kernel_rfl) ?_
            refine s_val (.bool false) (by kernel_rfl) (fun _ => by kernel_rfl) ?_
            refine s_skip (by kernel_rfl) ?_
            refine s_val (.bool false) (by kernel_rfl) (fun _ => by kernel_rfl) ?_
            refine s_val (.bool false) (by kernel_rfl) (fun _ => by kernel_rfl) ?_
            refine s_skip (by kernel_rfl) ?_
            refine s_skip (by kernel_rfl) ?_
            refine s_skip (by kernel_rfl) ?_
            refine s_skip (by kernel_rfl) ?_
            refine s_skip (by kernel_rfl) ?_
            refine s_skip (by kernel_rfl) ?_
            refine s_val (.bool false) (by kernel_rfl) (fun _ => by kernel_rfl) ?_
            refine s_val (.bool false) (by kernel_rfl) (fun _ => by kernel_rfl) ?_
            refine s_nil ?_
            refine fin_seq ?_
            refine ok_ret ?_
            refine fin_ret (.bool false) Try.results5 (by kernel_rfl) ?_
            exact fun w hO => by exfalso; first | omega | (have := hsame (by omega) (by omega); omega) | (have := heq.1 (by omega); contradiction) | (have := heq.2 (by assumption); omega)
          · skip
            refine s_dec (p := (cmpC b a : Int) = (0 : Int) - (cmpC a b)) false (by kernel_rfl) (fun _ => by kernel_rfl) (decide_eq_false (h62)) ?_
            refine s_val (.bool false) (by kernel_rfl) (fun _ => by kernel_rfl) ?_
            refine s_val (.bool false) (by kernel_rfl) (fun _ => by kernel_rfl) ?_
            refine s_skip (by kernel_rfl) ?_
            refine s_val (.bool false) (by kernel_rfl) (fun _ => by kernel_rfl) ?_
            refine s_val (.bool false) (by kernel_rfl) (fun _ => by kernel_rfl) ?_
            refine s_skip (by kernel_rfl) ?_
            refine s_val (.bool false) (by kernel_rfl) (fun _ => by kernel_rfl) ?_
            refine s_val (.bool false) (by kernel_rfl) (fun _ => by kernel_rfl) ?_
            refine s_skip (by kernel_rfl) ?_
            refine s_skip (by kernel_rfl) ?_
            refine s_skip (by kernel_rfl) ?_
            refine s_skip (by kernel_rfl) ?_
            refine s_skip (by kernel_rfl) ?_
            refine s_skip (by kernel_rfl) ?_
            refine s_val (.bool false) (by kernel_rfl) (fun _ => by kernel_rfl) ?_
            refine s_val (.bool false) (by kernel_rfl) (fun _ => by kernel_rfl) ?_
            refine s_nil ?_
            refine fin_seq ?_
            refine ok_ret ?_
            refine fin_ret (.bool false) Try.results5 (by kernel_rfl) ?_
            exact fun w hO => by exfalso; first | omega | (have := hsame (by omega) (by omega); omega) | (have := heq.1 (by omega); contradiction) | (have := heq.2 (by assumption); omega)
end Go.Proofs.Ytndjdmbbndcohaa
