/-
  VersionOrder: for every list of numbers the law returns true, and nothing that was there is changed. Condition: the library's table of powers of ten reads as it is laid.
-/
import Derived.Test.YtndjdmbbndcohaaDoorP2
namespace Go.Proofs.YtndjdmbbndcohaaDoor
open Go.RowKit
set_option maxRecDepth 100000
set_option linter.unusedVariables false
set_option linter.unusedSimpArgs false
set_option maxHeartbeats 4000000
theorem cmpR_range2 (v w : Ver) : cmpR v w = -1 ∨ cmpR v w = 0 ∨ cmpR v w = 1 := by
  by_cases hv : v.may = true
  · by_cases hw : w.may = true
    · rw [cmpR_key hv hw]; exact cmpL_range _ _
    · exact .inr (.inl (cmpR_bad (.inr (by simpa using hw))))
  · exact .inr (.inl (cmpR_bad (.inl (by simpa using hv))))
theorem versionOrder.law (W : World) (v : Value) (l : List Int) (hv : ReadsI W W.heap.size v l) (hl : l.length ≤ maxLen) (ht : HasTab W) : Calls Tryd.prog 3 #[v] W fun e w' => e = .returned (.bool true) ∧ Below W.heap.size W w' := by
  unfold maxLen at hl
  obtain ⟨a, ha⟩ : ∃ x, genV l 0 = x := ⟨_, rfl⟩
  have ma := gen_may l 0
  have sa := genS l 0
  rw [ha] at ma sa
  obtain ⟨b, hb⟩ : ∃ x, genV l 5 = x := ⟨_, rfl⟩
  have mb := gen_may l 5
  have sb := genS l 5
  rw [hb] at mb sb
  obtain ⟨c, hc⟩ : ∃ x, genV l 10 = x := ⟨_, rfl⟩
  have mc := gen_may l 10
  have sc := genS l 10
  rw [hc] at mc sc
  have hanti := order_anti ma mb
  have hon := order_on ma mb mc
  have heq := order_eq ma mb
  have hself := order_self (a := a)
  have hcore := order_core ma mb
  have hr := cmpR_range2 a b
  refine calls_ok (n := 82) Tryd.func3 rfl (by kernel_rfl) (by kernel_rfl) ?_
  refine ok_seq ?_
  refine ok_region ?_
  refine s_val (.bool false) (by kernel_rfl) (fun _ => by kernel_rfl) ?_
  refine s_nil ?_
  refine fin_seq ?_
  refine ok_seq ?_
  refine ok_region ?_
  refine s_val (v) (by kernel_rfl) (fun _ => by kernel_rfl) ?_
  refine s_call (k := 5) (args := #[v, .int .i64 0]) (verV a) (by kernel_rfl) (fun _ => by kernel_rfl) (fun w hO => ret_v (congrArg verV ha) (gen_any v l 0 w ((hv.below hO.below).more hO.below.size) hl (by omega))) ?_
  refine s_val (v) (by kernel_rfl) (fun _ => by kernel_rfl) ?_
  refine s_call (k := 5) (args := #[v, .int .i64 5]) (verV b) (by kernel_rfl) (fun _ => by kernel_rfl) (fun w hO => ret_v (congrArg verV hb) (gen_any v l 5 w ((hv.below hO.below).more hO.below.size) hl (by omega))) ?_
  refine s_val (v) (by kernel_rfl) (fun _ => by kernel_rfl) ?_
  refine s_call (k := 5) (args := #[v, .int .i64 10]) (verV c) (by kernel_rfl) (fun _ => by kernel_rfl) (fun w hO => ret_v (congrArg verV hc) (gen_any v l 10 w ((hv.below hO.below).more hO.below.size) hl (by omega))) ?_
  refine s_alloc_at (.agg #[.int .i64 0, .int .i64 0, .int .i64 0, .string ⟨#[]⟩, .string ⟨#[]⟩]) (by kernel_rfl) rfl (by kernel_rfl) (fun b1 => ?_)
  refine s_alloc_at (.agg #[.int .i64 0, .int .i64 0, .int .i64 0, .string ⟨#[]⟩, .string ⟨#[]⟩]) (by kernel_rfl) rfl (by kernel_rfl) (fun b2 => ?_)
  refine s_alloc_at (.agg #[.int .i64 0, .int .i64 0, .int .i64 0, .string ⟨#[]⟩, .string ⟨#[]⟩]) (by kernel_rfl) rfl (by kernel_rfl) (fun b3 => ?_)
  refine s_store_at 2 ⟨b1, #[.int .i64 0, .int .i64 0, .int .i64 0, .string ⟨#[]⟩, .string ⟨#[]⟩], 24⟩ (off := 0) (verV a) (by kernel_rfl) rfl rfl (by kernel_rfl) (by kernel_rfl) (by kernel_rfl) (by kernel_rfl) (by kernel_rfl) ?_
  refine s_store_at 1 ⟨b2, #[.int .i64 0, .int .i64 0, .int .i64 0, .string ⟨#[]⟩, .string ⟨#[]⟩], 24⟩ (off := 0) (verV b) (by kernel_rfl) rfl rfl (by kernel_rfl) (by kernel_rfl) (by kernel_rfl) (by kernel_rfl) (by kernel_rfl) ?_
  refine s_store_at 0 ⟨b3, #[.int .i64 0, .int .i64 0, .int .i64 0, .string ⟨#[]⟩, .string ⟨#[]⟩], 24⟩ (off := 0) (verV c) (by kernel_rfl) rfl rfl (by kernel_rfl) (by kernel_rfl) (by kernel_rfl) (by kernel_rfl) (by kernel_rfl) ?_
  refine s_nil ?_
  refine fin_seq ?_
  refine ok_seq ?_
  refine ok_draw (by kernel_rfl) (by kernel_rfl) ?_
  refine q_load 2 ⟨b1, (verV a).cells, 24⟩ (off := 0) (verV a) (by kernel_rfl) rfl (by kernel_rfl) (by kernel_rfl) (by kernel_rfl) ?_
  refine q_load 1 ⟨b2, (verV b).cells, 24⟩ (off := 0) (verV b) (by kernel_rfl) rfl (by kernel_rfl) (by kernel_rfl) (by kernel_rfl) ?_
  refine q_call (k := 6) (args := #[verV a, verV b]) (.int .i64 (cmpR a b)) (by kernel_rfl) (fun _ => by kernel_rfl) (fun w _ => vcompare_any a b w sa.1 sa.2 sb.1 sb.2) ?_
  refine q_load 1 ⟨b2, (verV b).cells, 24⟩ (off := 0) (verV b) (by kernel_rfl) rfl (by kernel_rfl) (by kernel_rfl) (by kernel_rfl) ?_
  refine q_load 0 ⟨b3, (verV c).cells, 24⟩ (off := 0) (verV c) (by kernel_rfl) rfl (by kernel_rfl) (by kernel_rfl) (by kernel_rfl) ?_
  refine q_call (k := 6) (args := #[verV b, verV c]) (.int .i64 (cmpR b c)) (by kernel_rfl) (fun _ => by kernel_rfl) (fun w _ => vcompare_any b c w sb.1 sb.2 sc.1 sc.2) ?_
  refine q_load 2 ⟨b1, (verV a).cells, 24⟩ (off := 0) (verV a) (by kernel_rfl) rfl (by kernel_rfl) (by kernel_rfl) (by kernel_rfl) ?_
  refine q_load 0 ⟨b3, (verV c).cells, 24⟩ (off := 0) (verV c) (by kernel_rfl) rfl (by kernel_rfl) (by kernel_rfl) (by kernel_rfl) ?_
  refine q_call (k := 6) (args := #[verV a, verV c]) (.int .i64 (cmpR a c)) (by kernel_rfl) (fun _ => by kernel_rfl) (fun w _ => vcompare_any a c w sa.1 sa.2 sc.1 sc.2) ?_
  refine q_val (.int .i64 (cmpR a b)) (by kernel_rfl) (fun _ => by kernel_rfl) ?_
  refine q_val (.int .i64 (cmpR b c)) (by kernel_rfl) (fun _ => by kernel_rfl) ?_
  refine q_val (.int .i64 (cmpR a c)) (by kernel_rfl) (fun _ => by kernel_rfl) ?_
  refine q_nil ?_
  refine fin_seq ?_
  refine ok_seq ?_
  refine ok_region ?_
  refine s_val (.int .i64 (cmpR a b)) (by kernel_rfl) (fun _ => by kernel_rfl) ?_
  by_cases h1 : (0 : Int) < cmpR a b
  · skip
    refine s_dec (p := (0 : Int) < cmpR a b) true (by kernel_rfl) (fun _ => by kernel_rfl) (decide_eq_true (h1)) ?_
    refine s_val (.bool true) (by kernel_rfl) (fun _ => by kernel_rfl) ?_
    refine s_skip (by kernel_rfl) ?_
    refine s_skip (by kernel_rfl) ?_
    refine s_val (.bool true) (by kernel_rfl) (fun _ => by kernel_rfl) ?_
    refine s_val (.bool true) (by kernel_rfl) (fun _ => by kernel_rfl) ?_
    refine s_skip (by kernel_rfl) ?_
    refine s_skip (by kernel_rfl) ?_
    refine s_skip (by kernel_rfl) ?_
    refine s_skip (by kernel_rfl) ?_
    refine s_skip (by kernel_rfl) ?_
    refine s_skip (by kernel_rfl) ?_
    refine s_skip (by kernel_rfl) ?_
    refine s_skip (by kernel_rfl) ?_
    refine s_skip (by kernel_rfl) ?_
    refine s_skip (by kernel_rfl) ?_
    refine s_skip (by kernel_rfl) ?_
    refine s_skip (by kernel_rfl) ?_
    refine s_skip (by kernel_rfl) ?_
    refine s_val (.bool true) (by kernel_rfl) (fun _ => by kernel_rfl) ?_
    refine s_val (.bool true) (by kernel_rfl) (fun _ => by kernel_rfl) ?_
    refine s_nil ?_
    refine fin_seq ?_
    refine ok_seq ?_
    refine ok_draw (by kernel_rfl) (by kernel_rfl) ?_
    refine q_call (k := 7) (args := #[]) (.bool true) (by kernel_rfl) (fun _ => by kernel_rfl) (fun w hO => awake_any w (ht.on hO.below)) ?_
    refine q_val (.bool true) (by kernel_rfl) (fun _ => by kernel_rfl) ?_
    refine q_load 1 ⟨b2, (verV b).cells, 24⟩ (off := 0) (verV b) (by kernel_rfl) rfl (by kernel_rfl) (by kernel_rfl) (by kernel_rfl) ?_
    refine q_load 2 ⟨b1, (verV a).cells, 24⟩ (off := 0) (verV a) (by kernel_rfl) rfl (by kernel_rfl) (by kernel_rfl) (by kernel_rfl) ?_
    refine q_call (k := 6) (args := #[verV b, verV a]) (.int .i64 (cmpR b a)) (by kernel_rfl) (fun _ => by kernel_rfl) (fun w _ => vcompare_any b a w sb.1 sb.2 sa.1 sa.2) ?_
    refine q_val (.int .i64 (cmpR a b)) (by kernel_rfl) (fun _ => by kernel_rfl) ?_
    refine q_sum (k := .i64) ((0 : Int) - (cmpR a b)) (by kernel_rfl) (fun _ => by kernel_rfl) (IntWalk.i64_in _ (by omega)) ?_
    refine q_dec (p := (cmpR b a : Int) = (0 : Int) - (cmpR a b)) true (by kernel_rfl) (fun _ => by kernel_rfl) (decide_eq_true (by omega)) ?_
    refine q_val (.bool true) (by kernel_rfl) (fun _ => by kernel_rfl) ?_
    refine q_val (.bool true) (by kernel_rfl) (fun _ => by kernel_rfl) ?_
    refine q_val (.bool true) (by kernel_rfl) (fun _ => by kernel_rfl) ?_
    refine q_val (.bool true) (by kernel_rfl) (fun _ => by kernel_rfl) ?_
    refine q_val (.bool true) (by kernel_rfl) (fun _ => by kernel_rfl) ?_
    refine q_load 2 ⟨b1, (verV a).cells, 24⟩ (off := 0) (verV a) (by kernel_rfl) rfl (by kernel_rfl) (by kernel_rfl) (by kernel_rfl) ?_
    refine q_load 2 ⟨b1, (verV a).cells, 24⟩ (off := 0) (verV a) (by kernel_rfl) rfl (by kernel_rfl) (by kernel_rfl) (by kernel_rfl) ?_
    refine q_call (k := 6) (args := #[verV a, verV a]) (.int .i64 (cmpR a a)) (by kernel_rfl) (fun _ => by kernel_rfl) (fun w _ => vcompare_any a a w sa.1 sa.2 sa.1 sa.2) ?_
    refine q_dec (p := (cmpR a a : Int) = 0) true (by kernel_rfl) (fun _ => by kernel_rfl) (decide_eq_true (hself)) ?_
    refine q_val (.bool true) (by kernel_rfl) (fun _ => by kernel_rfl) ?_
    refine q_val (.bool true) (by kernel_rfl) (fun _ => by kernel_rfl) ?_
    refine q_load 2 ⟨b1, (verV a).cells, 24⟩ (off := 0) (verV a) (by kernel_rfl) rfl (by kernel_rfl) (by kernel_rfl) (by kernel_rfl) ?_
    refine q_call (k := 8) (args := #[verV a]) (verV (coreV a)) (by kernel_rfl) (fun _ => by kernel_rfl) (fun w _ => core_any a w sa.1) ?_
    refine q_load 1 ⟨b2, (verV b).cells, 24⟩ (off := 0) (verV b) (by kernel_rfl) rfl (by kernel_rfl) (by kernel_rfl) (by kernel_rfl) ?_
    refine q_call (k := 6) (args := #[verV (coreV a), verV b]) (.int .i64 (cmpR (coreV a) b)) (by kernel_rfl) (fun _ => by kernel_rfl) (fun w _ => vcompare_any (coreV a) b w (coreV_short sa).1 (coreV_short sa).2 sb.1 sb.2) ?_
    refine q_val (.int .i64 (cmpR a b)) (by kernel_rfl) (fun _ => by kernel_rfl) ?_
    refine q_dec (p := (cmpR (coreV a) b : Int) = cmpR a b) true (by kernel_rfl) (fun _ => by kernel_rfl) (decide_eq_true (hcore)) ?_
    refine q_val (.bool true) (by kernel_rfl) (fun _ => by kernel_rfl) ?_
    refine q_val (.bool true) (by kernel_rfl) (fun _ => by kernel_rfl) ?_
    refine q_val (.int .i64 (cmpR a b)) (by kernel_rfl) (fun _ => by kernel_rfl) ?_
    by_cases h2 : (cmpR a b : Int) = 0
    · skip
      refine q_dec (p := (cmpR a b : Int) = 0) true (by kernel_rfl) (fun _ => by kernel_rfl) (decide_eq_true (h2)) ?_
      refine q_load 2 ⟨b1, (verV a).cells, 24⟩ (off := 0) (verV a) (by kernel_rfl) rfl (by kernel_rfl) (by kernel_rfl) (by kernel_rfl) ?_
      refine q_call (k := 8) (args := #[verV a]) (verV (coreV a)) (by kernel_rfl) (fun _ => by kernel_rfl) (fun w _ => core_any a w sa.1) ?_
      refine q_load 1 ⟨b2, (verV b).cells, 24⟩ (off := 0) (verV b) (by kernel_rfl) rfl (by kernel_rfl) (by kernel_rfl) (by kernel_rfl) ?_
      refine q_call (k := 8) (args := #[verV b]) (verV (coreV b)) (by kernel_rfl) (fun _ => by kernel_rfl) (fun w _ => core_any b w sb.1) ?_
      by_cases h3 : (coreV a) = (coreV b)
      · skip
        refine q_val (.bool true) (by kernel_rfl) (op_eq_ver rfl (by kernel_rfl) (by kernel_rfl) (decide_eq_true (h3))) ?_
        refine q_val (.bool true) (by kernel_rfl) (fun _ => by kernel_rfl) ?_
        refine q_val (.bool true) (by kernel_rfl) (fun _ => by kernel_rfl) ?_
        refine q_val (.bool true) (by kernel_rfl) (fun _ => by kernel_rfl) ?_
        refine q_nil ?_
        refine fin_seq ?_
        refine ok_ret ?_
        refine fin_ret (.bool true) Tryd.results3 (by kernel_rfl) ?_
        exact fun w hO => ⟨rfl, hO.below⟩
      · skip
        refine q_val (.bool false) (by kernel_rfl) (op_eq_ver rfl (by kernel_rfl) (by kernel_rfl) (decide_eq_false (h3))) ?_
        refine q_val (.bool false) (by kernel_rfl) (fun _ => by kernel_rfl) ?_
        refine q_val (.bool false) (by kernel_rfl) (fun _ => by kernel_rfl) ?_
        refine q_val (.bool false) (by kernel_rfl) (fun _ => by kernel_rfl) ?_
        refine q_nil ?_
        refine fin_seq ?_
        refine ok_ret ?_
        refine fin_ret (.bool false) Tryd.results3 (by kernel_rfl) ?_
        exact fun w hO => by exfalso; first | omega | (have := heq.1 (by omega); contradiction) | (have := heq.2 (by assumption); omega) | (rcases hon with h | h | h <;> omega)
    · skip
      refine q_dec (p := (cmpR a b : Int) = 0) false (by kernel_rfl) (fun _ => by kernel_rfl) (decide_eq_false (h2)) ?_
      refine q_load 2 ⟨b1, (verV a).cells, 24⟩ (off := 0) (verV a) (by kernel_rfl) rfl (by kernel_rfl) (by kernel_rfl) (by kernel_rfl) ?_
      refine q_call (k := 8) (args := #[verV a]) (verV (coreV a)) (by kernel_rfl) (fun _ => by kernel_rfl) (fun w _ => core_any a w sa.1) ?_
      refine q_load 1 ⟨b2, (verV b).cells, 24⟩ (off := 0) (verV b) (by kernel_rfl) rfl (by kernel_rfl) (by kernel_rfl) (by kernel_rfl) ?_
      refine q_call (k := 8) (args := #[verV b]) (verV (coreV b)) (by kernel_rfl) (fun _ => by kernel_rfl) (fun w _ => core_any b w sb.1) ?_
      by_cases h4 : (coreV a) = (coreV b)
      · skip
        refine q_val (.bool true) (by kernel_rfl) (op_eq_ver rfl (by kernel_rfl) (by kernel_rfl) (decide_eq_true (h4))) ?_
        refine q_val (.bool false) (by kernel_rfl) (fun _ => by kernel_rfl) ?_
        refine q_val (.bool false) (by kernel_rfl) (fun _ => by kernel_rfl) ?_
        refine q_val (.bool false) (by kernel_rfl) (fun _ => by kernel_rfl) ?_
        refine q_nil ?_
        refine fin_seq ?_
        refine ok_ret ?_
        refine fin_ret (.bool false) Tryd.results3 (by kernel_rfl) ?_
        exact fun w hO => by exfalso; first | omega | (have := heq.1 (by omega); contradiction) | (have := heq.2 (by assumption); omega) | (rcases hon with h | h | h <;> omega)
      · skip
        refine q_val (.bool false) (by kernel_rfl) (op_eq_ver rfl (by kernel_rfl) (by kernel_rfl) (decide_eq_false (h4))) ?_
        refine q_val (.bool true) (by kernel_rfl) (fun _ => by kernel_rfl) ?_
        refine q_val (.bool true) (by kernel_rfl) (fun _ => by kernel_rfl) ?_
        refine q_val (.bool true) (by kernel_rfl) (fun _ => by kernel_rfl) ?_
        refine q_nil ?_
        refine fin_seq ?_
        refine ok_ret ?_
        refine fin_ret (.bool true) Tryd.results3 (by kernel_rfl) ?_
        exact fun w hO => ⟨rfl, hO.below⟩
  · skip
    refine s_dec (p := (0 : Int) < cmpR a b) false (by kernel_rfl) (fun _ => by kernel_rfl) (decide_eq_false (h1)) ?_
    refine s_val (.bool false) (by kernel_rfl) (fun _ => by kernel_rfl) ?_
    refine s_val (.int .i64 (cmpR b c)) (by kernel_rfl) (fun _ => by kernel_rfl) ?_
    by_cases h5 : (0 : Int) < cmpR b c
    · skip
      refine s_dec (p := (0 : Int) < cmpR b c) true (by kernel_rfl) (fun _ => by kernel_rfl) (decide_eq_true (h5)) ?_
      refine s_val (.bool true) (by kernel_rfl) (fun _ => by kernel_rfl) ?_
      refine s_val (.bool true) (by kernel_rfl) (fun _ => by kernel_rfl) ?_
      refine s_skip (by kernel_rfl) ?_
      refine s_skip (by kernel_rfl) ?_
      refine s_skip (by kernel_rfl) ?_
      refine s_skip (by kernel_rfl) ?_
      refine s_skip (by kernel_rfl) ?_
      refine s_skip (by kernel_rfl) ?_
      refine s_skip (by kernel_rfl) ?_
      refine s_skip (by kernel_rfl) ?_
      refine s_skip (by kernel_rfl) ?_
      refine s_skip (by kernel_rfl) ?_
      refine s_skip (by kernel_rfl) ?_
      refine s_skip (by kernel_rfl) ?_
      refine s_skip (by kernel_rfl) ?_
      refine s_val (.bool true) (by kernel_rfl) (fun _ => by kernel_rfl) ?_
      refine s_val (.bool true) (by kernel_rfl) (fun _ => by kernel_rfl) ?_
      refine s_nil ?_
      refine fin_seq ?_
      refine ok_seq ?_
      refine ok_draw (by kernel_rfl) (by kernel_rfl) ?_
      refine q_call (k := 7) (args := #[]) (.bool true) (by kernel_rfl) (fun _ => by kernel_rfl) (fun w hO => awake_any w (ht.on hO.below)) ?_
      refine q_val (.bool true) (by kernel_rfl) (fun _ => by kernel_rfl) ?_
      refine q_load 1 ⟨b2, (verV b).cells, 24⟩ (off := 0) (verV b) (by kernel_rfl) rfl (by kernel_rfl) (by kernel_rfl) (by kernel_rfl) ?_
      refine q_load 2 ⟨b1, (verV a).cells, 24⟩ (off := 0) (verV a) (by kernel_rfl) rfl (by kernel_rfl) (by kernel_rfl) (by kernel_rfl) ?_
      refine q_call (k := 6) (args := #[verV b, verV a]) (.int .i64 (cmpR b a)) (by kernel_rfl) (fun _ => by kernel_rfl) (fun w _ => vcompare_any b a w sb.1 sb.2 sa.1 sa.2) ?_
      refine q_val (.int .i64 (cmpR a b)) (by kernel_rfl) (fun _ => by kernel_rfl) ?_
      refine q_sum (k := .i64) ((0 : Int) - (cmpR a b)) (by kernel_rfl) (fun _ => by kernel_rfl) (IntWalk.i64_in _ (by omega)) ?_
      refine q_dec (p := (cmpR b a : Int) = (0 : Int) - (cmpR a b)) true (by kernel_rfl) (fun _ => by kernel_rfl) (decide_eq_true (by omega)) ?_
      refine q_val (.bool true) (by kernel_rfl) (fun _ => by kernel_rfl) ?_
      refine q_val (.bool true) (by kernel_rfl) (fun _ => by kernel_rfl) ?_
      refine q_val (.bool true) (by kernel_rfl) (fun _ => by kernel_rfl) ?_
      refine q_val (.bool true) (by kernel_rfl) (fun _ => by kernel_rfl) ?_
      refine q_val (.bool true) (by kernel_rfl) (fun _ => by kernel_rfl) ?_
      refine q_load 2 ⟨b1, (verV a).cells, 24⟩ (off := 0) (verV a) (by kernel_rfl) rfl (by kernel_rfl) (by kernel_rfl) (by kernel_rfl) ?_
      refine q_load 2 ⟨b1, (verV a).cells, 24⟩ (off := 0) (verV a) (by kernel_rfl) rfl (by kernel_rfl) (by kernel_rfl) (by kernel_rfl) ?_
      refine q_call (k := 6) (args := #[verV a, verV a]) (.int .i64 (cmpR a a)) (by kernel_rfl) (fun _ => by kernel_rfl) (fun w _ => vcompare_any a a w sa.1 sa.2 sa.1 sa.2) ?_
      refine q_dec (p := (cmpR a a : Int) = 0) true (by kernel_rfl) (fun _ => by kernel_rfl) (decide_eq_true (hself)) ?_
      refine q_val (.bool true) (by kernel_rfl) (fun _ => by kernel_rfl) ?_
      refine q_val (.bool true) (by kernel_rfl) (fun _ => by kernel_rfl) ?_
      refine q_load 2 ⟨b1, (verV a).cells, 24⟩ (off := 0) (verV a) (by kernel_rfl) rfl (by kernel_rfl) (by kernel_rfl) (by kernel_rfl) ?_
      refine q_call (k := 8) (args := #[verV a]) (verV (coreV a)) (by kernel_rfl) (fun _ => by kernel_rfl) (fun w _ => core_any a w sa.1) ?_
      refine q_load 1 ⟨b2, (verV b).cells, 24⟩ (off := 0) (verV b) (by kernel_rfl) rfl (by kernel_rfl) (by kernel_rfl) (by kernel_rfl) ?_
      refine q_call (k := 6) (args := #[verV (coreV a), verV b]) (.int .i64 (cmpR (coreV a) b)) (by kernel_rfl) (fun _ => by kernel_rfl) (fun w _ => vcompare_any (coreV a) b w (coreV_short sa).1 (coreV_short sa).2 sb.1 sb.2) ?_
      refine q_val (.int .i64 (cmpR a b)) (by kernel_rfl) (fun _ => by kernel_rfl) ?_
      refine q_dec (p := (cmpR (coreV a) b : Int) = cmpR a b) true (by kernel_rfl) (fun _ => by kernel_rfl) (decide_eq_true (hcore)) ?_
      refine q_val (.bool true) (by kernel_rfl) (fun _ => by kernel_rfl) ?_
      refine q_val (.bool true) (by kernel_rfl) (fun _ => by kernel_rfl) ?_
      refine q_val (.int .i64 (cmpR a b)) (by kernel_rfl) (fun _ => by kernel_rfl) ?_
      by_cases h6 : (cmpR a b : Int) = 0
      · skip
        refine q_dec (p := (cmpR a b : Int) = 0) true (by kernel_rfl) (fun _ => by kernel_rfl) (decide_eq_true (h6)) ?_
        refine q_load 2 ⟨b1, (verV a).cells, 24⟩ (off := 0) (verV a) (by kernel_rfl) rfl (by kernel_rfl) (by kernel_rfl) (by kernel_rfl) ?_
        refine q_call (k := 8) (args := #[verV a]) (verV (coreV a)) (by kernel_rfl) (fun _ => by kernel_rfl) (fun w _ => core_any a w sa.1) ?_
        refine q_load 1 ⟨b2, (verV b).cells, 24⟩ (off := 0) (verV b) (by kernel_rfl) rfl (by kernel_rfl) (by kernel_rfl) (by kernel_rfl) ?_
        refine q_call (k := 8) (args := #[verV b]) (verV (coreV b)) (by kernel_rfl) (fun _ => by kernel_rfl) (fun w _ => core_any b w sb.1) ?_
        by_cases h7 : (coreV a) = (coreV b)
        · skip
          refine q_val (.bool true) (by kernel_rfl) (op_eq_ver rfl (by kernel_rfl) (by kernel_rfl) (decide_eq_true (h7))) ?_
          refine q_val (.bool true) (by kernel_rfl) (fun _ => by kernel_rfl) ?_
          refine q_val (.bool true) (by kernel_rfl) (fun _ => by kernel_rfl) ?_
          refine q_val (.bool true) (by kernel_rfl) (fun _ => by kernel_rfl) ?_
          refine q_nil ?_
          refine fin_seq ?_
          refine ok_ret ?_
          refine fin_ret (.bool true) Tryd.results3 (by kernel_rfl) ?_
          exact fun w hO => ⟨rfl, hO.below⟩
        · skip
          refine q_val (.bool false) (by kernel_rfl) (op_eq_ver rfl (by kernel_rfl) (by kernel_rfl) (decide_eq_false (h7))) ?_
          refine q_val (.bool false) (by kernel_rfl) (fun _ => by kernel_rfl) ?_
          refine q_val (.bool false) (by kernel_rfl) (fun _ => by kernel_rfl) ?_
          refine q_val (.bool false) (by kernel_rfl) (fun _ => by kernel_rfl) ?_
          refine q_nil ?_
          refine fin_seq ?_
          refine ok_ret ?_
          refine fin_ret (.bool false) Tryd.results3 (by kernel_rfl) ?_
          exact fun w hO => by exfalso; first | omega | (have := heq.1 (by omega); contradiction) | (have := heq.2 (by assumption); omega) | (rcases hon with h | h | h <;> omega)
      · skip
        refine q_dec (p := (cmpR a b : Int) = 0) false (by kernel_rfl) (fun _ => by kernel_rfl) (decide_eq_false (h6)) ?_
        refine q_load 2 ⟨b1, (verV a).cells, 24⟩ (off := 0) (verV a) (by kernel_rfl) rfl (by kernel_rfl) (by kernel_rfl) (by kernel_rfl) ?_
        refine q_call (k := 8) (args := #[verV a]) (verV (coreV a)) (by kernel_rfl) (fun _ => by kernel_rfl) (fun w _ => core_any a w sa.1) ?_
        refine q_load 1 ⟨b2, (verV b).cells, 24⟩ (off := 0) (verV b) (by kernel_rfl) rfl (by kernel_rfl) (by kernel_rfl) (by kernel_rfl) ?_
        refine q_call (k := 8) (args := #[verV b]) (verV (coreV b)) (by kernel_rfl) (fun _ => by kernel_rfl) (fun w _ => core_any b w sb.1) ?_
        by_cases h8 : (coreV a) = (coreV b)
        · skip
          refine q_val (.bool true) (by kernel_rfl) (op_eq_ver rfl (by kernel_rfl) (by kernel_rfl) (decide_eq_true (h8))) ?_
          refine q_val (.bool false) (by kernel_rfl) (fun _ => by kernel_rfl) ?_
          refine q_val (.bool false) (by kernel_rfl) (fun _ => by kernel_rfl) ?_
          refine q_val (.bool false) (by kernel_rfl) (fun _ => by kernel_rfl) ?_
          refine q_nil ?_
          refine fin_seq ?_
          refine ok_ret ?_
          refine fin_ret (.bool false) Tryd.results3 (by kernel_rfl) ?_
          exact fun w hO => by exfalso; first | omega | (have := heq.1 (by omega); contradiction) | (have := heq.2 (by assumption); omega) | (rcases hon with h | h | h <;> omega)
        · skip
          refine q_val (.bool false) (by kernel_rfl) (op_eq_ver rfl (by kernel_rfl) (by kernel_rfl) (decide_eq_false (h8))) ?_
          refine q_val (.bool true) (by kernel_rfl) (fun _ => by kernel_rfl) ?_
          refine q_val (.bool true) (by kernel_rfl) (fun _ => by kernel_rfl) ?_
          refine q_val (.bool true) (by kernel_rfl) (fun _ => by kernel_rfl) ?_
          refine q_nil ?_
          refine fin_seq ?_
          refine ok_ret ?_
          refine fin_ret (.bool true) Tryd.results3 (by kernel_rfl) ?_
          exact fun w hO => ⟨rfl, hO.below⟩
    · skip
      refine s_dec (p := (0 : Int) < cmpR b c) false (by kernel_rfl) (fun _ => by kernel_rfl) (decide_eq_false (h5)) ?_
      refine s_val (.bool false) (by kernel_rfl) (fun _ => by kernel_rfl) ?_
      refine s_val (.bool false) (by kernel_rfl) (fun _ => by kernel_rfl) ?_
      refine s_val (.int .i64 (cmpR a c)) (by kernel_rfl) (fun _ => by kernel_rfl) ?_
      by_cases h9 : (cmpR a c : Int) ≤ 0
      · skip
        refine s_dec (p := (cmpR a c : Int) ≤ 0) true (by kernel_rfl) (fun _ => by kernel_rfl) (decide_eq_true (h9)) ?_
        refine s_val (.bool true) (by kernel_rfl) (fun _ => by kernel_rfl) ?_
        refine s_val (.int .i64 (cmpR a b)) (by kernel_rfl) (fun _ => by kernel_rfl) ?_
        by_cases h10 : (cmpR a b : Int) = 0
        · skip
          refine s_dec (p := (cmpR a b : Int) = 0) true (by kernel_rfl) (fun _ => by kernel_rfl) (decide_eq_true (h10)) ?_
          refine s_val (.bool true) (by kernel_rfl) (fun _ => by kernel_rfl) ?_
          refine s_val (.int .i64 (cmpR b c)) (by kernel_rfl) (fun _ => by kernel_rfl) ?_
          by_cases h11 : (cmpR b c : Int) = 0
          · skip
            refine s_dec (p := (cmpR b c : Int) = 0) true (by kernel_rfl) (fun _ => by kernel_rfl) (decide_eq_true (h11)) ?_
            refine s_val (.bool true) (by kernel_rfl) (fun _ => by kernel_rfl) ?_
            refine s_val (.int .i64 (cmpR a c)) (by kernel_rfl) (fun _ => by kernel_rfl) ?_
            by_cases h12 : (cmpR a c : Int) = 0
            · skip
              refine s_dec (p := (cmpR a c : Int) = 0) true (by kernel_rfl) (fun _ => by kernel_rfl) (decide_eq_true (h12)) ?_
              refine s_val (.bool true) (by kernel_rfl) (fun _ => by kernel_rfl) ?_
              refine s_val (.bool true) (by kernel_rfl) (fun _ => by kernel_rfl) ?_
              refine s_val (.bool true) (by kernel_rfl) (fun _ => by kernel_rfl) ?_
              refine s_val (.bool true) (by kernel_rfl) (fun _ => by kernel_rfl) ?_
              refine s_nil ?_
              refine fin_seq ?_
              refine ok_seq ?_
              refine ok_draw (by kernel_rfl) (by kernel_rfl) ?_
              refine q_call (k := 7) (args := #[]) (.bool true) (by kernel_rfl) (fun _ => by kernel_rfl) (fun w hO => awake_any w (ht.on hO.below)) ?_
              refine q_val (.bool true) (by kernel_rfl) (fun _ => by kernel_rfl) ?_
              refine q_load 1 ⟨b2, (verV b).cells, 24⟩ (off := 0) (verV b) (by kernel_rfl) rfl (by kernel_rfl) (by kernel_rfl) (by kernel_rfl) ?_
              refine q_load 2 ⟨b1, (verV a).cells, 24⟩ (off := 0) (verV a) (by kernel_rfl) rfl (by kernel_rfl) (by kernel_rfl) (by kernel_rfl) ?_
              refine q_call (k := 6) (args := #[verV b, verV a]) (.int .i64 (cmpR b a)) (by kernel_rfl) (fun _ => by kernel_rfl) (fun w _ => vcompare_any b a w sb.1 sb.2 sa.1 sa.2) ?_
              refine q_val (.int .i64 (cmpR a b)) (by kernel_rfl) (fun _ => by kernel_rfl) ?_
              refine q_sum (k := .i64) ((0 : Int) - (cmpR a b)) (by kernel_rfl) (fun _ => by kernel_rfl) (IntWalk.i64_in _ (by omega)) ?_
              refine q_dec (p := (cmpR b a : Int) = (0 : Int) - (cmpR a b)) true (by kernel_rfl) (fun _ => by kernel_rfl) (decide_eq_true (by omega)) ?_
              refine q_val (.bool true) (by kernel_rfl) (fun _ => by kernel_rfl) ?_
              refine q_val (.bool true) (by kernel_rfl) (fun _ => by kernel_rfl) ?_
              refine q_val (.bool true) (by kernel_rfl) (fun _ => by kernel_rfl) ?_
              refine q_val (.bool true) (by kernel_rfl) (fun _ => by kernel_rfl) ?_
              refine q_val (.bool true) (by kernel_rfl) (fun _ => by kernel_rfl) ?_
              refine q_load 2 ⟨b1, (verV a).cells, 24⟩ (off := 0) (verV a) (by kernel_rfl) rfl (by kernel_rfl) (by kernel_rfl) (by kernel_rfl) ?_
              refine q_load 2 ⟨b1, (verV a).cells, 24⟩ (off := 0) (verV a) (by kernel_rfl) rfl (by kernel_rfl) (by kernel_rfl) (by kernel_rfl) ?_
              refine q_call (k := 6) (args := #[verV a, verV a]) (.int .i64 (cmpR a a)) (by kernel_rfl) (fun _ => by kernel_rfl) (fun w _ => vcompare_any a a w sa.1 sa.2 sa.1 sa.2) ?_
              refine q_dec (p := (cmpR a a : Int) = 0) true (by kernel_rfl) (fun _ => by kernel_rfl) (decide_eq_true (hself)) ?_
              refine q_val (.bool true) (by kernel_rfl) (fun _ => by kernel_rfl) ?_
              refine q_val (.bool true) (by kernel_rfl) (fun _ => by kernel_rfl) ?_
              refine q_load 2 ⟨b1, (verV a).cells, 24⟩ (off := 0) (verV a) (by kernel_rfl) rfl (by kernel_rfl) (by kernel_rfl) (by kernel_rfl) ?_
              refine q_call (k := 8) (args := #[verV a]) (verV (coreV a)) (by kernel_rfl) (fun _ => by kernel_rfl) (fun w _ => core_any a w sa.1) ?_
              refine q_load 1 ⟨b2, (verV b).cells, 24⟩ (off := 0) (verV b) (by kernel_rfl) rfl (by kernel_rfl) (by kernel_rfl) (by kernel_rfl) ?_
              refine q_call (k := 6) (args := #[verV (coreV a), verV b]) (.int .i64 (cmpR (coreV a) b)) (by kernel_rfl) (fun _ => by kernel_rfl) (fun w _ => vcompare_any (coreV a) b w (coreV_short sa).1 (coreV_short sa).2 sb.1 sb.2) ?_
              refine q_val (.int .i64 (cmpR a b)) (by kernel_rfl) (fun _ => by kernel_rfl) ?_
              refine q_dec (p := (cmpR (coreV a) b : Int) = cmpR a b) true (by kernel_rfl) (fun _ => by kernel_rfl) (decide_eq_true (hcore)) ?_
              refine q_val (.bool true) (by kernel_rfl) (fun _ => by kernel_rfl) ?_
              refine q_val (.bool true) (by kernel_rfl) (fun _ => by kernel_rfl) ?_
              refine q_val (.int .i64 (cmpR a b)) (by kernel_rfl) (fun _ => by kernel_rfl) ?_
              refine q_dec (p := (cmpR a b : Int) = 0) true (by kernel_rfl) (fun _ => by kernel_rfl) (decide_eq_true (h10)) ?_
              refine q_load 2 ⟨b1, (verV a).cells, 24⟩ (off := 0) (verV a) (by kernel_rfl) rfl (by kernel_rfl) (by kernel_rfl) (by kernel_rfl) ?_
              refine q_call (k := 8) (args := #[verV a]) (verV (coreV a)) (by kernel_rfl) (fun _ => by kernel_rfl) (fun w _ => core_any a w sa.1) ?_
              refine q_load 1 ⟨b2, (verV b).cells, 24⟩ (off := 0) (verV b) (by kernel_rfl) rfl (by kernel_rfl) (by kernel_rfl) (by kernel_rfl) ?_
              refine q_call (k := 8) (args := #[verV b]) (verV (coreV b)) (by kernel_rfl) (fun _ => by kernel_rfl) (fun w _ => core_any b w sb.1) ?_
              by_cases h13 : (coreV a) = (coreV b)
              · skip
                refine q_val (.bool true) (by kernel_rfl) (op_eq_ver rfl (by kernel_rfl) (by kernel_rfl) (decide_eq_true (h13))) ?_
                refine q_val (.bool true) (by kernel_rfl) (fun _ => by kernel_rfl) ?_
                refine q_val (.bool true) (by kernel_rfl) (fun _ => by kernel_rfl) ?_
                refine q_val (.bool true) (by kernel_rfl) (fun _ => by kernel_rfl) ?_
                refine q_nil ?_
                refine fin_seq ?_
                refine ok_ret ?_
                refine fin_ret (.bool true) Tryd.results3 (by kernel_rfl) ?_
                exact fun w hO => ⟨rfl, hO.below⟩
              · skip
                refine q_val (.bool false) (by kernel_rfl) (op_eq_ver rfl (by kernel_rfl) (by kernel_rfl) (decide_eq_false (h13))) ?_
                refine q_val (.bool false) (by kernel_rfl) (fun _ => by kernel_rfl) ?_
                refine q_val (.bool false) (by kernel_rfl) (fun _ => by kernel_rfl) ?_
                refine q_val (.bool false) (by kernel_rfl) (fun _ => by kernel_rfl) ?_
                refine q_nil ?_
                refine fin_seq ?_
                refine ok_ret ?_
                refine fin_ret (.bool false) Tryd.results3 (by kernel_rfl) ?_
                exact fun w hO => by exfalso; first | omega | (have := heq.1 (by omega); contradiction) | (have := heq.2 (by assumption); omega) | (rcases hon with h | h | h <;> omega)
            · skip
              refine s_dec (p := (cmpR a c : Int) = 0) false (by kernel_rfl) (fun _ => by kernel_rfl) (decide_eq_false (h12)) ?_
              refine s_val (.bool false) (by kernel_rfl) (fun _ => by kernel_rfl) ?_
              refine s_val (.bool false) (by kernel_rfl) (fun _ => by kernel_rfl) ?_
              refine s_val (.bool false) (by kernel_rfl) (fun _ => by kernel_rfl) ?_
              refine s_val (.bool false) (by kernel_rfl) (fun _ => by kernel_rfl) ?_
              refine s_nil ?_
              refine fin_seq ?_
              refine ok_seq ?_
              refine ok_draw (by kernel_rfl) (by kernel_rfl) ?_
              refine q_call (k := 7) (args := #[]) (.bool true) (by kernel_rfl) (fun _ => by kernel_rfl) (fun w hO => awake_any w (ht.on hO.below)) ?_
              refine q_val (.bool true) (by kernel_rfl) (fun _ => by kernel_rfl) ?_
              refine q_load 1 ⟨b2, (verV b).cells, 24⟩ (off := 0) (verV b) (by kernel_rfl) rfl (by kernel_rfl) (by kernel_rfl) (by kernel_rfl) ?_
              refine q_load 2 ⟨b1, (verV a).cells, 24⟩ (off := 0) (verV a) (by kernel_rfl) rfl (by kernel_rfl) (by kernel_rfl) (by kernel_rfl) ?_
              refine q_call (k := 6) (args := #[verV b, verV a]) (.int .i64 (cmpR b a)) (by kernel_rfl) (fun _ => by kernel_rfl) (fun w _ => vcompare_any b a w sb.1 sb.2 sa.1 sa.2) ?_
              refine q_val (.int .i64 (cmpR a b)) (by kernel_rfl) (fun _ => by kernel_rfl) ?_
              refine q_sum (k := .i64) ((0 : Int) - (cmpR a b)) (by kernel_rfl) (fun _ => by kernel_rfl) (IntWalk.i64_in _ (by omega)) ?_
              refine q_dec (p := (cmpR b a : Int) = (0 : Int) - (cmpR a b)) true (by kernel_rfl) (fun _ => by kernel_rfl) (decide_eq_true (by omega)) ?_
              refine q_val (.bool true) (by kernel_rfl) (fun _ => by kernel_rfl) ?_
              refine q_val (.bool true) (by kernel_rfl) (fun _ => by kernel_rfl) ?_
              refine q_val (.bool false) (by kernel_rfl) (fun _ => by kernel_rfl) ?_
              refine q_val (.bool false) (by kernel_rfl) (fun _ => by kernel_rfl) ?_
              refine q_val (.bool false) (by kernel_rfl) (fun _ => by kernel_rfl) ?_
              refine q_skip (by kernel_rfl) ?_
              refine q_skip (by kernel_rfl) ?_
              refine q_skip (by kernel_rfl) ?_
              refine q_skip (by kernel_rfl) ?_
              refine q_val (.bool false) (by kernel_rfl) (fun _ => by kernel_rfl) ?_
              refine q_val (.bool false) (by kernel_rfl) (fun _ => by kernel_rfl) ?_
              refine q_skip (by kernel_rfl) ?_
              refine q_skip (by kernel_rfl) ?_
              refine q_skip (by kernel_rfl) ?_
              refine q_skip (by kernel_rfl) ?_
              refine q_skip (by kernel_rfl) ?_
              refine q_skip (by kernel_rfl) ?_
              refine q_val (.bool false) (by kernel_rfl) (fun _ => by kernel_rfl) ?_
              refine q_val (.bool false) (by kernel_rfl) (fun _ => by kernel_rfl) ?_
              refine q_skip (by kernel_rfl) ?_
              refine q_skip (by kernel_rfl) ?_
              refine q_skip (by kernel_rfl) ?_
              refine q_skip (by kernel_rfl) ?_
              refine q_skip (by kernel_rfl) ?_
              refine q_skip (by kernel_rfl) ?_
              refine q_skip (by kernel_rfl) ?_
              refine q_skip (by kernel_rfl) ?_
              refine q_val (.bool false) (by kernel_rfl) (fun _ => by kernel_rfl) ?_
              refine q_val (.bool false) (by kernel_rfl) (fun _ => by kernel_rfl) ?_
              refine q_nil ?_
              refine fin_seq ?_
              refine ok_ret ?_
              refine fin_ret (.bool false) Tryd.results3 (by kernel_rfl) ?_
              exact fun w hO => by exfalso; first | omega | (have := heq.1 (by omega); contradiction) | (have := heq.2 (by assumption); omega) | (rcases hon with h | h | h <;> omega)
          · skip
            refine s_dec (p := (cmpR b c : Int) = 0) false (by kernel_rfl) (fun _ => by kernel_rfl) (decide_eq_false (h11)) ?_
            refine s_val (.bool false) (by kernel_rfl) (fun _ => by kernel_rfl) ?_
            refine s_val (.int .i64 (cmpR a c)) (by kernel_rfl) (fun _ => by kernel_rfl) ?_
            by_cases h14 : (cmpR a c : Int) = 0
            · skip
              refine s_dec (p := (cmpR a c : Int) = 0) true (by kernel_rfl) (fun _ => by kernel_rfl) (decide_eq_true (h14)) ?_
              refine s_val (.bool false) (by kernel_rfl) (fun _ => by kernel_rfl) ?_
              refine s_val (.bool false) (by kernel_rfl) (fun _ => by kernel_rfl) ?_
              refine s_val (.bool false) (by kernel_rfl) (fun _ => by kernel_rfl) ?_
              refine s_val (.bool false) (by kernel_rfl) (fun _ => by kernel_rfl) ?_
              refine s_nil ?_
              refine fin_seq ?_
              refine ok_seq ?_
              refine ok_draw (by kernel_rfl) (by kernel_rfl) ?_
              refine q_call (k := 7) (args := #[]) (.bool true) (by kernel_rfl) (fun _ => by kernel_rfl) (fun w hO => awake_any w (ht.on hO.below)) ?_
              refine q_val (.bool true) (by kernel_rfl) (fun _ => by kernel_rfl) ?_
              refine q_load 1 ⟨b2, (verV b).cells, 24⟩ (off := 0) (verV b) (by kernel_rfl) rfl (by kernel_rfl) (by kernel_rfl) (by kernel_rfl) ?_
              refine q_load 2 ⟨b1, (verV a).cells, 24⟩ (off := 0) (verV a) (by kernel_rfl) rfl (by kernel_rfl) (by kernel_rfl) (by kernel_rfl) ?_
              refine q_call (k := 6) (args := #[verV b, verV a]) (.int .i64 (cmpR b a)) (by kernel_rfl) (fun _ => by kernel_rfl) (fun w _ => vcompare_any b a w sb.1 sb.2 sa.1 sa.2) ?_
              refine q_val (.int .i64 (cmpR a b)) (by kernel_rfl) (fun _ => by kernel_rfl) ?_
              refine q_sum (k := .i64) ((0 : Int) - (cmpR a b)) (by kernel_rfl) (fun _ => by kernel_rfl) (IntWalk.i64_in _ (by omega)) ?_
              refine q_dec (p := (cmpR b a : Int) = (0 : Int) - (cmpR a b)) true (by kernel_rfl) (fun _ => by kernel_rfl) (decide_eq_true (by omega)) ?_
              refine q_val (.bool true) (by kernel_rfl) (fun _ => by kernel_rfl) ?_
              refine q_val (.bool true) (by kernel_rfl) (fun _ => by kernel_rfl) ?_
              refine q_val (.bool false) (by kernel_rfl) (fun _ => by kernel_rfl) ?_
              refine q_val (.bool false) (by kernel_rfl) (fun _ => by kernel_rfl) ?_
              refine q_val (.bool false) (by kernel_rfl) (fun _ => by kernel_rfl) ?_
              refine q_skip (by kernel_rfl) ?_
              refine q_skip (by kernel_rfl) ?_
              refine q_skip (by kernel_rfl) ?_
              refine q_skip (by kernel_rfl) ?_
              refine q_val (.bool false) (by kernel_rfl) (fun _ => by kernel_rfl) ?_
              refine q_val (.bool false) (by kernel_rfl) (fun _ => by kernel_rfl) ?_
              refine q_skip (by kernel_rfl) ?_
              refine q_skip (by kernel_rfl) ?_
              refine q_skip (by kernel_rfl) ?_
              refine q_skip (by kernel_rfl) ?_
              refine q_skip (by kernel_rfl) ?_
              refine q_skip (by kernel_rfl) ?_
              refine q_val (.bool false) (by kernel_rfl) (fun _ => by kernel_rfl) ?_
              refine q_val (.bool false) (by kernel_rfl) (fun _ => by kernel_rfl) ?_
              refine q_skip (by kernel_rfl) ?_
              refine q_skip (by kernel_rfl) ?_
              refine q_skip (by kernel_rfl) ?_
              refine q_skip (by kernel_rfl) ?_
              refine q_skip (by kernel_rfl) ?_
              refine q_skip (by kernel_rfl) ?_
              refine q_skip (by kernel_rfl) ?_
              refine q_skip (by kernel_rfl) ?_
              refine q_val (.bool false) (by kernel_rfl) (fun _ => by kernel_rfl) ?_
              refine q_val (.bool false) (by kernel_rfl) (fun _ => by kernel_rfl) ?_
              refine q_nil ?_
              refine fin_seq ?_
              refine ok_ret ?_
              refine fin_ret (.bool false) Tryd.results3 (by kernel_rfl) ?_
              exact fun w hO => by exfalso; first | omega | (have := heq.1 (by omega); contradiction) | (have := heq.2 (by assumption); omega) | (rcases hon with h | h | h <;> omega)
            · skip
              refine s_dec (p := (cmpR a c : Int) = 0) false (by kernel_rfl) (fun _ => by kernel_rfl) (decide_eq_false (h14)) ?_
              refine s_val (.bool true) (by kernel_rfl) (fun _ => by kernel_rfl) ?_
              refine s_val (.bool true) (by kernel_rfl) (fun _ => by kernel_rfl) ?_
              refine s_val (.bool true) (by kernel_rfl) (fun _ => by kernel_rfl) ?_
              refine s_val (.bool true) (by kernel_rfl) (fun _ => by kernel_rfl) ?_
              refine s_nil ?_
              refine fin_seq ?_
              refine ok_seq ?_
              refine ok_draw (by kernel_rfl) (by kernel_rfl) ?_
              refine q_call (k := 7) (args := #[]) (.bool true) (by kernel_rfl) (fun _ => by kernel_rfl) (fun w hO => awake_any w (ht.on hO.below)) ?_
              refine q_val (.bool true) (by kernel_rfl) (fun _ => by kernel_rfl) ?_
              refine q_load 1 ⟨b2, (verV b).cells, 24⟩ (off := 0) (verV b) (by kernel_rfl) rfl (by kernel_rfl) (by kernel_rfl) (by kernel_rfl) ?_
              refine q_load 2 ⟨b1, (verV a).cells, 24⟩ (off := 0) (verV a) (by kernel_rfl) rfl (by kernel_rfl) (by kernel_rfl) (by kernel_rfl) ?_
              refine q_call (k := 6) (args := #[verV b, verV a]) (.int .i64 (cmpR b a)) (by kernel_rfl) (fun _ => by kernel_rfl) (fun w _ => vcompare_any b a w sb.1 sb.2 sa.1 sa.2) ?_
              refine q_val (.int .i64 (cmpR a b)) (by kernel_rfl) (fun _ => by kernel_rfl) ?_
              refine q_sum (k := .i64) ((0 : Int) - (cmpR a b)) (by kernel_rfl) (fun _ => by kernel_rfl) (IntWalk.i64_in _ (by omega)) ?_
              refine q_dec (p := (cmpR b a : Int) = (0 : Int) - (cmpR a b)) true (by kernel_rfl) (fun _ => by kernel_rfl) (decide_eq_true (by omega)) ?_
              refine q_val (.bool true) (by kernel_rfl) (fun _ => by kernel_rfl) ?_
              refine q_val (.bool true) (by kernel_rfl) (fun _ => by kernel_rfl) ?_
              refine q_val (.bool true) (by kernel_rfl) (fun _ => by kernel_rfl) ?_
              refine q_val (.bool true) (by kernel_rfl) (fun _ => by kernel_rfl) ?_
              refine q_val (.bool true) (by kernel_rfl) (fun _ => by kernel_rfl) ?_
              refine q_load 2 ⟨b1, (verV a).cells, 24⟩ (off := 0) (verV a) (by kernel_rfl) rfl (by kernel_rfl) (by kernel_rfl) (by kernel_rfl) ?_
              refine q_load 2 ⟨b1, (verV a).cells, 24⟩ (off := 0) (verV a) (by kernel_rfl) rfl (by kernel_rfl) (by kernel_rfl) (by kernel_rfl) ?_
              refine q_call (k := 6) (args := #[verV a, verV a]) (.int .i64 (cmpR a a)) (by kernel_rfl) (fun _ => by kernel_rfl) (fun w _ => vcompare_any a a w sa.1 sa.2 sa.1 sa.2) ?_
              refine q_dec (p := (cmpR a a : Int) = 0) true (by kernel_rfl) (fun _ => by kernel_rfl) (decide_eq_true (hself)) ?_
              refine q_val (.bool true) (by kernel_rfl) (fun _ => by kernel_rfl) ?_
              refine q_val (.bool true) (by kernel_rfl) (fun _ => by kernel_rfl) ?_
              refine q_load 2 ⟨b1, (verV a).cells, 24⟩ (off := 0) (verV a) (by kernel_rfl) rfl (by kernel_rfl) (by kernel_rfl) (by kernel_rfl) ?_
              refine q_call (k := 8) (args := #[verV a]) (verV (coreV a)) (by kernel_rfl) (fun _ => by kernel_rfl) (fun w _ => core_any a w sa.1) ?_
              refine q_load 1 ⟨b2, (verV b).cells, 24⟩ (off := 0) (verV b) (by kernel_rfl) rfl (by kernel_rfl) (by kernel_rfl) (by kernel_rfl) ?_
              refine q_call (k := 6) (args := #[verV (coreV a), verV b]) (.int .i64 (cmpR (coreV a) b)) (by kernel_rfl) (fun _ => by kernel_rfl) (fun w _ => vcompare_any (coreV a) b w (coreV_short sa).1 (coreV_short sa).2 sb.1 sb.2) ?_
              refine q_val (.int .i64 (cmpR a b)) (by kernel_rfl) (fun _ => by kernel_rfl) ?_
              refine q_dec (p := (cmpR (coreV a) b : Int) = cmpR a b) true (by kernel_rfl) (fun _ => by kernel_rfl) (decide_eq_true (hcore)) ?_
              refine q_val (.bool true) (by kernel_rfl) (fun _ => by kernel_rfl) ?_
              refine q_val (.bool true) (by kernel_rfl) (fun _ => by kernel_rfl) ?_
              refine q_val (.int .i64 (cmpR a b)) (by kernel_rfl) (fun _ => by kernel_rfl) ?_
              refine q_dec (p := (cmpR a b : Int) = 0) true (by kernel_rfl) (fun _ => by kernel_rfl) (decide_eq_true (h10)) ?_
              refine q_load 2 ⟨b1, (verV a).cells, 24⟩ (off := 0) (verV a) (by kernel_rfl) rfl (by kernel_rfl) (by kernel_rfl) (by kernel_rfl) ?_
              refine q_call (k := 8) (args := #[verV a]) (verV (coreV a)) (by kernel_rfl) (fun _ => by kernel_rfl) (fun w _ => core_any a w sa.1) ?_
              refine q_load 1 ⟨b2, (verV b).cells, 24⟩ (off := 0) (verV b) (by kernel_rfl) rfl (by kernel_rfl) (by kernel_rfl) (by kernel_rfl) ?_
              refine q_call (k := 8) (args := #[verV b]) (verV (coreV b)) (by kernel_rfl) (fun _ => by kernel_rfl) (fun w _ => core_any b w sb.1) ?_
              by_cases h15 : (coreV a) = (coreV b)
              · skip
                refine q_val (.bool true) (by kernel_rfl) (op_eq_ver rfl (by kernel_rfl) (by kernel_rfl) (decide_eq_true (h15))) ?_
                refine q_val (.bool true) (by kernel_rfl) (fun _ => by kernel_rfl) ?_
                refine q_val (.bool true) (by kernel_rfl) (fun _ => by kernel_rfl) ?_
                refine q_val (.bool true) (by kernel_rfl) (fun _ => by kernel_rfl) ?_
                refine q_nil ?_
                refine fin_seq ?_
                refine ok_ret ?_
                refine fin_ret (.bool true) Tryd.results3 (by kernel_rfl) ?_
                exact fun w hO => ⟨rfl, hO.below⟩
              · skip
                refine q_val (.bool false) (by kernel_rfl) (op_eq_ver rfl (by kernel_rfl) (by kernel_rfl) (decide_eq_false (h15))) ?_
                refine q_val (.bool false) (by kernel_rfl) (fun _ => by kernel_rfl) ?_
                refine q_val (.bool false) (by kernel_rfl) (fun _ => by kernel_rfl) ?_
                refine q_val (.bool false) (by kernel_rfl) (fun _ => by kernel_rfl) ?_
                refine q_nil ?_
                refine fin_seq ?_
                refine ok_ret ?_
                refine fin_ret (.bool false) Tryd.results3 (by kernel_rfl) ?_
                exact fun w hO => by exfalso; first | omega | (have := heq.1 (by omega); contradiction) | (have := heq.2 (by assumption); omega) | (rcases hon with h | h | h <;> omega)
        · skip
          refine s_dec (p := (cmpR a b : Int) = 0) false (by kernel_rfl) (fun _ => by kernel_rfl) (decide_eq_false (h10)) ?_
          refine s_val (.bool false) (by kernel_rfl) (fun _ => by kernel_rfl) ?_
          refine s_skip (by kernel_rfl) ?_
          refine s_skip (by kernel_rfl) ?_
          refine s_val (.bool false) (by kernel_rfl) (fun _ => by kernel_rfl) ?_
          refine s_val (.int .i64 (cmpR a c)) (by kernel_rfl) (fun _ => by kernel_rfl) ?_
          by_cases h16 : (cmpR a c : Int) = 0
          · skip
            refine s_dec (p := (cmpR a c : Int) = 0) true (by kernel_rfl) (fun _ => by kernel_rfl) (decide_eq_true (h16)) ?_
            refine s_val (.bool false) (by kernel_rfl) (fun _ => by kernel_rfl) ?_
            refine s_val (.bool false) (by kernel_rfl) (fun _ => by kernel_rfl) ?_
            refine s_val (.bool false) (by kernel_rfl) (fun _ => by kernel_rfl) ?_
            refine s_val (.bool false) (by kernel_rfl) (fun _ => by kernel_rfl) ?_
            refine s_nil ?_
            refine fin_seq ?_
            refine ok_seq ?_
            refine ok_draw (by kernel_rfl) (by kernel_rfl) ?_
            refine q_call (k := 7) (args := #[]) (.bool true) (by kernel_rfl) (fun _ => by kernel_rfl) (fun w hO => awake_any w (ht.on hO.below)) ?_
            refine q_val (.bool true) (by kernel_rfl) (fun _ => by kernel_rfl) ?_
            refine q_load 1 ⟨b2, (verV b).cells, 24⟩ (off := 0) (verV b) (by kernel_rfl) rfl (by kernel_rfl) (by kernel_rfl) (by kernel_rfl) ?_
            refine q_load 2 ⟨b1, (verV a).cells, 24⟩ (off := 0) (verV a) (by kernel_rfl) rfl (by kernel_rfl) (by kernel_rfl) (by kernel_rfl) ?_
            refine q_call (k := 6) (args := #[verV b, verV a]) (.int .i64 (cmpR b a)) (by kernel_rfl) (fun _ => by kernel_rfl) (fun w _ => vcompare_any b a w sb.1 sb.2 sa.1 sa.2) ?_
            refine q_val (.int .i64 (cmpR a b)) (by kernel_rfl) (fun _ => by kernel_rfl) ?_
            refine q_sum (k := .i64) ((0 : Int) - (cmpR a b)) (by kernel_rfl) (fun _ => by kernel_rfl) (IntWalk.i64_in _ (by omega)) ?_
            refine q_dec (p := (cmpR b a : Int) = (0 : Int) - (cmpR a b)) true (by kernel_rfl) (fun _ => by kernel_rfl) (decide_eq_true (by omega)) ?_
            refine q_val (.bool true) (by kernel_rfl) (fun _ => by kernel_rfl) ?_
            refine q_val (.bool true) (by kernel_rfl) (fun _ => by kernel_rfl) ?_
            refine q_val (.bool false) (by kernel_rfl) (fun _ => by kernel_rfl) ?_
            refine q_val (.bool false) (by kernel_rfl) (fun _ => by kernel_rfl) ?_
            refine q_val (.bool false) (by kernel_rfl) (fun _ => by kernel_rfl) ?_
            refine q_skip (by kernel_rfl) ?_
            refine q_skip (by kernel_rfl) ?_
            refine q_skip (by kernel_rfl) ?_
            refine q_skip (by kernel_rfl) ?_
            refine q_val (.bool false) (by kernel_rfl) (fun _ => by kernel_rfl) ?_
            refine q_val (.bool false) (by kernel_rfl) (fun _ => by kernel_rfl) ?_
            refine q_skip (by kernel_rfl) ?_
            refine q_skip (by kernel_rfl) ?_
            refine q_skip (by kernel_rfl) ?_
            refine q_skip (by kernel_rfl) ?_
            refine q_skip (by kernel_rfl) ?_
            refine q_skip (by kernel_rfl) ?_
            refine q_val (.bool false) (by kernel_rfl) (fun _ => by kernel_rfl) ?_
            refine q_val (.bool false) (by kernel_rfl) (fun _ => by kernel_rfl) ?_
            refine q_skip (by kernel_rfl) ?_
            refine q_skip (by kernel_rfl) ?_
            refine q_skip (by kernel_rfl) ?_
            refine q_skip (by kernel_rfl) ?_
            refine q_skip (by kernel_rfl) ?_
            refine q_skip (by kernel_rfl) ?_
            refine q_skip (by kernel_rfl) ?_
            refine q_skip (by kernel_rfl) ?_
            refine q_val (.bool false) (by kernel_rfl) (fun _ => by kernel_rfl) ?_
            refine q_val (.bool false) (by kernel_rfl) (fun _ => by kernel_rfl) ?_
            refine q_nil ?_
            refine fin_seq ?_
            refine ok_ret ?_
            refine fin_ret (.bool false) Tryd.results3 (by kernel_rfl) ?_
            exact fun w hO => by exfalso; first | omega | (have := heq.1 (by omega); contradiction) | (have := heq.2 (by assumption); omega) | (rcases hon with h | h | h <;> omega)
          · skip
            refine s_dec (p := (cmpR a c : Int) = 0) false (by kernel_rfl) (fun _ => by kernel_rfl) (decide_eq_false (h16)) ?_
            refine s_val (.bool true) (by kernel_rfl) (fun _ => by kernel_rfl) ?_
            refine s_val (.bool true) (by kernel_rfl) (fun _ => by kernel_rfl) ?_
            refine s_val (.bool true) (by kernel_rfl) (fun _ => by kernel_rfl) ?_
            refine s_val (.bool true) (by kernel_rfl) (fun _ => by kernel_rfl) ?_
            refine s_nil ?_
            refine fin_seq ?_
            refine ok_seq ?_
            refine ok_draw (by kernel_rfl) (by kernel_rfl) ?_
            refine q_call (k := 7) (args := #[]) (.bool true) (by kernel_rfl) (fun _ => by kernel_rfl) (fun w hO => awake_any w (ht.on hO.below)) ?_
            refine q_val (.bool true) (by kernel_rfl) (fun _ => by kernel_rfl) ?_
            refine q_load 1 ⟨b2, (verV b).cells, 24⟩ (off := 0) (verV b) (by kernel_rfl) rfl (by kernel_rfl) (by kernel_rfl) (by kernel_rfl) ?_
            refine q_load 2 ⟨b1, (verV a).cells, 24⟩ (off := 0) (verV a) (by kernel_rfl) rfl (by kernel_rfl) (by kernel_rfl) (by kernel_rfl) ?_
            refine q_call (k := 6) (args := #[verV b, verV a]) (.int .i64 (cmpR b a)) (by kernel_rfl) (fun _ => by kernel_rfl) (fun w _ => vcompare_any b a w sb.1 sb.2 sa.1 sa.2) ?_
            refine q_val (.int .i64 (cmpR a b)) (by kernel_rfl) (fun _ => by kernel_rfl) ?_
            refine q_sum (k := .i64) ((0 : Int) - (cmpR a b)) (by kernel_rfl) (fun _ => by kernel_rfl) (IntWalk.i64_in _ (by omega)) ?_
            refine q_dec (p := (cmpR b a : Int) = (0 : Int) - (cmpR a b)) true (by kernel_rfl) (fun _ => by kernel_rfl) (decide_eq_true (by omega)) ?_
            refine q_val (.bool true) (by kernel_rfl) (fun _ => by kernel_rfl) ?_
            refine q_val (.bool true) (by kernel_rfl) (fun _ => by kernel_rfl) ?_
            refine q_val (.bool true) (by kernel_rfl) (fun _ => by kernel_rfl) ?_
            refine q_val (.bool true) (by kernel_rfl) (fun _ => by kernel_rfl) ?_
            refine q_val (.bool true) (by kernel_rfl) (fun _ => by kernel_rfl) ?_
            refine q_load 2 ⟨b1, (verV a).cells, 24⟩ (off := 0) (verV a) (by kernel_rfl) rfl (by kernel_rfl) (by kernel_rfl) (by kernel_rfl) ?_
            refine q_load 2 ⟨b1, (verV a).cells, 24⟩ (off := 0) (verV a) (by kernel_rfl) rfl (by kernel_rfl) (by kernel_rfl) (by kernel_rfl) ?_
            refine q_call (k := 6) (args := #[verV a, verV a]) (.int .i64 (cmpR a a)) (by kernel_rfl) (fun _ => by kernel_rfl) (fun w _ => vcompare_any a a w sa.1 sa.2 sa.1 sa.2) ?_
            refine q_dec (p := (cmpR a a : Int) = 0) true (by kernel_rfl) (fun _ => by kernel_rfl) (decide_eq_true (hself)) ?_
            refine q_val (.bool true) (by kernel_rfl) (fun _ => by kernel_rfl) ?_
            refine q_val (.bool true) (by kernel_rfl) (fun _ => by kernel_rfl) ?_
            refine q_load 2 ⟨b1, (verV a).cells, 24⟩ (off := 0) (verV a) (by kernel_rfl) rfl (by kernel_rfl) (by kernel_rfl) (by kernel_rfl) ?_
            refine q_call (k := 8) (args := #[verV a]) (verV (coreV a)) (by kernel_rfl) (fun _ => by kernel_rfl) (fun w _ => core_any a w sa.1) ?_
            refine q_load 1 ⟨b2, (verV b).cells, 24⟩ (off := 0) (verV b) (by kernel_rfl) rfl (by kernel_rfl) (by kernel_rfl) (by kernel_rfl) ?_
            refine q_call (k := 6) (args := #[verV (coreV a), verV b]) (.int .i64 (cmpR (coreV a) b)) (by kernel_rfl) (fun _ => by kernel_rfl) (fun w _ => vcompare_any (coreV a) b w (coreV_short sa).1 (coreV_short sa).2 sb.1 sb.2) ?_
            refine q_val (.int .i64 (cmpR a b)) (by kernel_rfl) (fun _ => by kernel_rfl) ?_
            refine q_dec (p := (cmpR (coreV a) b : Int) = cmpR a b) true (by kernel_rfl) (fun _ => by kernel_rfl) (decide_eq_true (hcore)) ?_
            refine q_val (.bool true) (by kernel_rfl) (fun _ => by kernel_rfl) ?_
            refine q_val (.bool true) (by kernel_rfl) (fun _ => by kernel_rfl) ?_
            refine q_val (.int .i64 (cmpR a b)) (by kernel_rfl) (fun _ => by kernel_rfl) ?_
            refine q_dec (p := (cmpR a b : Int) = 0) false (by kernel_rfl) (fun _ => by kernel_rfl) (decide_eq_false (h10)) ?_
            refine q_load 2 ⟨b1, (verV a).cells, 24⟩ (off := 0) (verV a) (by kernel_rfl) rfl (by kernel_rfl) (by kernel_rfl) (by kernel_rfl) ?_
            refine q_call (k := 8) (args := #[verV a]) (verV (coreV a)) (by kernel_rfl) (fun _ => by kernel_rfl) (fun w _ => core_any a w sa.1) ?_
            refine q_load 1 ⟨b2, (verV b).cells, 24⟩ (off := 0) (verV b) (by kernel_rfl) rfl (by kernel_rfl) (by kernel_rfl) (by kernel_rfl) ?_
            refine q_call (k := 8) (args := #[verV b]) (verV (coreV b)) (by kernel_rfl) (fun _ => by kernel_rfl) (fun w _ => core_any b w sb.1) ?_
            by_cases h17 : (coreV a) = (coreV b)
            · skip
              refine q_val (.bool true) (by kernel_rfl) (op_eq_ver rfl (by kernel_rfl) (by kernel_rfl) (decide_eq_true (h17))) ?_
              refine q_val (.bool false) (by kernel_rfl) (fun _ => by kernel_rfl) ?_
              refine q_val (.bool false) (by kernel_rfl) (fun _ => by kernel_rfl) ?_
              refine q_val (.bool false) (by kernel_rfl) (fun _ => by kernel_rfl) ?_
              refine q_nil ?_
              refine fin_seq ?_
              refine ok_ret ?_
              refine fin_ret (.bool false) Tryd.results3 (by kernel_rfl) ?_
              exact fun w hO => by exfalso; first | omega | (have := heq.1 (by omega); contradiction) | (have := heq.2 (by assumption); omega) | (rcases hon with h | h | h <;> omega)
            · skip
              refine q_val (.bool false) (by kernel_rfl) (op_eq_ver rfl (by kernel_rfl) (by kernel_rfl) (decide_eq_false (h17))) ?_
              refine q_val (.bool true) (by kernel_rfl) (fun _ => by kernel_rfl) ?_
              refine q_val (.bool true) (by kernel_rfl) (fun _ => by kernel_rfl) ?_
              refine q_val (.bool true) (by kernel_rfl) (fun _ => by kernel_rfl) ?_
              refine q_nil ?_
              refine fin_seq ?_
              refine ok_ret ?_
              refine fin_ret (.bool true) Tryd.results3 (by kernel_rfl) ?_
              exact fun w hO => ⟨rfl, hO.below⟩
      · skip
        refine s_dec (p := (cmpR a c : Int) ≤ 0) false (by kernel_rfl) (fun _ => by kernel_rfl) (decide_eq_false (h9)) ?_
        refine s_val (.bool false) (by kernel_rfl) (fun _ => by kernel_rfl) ?_
        refine s_skip (by kernel_rfl) ?_
        refine s_skip (by kernel_rfl) ?_
        refine s_skip (by kernel_rfl) ?_
        refine s_skip (by kernel_rfl) ?_
        refine s_skip (by kernel_rfl) ?_
        refine s_skip (by kernel_rfl) ?_
        refine s_skip (by kernel_rfl) ?_
        refine s_skip (by kernel_rfl) ?_
        refine s_skip (by kernel_rfl) ?_
        refine s_val (.bool false) (by kernel_rfl) (fun _ => by kernel_rfl) ?_
        refine s_val (.bool false) (by kernel_rfl) (fun _ => by kernel_rfl) ?_
        refine s_val (.bool false) (by kernel_rfl) (fun _ => by kernel_rfl) ?_
        refine s_nil ?_
        refine fin_seq ?_
        refine ok_seq ?_
        refine ok_draw (by kernel_rfl) (by kernel_rfl) ?_
        refine q_call (k := 7) (args := #[]) (.bool true) (by kernel_rfl) (fun _ => by kernel_rfl) (fun w hO => awake_any w (ht.on hO.below)) ?_
        refine q_val (.bool true) (by kernel_rfl) (fun _ => by kernel_rfl) ?_
        refine q_load 1 ⟨b2, (verV b).cells, 24⟩ (off := 0) (verV b) (by kernel_rfl) rfl (by kernel_rfl) (by kernel_rfl) (by kernel_rfl) ?_
        refine q_load 2 ⟨b1, (verV a).cells, 24⟩ (off := 0) (verV a) (by kernel_rfl) rfl (by kernel_rfl) (by kernel_rfl) (by kernel_rfl) ?_
        refine q_call (k := 6) (args := #[verV b, verV a]) (.int .i64 (cmpR b a)) (by kernel_rfl) (fun _ => by kernel_rfl) (fun w _ => vcompare_any b a w sb.1 sb.2 sa.1 sa.2) ?_
        refine q_val (.int .i64 (cmpR a b)) (by kernel_rfl) (fun _ => by kernel_rfl) ?_
        refine q_sum (k := .i64) ((0 : Int) - (cmpR a b)) (by kernel_rfl) (fun _ => by kernel_rfl) (IntWalk.i64_in _ (by omega)) ?_
        refine q_dec (p := (cmpR b a : Int) = (0 : Int) - (cmpR a b)) true (by kernel_rfl) (fun _ => by kernel_rfl) (decide_eq_true (by omega)) ?_
        refine q_val (.bool true) (by kernel_rfl) (fun _ => by kernel_rfl) ?_
        refine q_val (.bool true) (by kernel_rfl) (fun _ => by kernel_rfl) ?_
        refine q_val (.bool false) (by kernel_rfl) (fun _ => by kernel_rfl) ?_
        refine q_val (.bool false) (by kernel_rfl) (fun _ => by kernel_rfl) ?_
        refine q_val (.bool false) (by kernel_rfl) (fun _ => by kernel_rfl) ?_
        refine q_skip (by kernel_rfl) ?_
        refine q_skip (by kernel_rfl) ?_
        refine q_skip (by kernel_rfl) ?_
        refine q_skip (by kernel_rfl) ?_
        refine q_val (.bool false) (by kernel_rfl) (fun _ => by kernel_rfl) ?_
        refine q_val (.bool false) (by kernel_rfl) (fun _ => by kernel_rfl) ?_
        refine q_skip (by kernel_rfl) ?_
        refine q_skip (by kernel_rfl) ?_
        refine q_skip (by kernel_rfl) ?_
        refine q_skip (by kernel_rfl) ?_
        refine q_skip (by kernel_rfl) ?_
        refine q_skip (by kernel_rfl) ?_
        refine q_val (.bool false) (by kernel_rfl) (fun _ => by kernel_rfl) ?_
        refine q_val (.bool false) (by kernel_rfl) (fun _ => by kernel_rfl) ?_
        refine q_skip (by kernel_rfl) ?_
        refine q_skip (by kernel_rfl) ?_
        refine q_skip (by kernel_rfl) ?_
        refine q_skip (by kernel_rfl) ?_
        refine q_skip (by kernel_rfl) ?_
        refine q_skip (by kernel_rfl) ?_
        refine q_skip (by kernel_rfl) ?_
        refine q_skip (by kernel_rfl) ?_
        refine q_val (.bool false) (by kernel_rfl) (fun _ => by kernel_rfl) ?_
        refine q_val (.bool false) (by kernel_rfl) (fun _ => by kernel_rfl) ?_
        refine q_nil ?_
        refine fin_seq ?_
        refine ok_ret ?_
        refine fin_ret (.bool false) Tryd.results3 (by kernel_rfl) ?_
        exact fun w hO => by exfalso; first | omega | (have := heq.1 (by omega); contradiction) | (have := heq.2 (by assumption); omega) | (rcases hon with h | h | h <;> omega)
end Go.Proofs.YtndjdmbbndcohaaDoor
