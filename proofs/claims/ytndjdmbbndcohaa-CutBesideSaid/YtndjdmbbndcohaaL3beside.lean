/-
  CutBeside: for every list of numbers the law returns true, and nothing that was there is changed. No condition.
-/
import Derived.Test.YtndjdmbbndcohaaP3
namespace Go.Proofs.Ytndjdmbbndcohaa
open Go.RowKit
set_option maxRecDepth 100000
set_option linter.unusedVariables false
set_option linter.unusedSimpArgs false
set_option maxHeartbeats 4000000
theorem cutBeside.law (W : World) (v : Value) (l : List Int) (hv : ReadsI W W.heap.size v l) (hl : l.length ≤ maxLen) : Calls Try.prog 7 #[v] W fun e w' => e = .returned (.bool true) ∧ Below W.heap.size W w' := by
  unfold maxLen at hl
  obtain ⟨a, ha⟩ : ∃ x, genV l 0 = x := ⟨_, rfl⟩
  have ma := gen_may l 0
  have sa := genS l 0
  rw [ha] at ma sa
  obtain ⟨u, hu⟩ : ∃ x, genV l 5 = x := ⟨_, rfl⟩
  have mu := gen_may l 5
  have su := genS l 5
  rw [hu] at mu su
  have hbe := beside ma mu
  have hbs := beside ma ma
  rw [order_self, show decide ((0 : Int) = 0) = true from rfl] at hbs
  have ss : (Sp.mk ⟨0, coreV a, false⟩ ⟨0, coreV a, true⟩).short := ⟨⟨sa.1, by show (0 : Nat) ≤ _; omega⟩, ⟨sa.1, by show (0 : Nat) ≤ _; omega⟩⟩
  refine calls_ok (n := 38) Try.func7 rfl (by kernel_rfl) (by kernel_rfl) ?_
  refine ok_seq ?_
  refine ok_region ?_
  refine s_val (.bool false) (by kernel_rfl) (fun _ => by kernel_rfl) ?_
  refine s_nil ?_
  refine fin_seq ?_
  refine ok_seq ?_
  refine ok_region ?_
  refine s_val (v) (by kernel_rfl) (fun _ => by kernel_rfl) ?_
  refine s_call (k := 22) (args := #[v, .int .i64 0]) (verV a) (by kernel_rfl) (fun _ => by kernel_rfl) (fun w hO => ret_v (congrArg verV ha) (gen_any v l 0 w ((hv.below hO.below).more hO.below.size) hl (by omega))) ?_
  refine s_val (v) (by kernel_rfl) (fun _ => by kernel_rfl) ?_
  refine s_call (k := 22) (args := #[v, .int .i64 5]) (verV u) (by kernel_rfl) (fun _ => by kernel_rfl) (fun w hO => ret_v (congrArg verV hu) (gen_any v l 5 w ((hv.below hO.below).more hO.below.size) hl (by omega))) ?_
  refine s_alloc_at (.agg #[.int .i64 0, .int .i64 0, .int .i64 0, .string ⟨#[]⟩, .string ⟨#[]⟩]) (by kernel_rfl) rfl (by kernel_rfl) (fun b1 => ?_)
  refine s_alloc_at (.agg #[.int .i64 0, .int .i64 0, .int .i64 0, .string ⟨#[]⟩, .string ⟨#[]⟩]) (by kernel_rfl) rfl (by kernel_rfl) (fun b2 => ?_)
  refine s_store_at 1 ⟨b1, #[.int .i64 0, .int .i64 0, .int .i64 0, .string ⟨#[]⟩, .string ⟨#[]⟩], 23⟩ (off := 0) (verV a) (by kernel_rfl) rfl rfl (by kernel_rfl) (by kernel_rfl) (by kernel_rfl) (by kernel_rfl) (by kernel_rfl) ?_
  refine s_store_at 0 ⟨b2, #[.int .i64 0, .int .i64 0, .int .i64 0, .string ⟨#[]⟩, .string ⟨#[]⟩], 23⟩ (off := 0) (verV u) (by kernel_rfl) rfl rfl (by kernel_rfl) (by kernel_rfl) (by kernel_rfl) (by kernel_rfl) (by kernel_rfl) ?_
  refine s_nil ?_
  refine fin_seq ?_
  refine ok_seq ?_
  refine ok_region ?_
  refine s_load 1 ⟨b1, (verV a).cells, 23⟩ (off := 0) (verV a) (by kernel_rfl) rfl (by kernel_rfl) (by kernel_rfl) (by kernel_rfl) ?_
  refine s_call (k := 23) (args := #[verV a]) (verV (coreV a)) (by kernel_rfl) (fun _ => by kernel_rfl) (fun w _ => core_any a w sa.1) ?_
  refine s_alloc_at (.agg #[.int .i64 0, .int .i64 0, .int .i64 0, .string ⟨#[]⟩, .string ⟨#[]⟩]) (by kernel_rfl) rfl (by kernel_rfl) (fun b3 => ?_)
  refine s_store_at 0 ⟨b3, #[.int .i64 0, .int .i64 0, .int .i64 0, .string ⟨#[]⟩, .string ⟨#[]⟩], 23⟩ (off := 0) (verV (coreV a)) (by kernel_rfl) rfl rfl (by kernel_rfl) (by kernel_rfl) (by kernel_rfl) (by kernel_rfl) (by kernel_rfl) ?_
  refine s_nil ?_
  refine fin_seq ?_
  refine ok_seq ?_
  refine ok_region ?_
  refine s_load 0 ⟨b3, (verV (coreV a)).cells, 23⟩ (off := 0) (verV (coreV a)) (by kernel_rfl) rfl (by kernel_rfl) (by kernel_rfl) (by kernel_rfl) ?_
  refine s_val (.agg #[.int .i64 0, .int .i64 ((coreV a).maj), .int .i64 ((coreV a).min), .int .i64 ((coreV a).pat), .string (mkS (coreV a).pre), .string (mkS (coreV a).build), .bool false]) (by kernel_rfl) (fun _ => by kernel_rfl) ?_
  refine s_load 0 ⟨b3, (verV (coreV a)).cells, 23⟩ (off := 0) (verV (coreV a)) (by kernel_rfl) rfl (by kernel_rfl) (by kernel_rfl) (by kernel_rfl) ?_
  refine s_val (.agg #[.int .i64 0, .int .i64 ((coreV a).maj), .int .i64 ((coreV a).min), .int .i64 ((coreV a).pat), .string (mkS (coreV a).pre), .string (mkS (coreV a).build), .bool true]) (by kernel_rfl) (fun _ => by kernel_rfl) ?_
  refine s_val (.agg #[.int .i64 0, .int .i64 ((coreV a).maj), .int .i64 ((coreV a).min), .int .i64 ((coreV a).pat), .string (mkS (coreV a).pre), .string (mkS (coreV a).build), .bool false, .int .i64 0, .int .i64 ((coreV a).maj), .int .i64 ((coreV a).min), .int .i64 ((coreV a).pat), .string (mkS (coreV a).pre), .string (mkS (coreV a).build), .bool true]) (by kernel_rfl) (fun _ => by kernel_rfl) ?_
  refine s_alloc_at (.agg #[.int .i64 0, .int .i64 0, .int .i64 0, .int .i64 0, .string ⟨#[]⟩, .string ⟨#[]⟩, .bool false, .int .i64 0, .int .i64 0, .int .i64 0, .int .i64 0, .string ⟨#[]⟩, .string ⟨#[]⟩, .bool false]) (by kernel_rfl) rfl (by kernel_rfl) (fun b4 => ?_)
  refine s_store_at 0 ⟨b4, #[.int .i64 0, .int .i64 0, .int .i64 0, .int .i64 0, .string ⟨#[]⟩, .string ⟨#[]⟩, .bool false, .int .i64 0, .int .i64 0, .int .i64 0, .int .i64 0, .string ⟨#[]⟩, .string ⟨#[]⟩, .bool false], 32⟩ (off := 0) (.agg #[.int .i64 0, .int .i64 ((coreV a).maj), .int .i64 ((coreV a).min), .int .i64 ((coreV a).pat), .string (mkS (coreV a).pre), .string (mkS (coreV a).build), .bool false, .int .i64 0, .int .i64 ((coreV a).maj), .int .i64 ((coreV a).min), .int .i64 ((coreV a).pat), .string (mkS (coreV a).pre), .string (mkS (coreV a).build), .bool true]) (by kernel_rfl) rfl rfl (by kernel_rfl) (by kernel_rfl) (by kernel_rfl) (by kernel_rfl) (by kernel_rfl) ?_
  refine s_nil ?_
  refine fin_seq ?_
  refine ok_seq ?_
  refine ok_draw (by kernel_rfl) (by kernel_rfl) ?_
  refine q_call (k := 10) (args := #[]) (.bool true) (by kernel_rfl) (fun _ => by kernel_rfl) (fun w _ => awake3_any w) ?_
  refine q_val (.bool true) (by kernel_rfl) (fun _ => by kernel_rfl) ?_
  refine q_load 0 ⟨b4, #[.int .i64 0, .int .i64 ((coreV a).maj), .int .i64 ((coreV a).min), .int .i64 ((coreV a).pat), .string (mkS (coreV a).pre), .string (mkS (coreV a).build), .bool false, .int .i64 0, .int .i64 ((coreV a).maj), .int .i64 ((coreV a).min), .int .i64 ((coreV a).pat), .string (mkS (coreV a).pre), .string (mkS (coreV a).build), .bool true], 32⟩ (off := 0) (.agg #[.int .i64 0, .int .i64 ((coreV a).maj), .int .i64 ((coreV a).min), .int .i64 ((coreV a).pat), .string (mkS (coreV a).pre), .string (mkS (coreV a).build), .bool false, .int .i64 0, .int .i64 ((coreV a).maj), .int .i64 ((coreV a).min), .int .i64 ((coreV a).pat), .string (mkS (coreV a).pre), .string (mkS (coreV a).build), .bool true]) (by kernel_rfl) rfl (by kernel_rfl) (by kernel_rfl) (by kernel_rfl) ?_
  refine q_call (k := 17) (args := #[.agg #[.int .i64 0, .int .i64 ((coreV a).maj), .int .i64 ((coreV a).min), .int .i64 ((coreV a).pat), .string (mkS (coreV a).pre), .string (mkS (coreV a).build), .bool false, .int .i64 0, .int .i64 ((coreV a).maj), .int .i64 ((coreV a).min), .int .i64 ((coreV a).pat), .string (mkS (coreV a).pre), .string (mkS (coreV a).build), .bool true]]) (.bool true) (by kernel_rfl) (fun _ => by kernel_rfl) (fun w _ => ret_b hbe.1 (spanMay_any (Sp.mk ⟨0, coreV a, false⟩ ⟨0, coreV a, true⟩) w ss)) ?_
  refine q_val (.bool true) (by kernel_rfl) (fun _ => by kernel_rfl) ?_
  refine q_val (.bool true) (by kernel_rfl) (fun _ => by kernel_rfl) ?_
  refine q_load 0 ⟨b4, #[.int .i64 0, .int .i64 ((coreV a).maj), .int .i64 ((coreV a).min), .int .i64 ((coreV a).pat), .string (mkS (coreV a).pre), .string (mkS (coreV a).build), .bool false, .int .i64 0, .int .i64 ((coreV a).maj), .int .i64 ((coreV a).min), .int .i64 ((coreV a).pat), .string (mkS (coreV a).pre), .string (mkS (coreV a).build), .bool true], 32⟩ (off := 0) (.agg #[.int .i64 0, .int .i64 ((coreV a).maj), .int .i64 ((coreV a).min), .int .i64 ((coreV a).pat), .string (mkS (coreV a).pre), .string (mkS (coreV a).build), .bool false, .int .i64 0, .int .i64 ((coreV a).maj), .int .i64 ((coreV a).min), .int .i64 ((coreV a).pat), .string (mkS (coreV a).pre), .string (mkS (coreV a).build), .bool true]) (by kernel_rfl) rfl (by kernel_rfl) (by kernel_rfl) (by kernel_rfl) ?_
  refine q_load 2 ⟨b2, (verV u).cells, 23⟩ (off := 0) (verV u) (by kernel_rfl) rfl (by kernel_rfl) (by kernel_rfl) (by kernel_rfl) ?_
  refine q_call (k := 19) (args := #[.agg #[.int .i64 0, .int .i64 ((coreV a).maj), .int .i64 ((coreV a).min), .int .i64 ((coreV a).pat), .string (mkS (coreV a).pre), .string (mkS (coreV a).build), .bool false, .int .i64 0, .int .i64 ((coreV a).maj), .int .i64 ((coreV a).min), .int .i64 ((coreV a).pat), .string (mkS (coreV a).pre), .string (mkS (coreV a).build), .bool true], verV u]) (.bool (decide (cmpR a u = 0))) (by kernel_rfl) (fun _ => by kernel_rfl) (fun w _ => ret_b hbe.2 (holdsC_any (Sp.mk ⟨0, coreV a, false⟩ ⟨0, coreV a, true⟩) u w ss su)) ?_
  refine q_load 3 ⟨b1, (verV a).cells, 23⟩ (off := 0) (verV a) (by kernel_rfl) rfl (by kernel_rfl) (by kernel_rfl) (by kernel_rfl) ?_
  refine q_load 2 ⟨b2, (verV u).cells, 23⟩ (off := 0) (verV u) (by kernel_rfl) rfl (by kernel_rfl) (by kernel_rfl) (by kernel_rfl) ?_
  refine q_call (k := 24) (args := #[verV a, verV u]) (.int .i64 (cmpR a u)) (by kernel_rfl) (fun _ => by kernel_rfl) (fun w _ => vcompare_any a u w sa.1 sa.2 su.1 su.2) ?_
  by_cases h1 : (cmpR a u : Int) = 0
  · skip
    refine q_dec (p := (cmpR a u : Int) = 0) true (by kernel_rfl) (fun _ => by kernel_rfl) (decide_eq_true (h1)) ?_
    cases h2 : decide (cmpR a u = 0) with
    | true =>
      refine q_val (.bool true) (by kernel_rfl) (fun _ => by kernel_rfl) ?_
      refine q_val (.bool true) (by kernel_rfl) (fun _ => by kernel_rfl) ?_
      refine q_val (.bool true) (by kernel_rfl) (fun _ => by kernel_rfl) ?_
      refine q_load 0 ⟨b4, #[.int .i64 0, .int .i64 ((coreV a).maj), .int .i64 ((coreV a).min), .int .i64 ((coreV a).pat), .string (mkS (coreV a).pre), .string (mkS (coreV a).build), .bool false, .int .i64 0, .int .i64 ((coreV a).maj), .int .i64 ((coreV a).min), .int .i64 ((coreV a).pat), .string (mkS (coreV a).pre), .string (mkS (coreV a).build), .bool true], 32⟩ (off := 0) (.agg #[.int .i64 0, .int .i64 ((coreV a).maj), .int .i64 ((coreV a).min), .int .i64 ((coreV a).pat), .string (mkS (coreV a).pre), .string (mkS (coreV a).build), .bool false, .int .i64 0, .int .i64 ((coreV a).maj), .int .i64 ((coreV a).min), .int .i64 ((coreV a).pat), .string (mkS (coreV a).pre), .string (mkS (coreV a).build), .bool true]) (by kernel_rfl) rfl (by kernel_rfl) (by kernel_rfl) (by kernel_rfl) ?_
      refine q_load 3 ⟨b1, (verV a).cells, 23⟩ (off := 0) (verV a) (by kernel_rfl) rfl (by kernel_rfl) (by kernel_rfl) (by kernel_rfl) ?_
      refine q_call (k := 19) (args := #[.agg #[.int .i64 0, .int .i64 ((coreV a).maj), .int .i64 ((coreV a).min), .int .i64 ((coreV a).pat), .string (mkS (coreV a).pre), .string (mkS (coreV a).build), .bool false, .int .i64 0, .int .i64 ((coreV a).maj), .int .i64 ((coreV a).min), .int .i64 ((coreV a).pat), .string (mkS (coreV a).pre), .string (mkS (coreV a).build), .bool true], verV a]) (.bool true) (by kernel_rfl) (fun _ => by kernel_rfl) (fun w _ => ret_b hbs.2 (holdsC_any (Sp.mk ⟨0, coreV a, false⟩ ⟨0, coreV a, true⟩) a w ss sa)) ?_
      refine q_val (.bool true) (by kernel_rfl) (fun _ => by kernel_rfl) ?_
      refine q_val (.bool true) (by kernel_rfl) (fun _ => by kernel_rfl) ?_
      refine q_nil ?_
      refine fin_seq ?_
      refine ok_ret ?_
      refine fin_ret (.bool true) Try.results7 (by kernel_rfl) ?_
      exact fun w hO => ⟨rfl, hO.below⟩
    | false =>
      refine q_val (.bool false) (by kernel_rfl) (fun _ => by kernel_rfl) ?_
      refine q_val (.bool false) (by kernel_rfl) (fun _ => by kernel_rfl) ?_
      refine q_val (.bool false) (by kernel_rfl) (fun _ => by kernel_rfl) ?_
      refine q_skip (by kernel_rfl) ?_
      refine q_skip (by kernel_rfl) ?_
      refine q_skip (by kernel_rfl) ?_
      refine q_val (.bool false) (by kernel_rfl) (fun _ => by kernel_rfl) ?_
      refine q_val (.bool false) (by kernel_rfl) (fun _ => by kernel_rfl) ?_
      refine q_nil ?_
      refine fin_seq ?_
      refine ok_ret ?_
      refine fin_ret (.bool false) Try.results7 (by kernel_rfl) ?_
      exact fun w hO => by exfalso; first | omega | simp_all
  · skip
    refine q_dec (p := (cmpR a u : Int) = 0) false (by kernel_rfl) (fun _ => by kernel_rfl) (decide_eq_false (h1)) ?_
    cases h3 : decide (cmpR a u = 0) with
    | true =>
      refine q_val (.bool false) (by kernel_rfl) (fun _ => by kernel_rfl) ?_
      refine q_val (.bool false) (by kernel_rfl) (fun _ => by kernel_rfl) ?_
      refine q_val (.bool false) (by kernel_rfl) (fun _ => by kernel_rfl) ?_
      refine q_skip (by kernel_rfl) ?_
      refine q_skip (by kernel_rfl) ?_
      refine q_skip (by kernel_rfl) ?_
      refine q_val (.bool false) (by kernel_rfl) (fun _ => by kernel_rfl) ?_
      refine q_val (.bool false) (by kernel_rfl) (fun _ => by kernel_rfl) ?_
      refine q_nil ?_
      refine fin_seq ?_
      refine ok_ret ?_
      refine fin_ret (.bool false) Try.results7 (by kernel_rfl) ?_
      exact fun w hO => by exfalso; first | omega | simp_all
    | false =>
      refine q_val (.bool true) (by kernel_rfl) (fun _ => by kernel_rfl) ?_
      refine q_val (.bool true) (by kernel_rfl) (fun _ => by kernel_rfl) ?_
      refine q_val (.bool true) (by kernel_rfl) (fun _ => by kernel_rfl) ?_
      refine q_load 0 ⟨b4, #[.int .i64 0, .int .i64 ((coreV a).maj), .int .i64 ((coreV a).min), .int .i64 ((coreV a).pat), .string (mkS (coreV a).pre), .string (mkS (coreV a).build), .bool false, .int .i64 0, .int .i64 ((coreV a).maj), .int .i64 ((coreV a).min), .int .i64 ((coreV a).pat), .string (mkS (coreV a).pre), .string (mkS (coreV a).build), .bool true], 32⟩ (off := 0) (.agg #[.int .i64 0, .int .i64 ((coreV a).maj), .int .i64 ((coreV a).min), .int .i64 ((coreV a).pat), .string (mkS (coreV a).pre), .string (mkS (coreV a).build), .bool false, .int .i64 0, .int .i64 ((coreV a).maj), .int .i64 ((coreV a).min), .int .i64 ((coreV a).pat), .string (mkS (coreV a).pre), .string (mkS (coreV a).build), .bool true]) (by kernel_rfl) rfl (by kernel_rfl) (by kernel_rfl) (by kernel_rfl) ?_
      refine q_load 3 ⟨b1, (verV a).cells, 23⟩ (off := 0) (verV a) (by kernel_rfl) rfl (by kernel_rfl) (by kernel_rfl) (by kernel_rfl) ?_
      refine q_call (k := 19) (args := #[.agg #[.int .i64 0, .int .i64 ((coreV a).maj), .int .i64 ((coreV a).min), .int .i64 ((coreV a).pat), .string (mkS (coreV a).pre), .string (mkS (coreV a).build), .bool false, .int .i64 0, .int .i64 ((coreV a).maj), .int .i64 ((coreV a).min), .int .i64 ((coreV a).pat), .string (mkS (coreV a).pre), .string (mkS (coreV a).build), .bool true], verV a]) (.bool true) (by kernel_rfl) (fun _ => by kernel_rfl) (fun w _ => ret_b hbs.2 (holdsC_any (Sp.mk ⟨0, coreV a, false⟩ ⟨0, coreV a, true⟩) a w ss sa)) ?_
      refine q_val (.bool true) (by kernel_rfl) (fun _ => by kernel_rfl) ?_
      refine q_val (.bool true) (by kernel_rfl) (fun _ => by kernel_rfl) ?_
      refine q_nil ?_
      refine fin_seq ?_
      refine ok_ret ?_
      refine fin_ret (.bool true) Try.results7 (by kernel_rfl) ?_
      exact fun w hO => ⟨rfl, hO.below⟩
end Go.Proofs.Ytndjdmbbndcohaa
