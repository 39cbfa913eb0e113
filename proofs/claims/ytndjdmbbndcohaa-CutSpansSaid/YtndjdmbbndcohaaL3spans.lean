/-
  CutSpans: for every span and every version the law returns true, and nothing that was there is changed. No condition.
-/
import Derived.Test.YtndjdmbbndcohaaP3
namespace Go.Proofs.Ytndjdmbbndcohaa
open Go.RowKit
set_option maxRecDepth 100000
set_option linter.unusedVariables false
set_option linter.unusedSimpArgs false
set_option maxHeartbeats 4000000
theorem cutSpans.law (W : World) (s : Sp) (v : Ver) : Calls Try.prog 4 #[spanV s, verV v] W fun e w' => e = .returned (.bool true) ∧ Below W.heap.size W w' := by
  refine calls_ok (n := 45) Try.func4 rfl (by kernel_rfl) (by kernel_rfl) ?_
  refine ok_seq ?_
  refine ok_region ?_
  refine s_box (spanV s) (by kernel_rfl) rfl (by kernel_rfl) (fun b1 => ?_)
  refine s_box (verV v) (by kernel_rfl) rfl (by kernel_rfl) (fun b2 => ?_)
  refine s_val (.bool false) (by kernel_rfl) (fun _ => by kernel_rfl) ?_
  refine s_nil ?_
  refine fin_seq ?_
  refine ok_seq ?_
  refine ok_seq ?_
  refine ok_region ?_
  refine s_val (.pointer (some ⟨b1, 0, none⟩)) (by kernel_rfl) (fun _ => by kernel_rfl) ?_
  refine s_load 1 ⟨b1, (spanV s).cells, 32⟩ (off := 0) (.agg #[.int .i64 s.lo.e, .int .i64 s.lo.v.maj, .int .i64 s.lo.v.min, .int .i64 s.lo.v.pat, .string (mkS s.lo.v.pre), .string (mkS s.lo.v.build), .bool s.lo.aft]) (by kernel_rfl) rfl (by kernel_rfl) (by kernel_rfl) (by kernel_rfl) ?_
  refine s_call (k := 9) (args := #[.agg #[.int .i64 s.lo.e, .int .i64 s.lo.v.maj, .int .i64 s.lo.v.min, .int .i64 s.lo.v.pat, .string (mkS s.lo.v.pre), .string (mkS s.lo.v.build), .bool s.lo.aft]]) (.bool (decide (s.lo.v.pre.length ≤ 100) && decide (s.lo.v.build.length ≤ 100))) (by kernel_rfl) (fun _ => by kernel_rfl) (fun w _ => short3_any s.lo w) ?_
  cases h1 : (decide (s.lo.v.pre.length ≤ 100) && decide (s.lo.v.build.length ≤ 100)) with
  | true =>
    refine s_val (.bool false) (by kernel_rfl) (fun _ => by kernel_rfl) ?_
    refine s_val (.bool false) (by kernel_rfl) (fun _ => by kernel_rfl) ?_
    refine s_val (.pointer (some ⟨b1, 7, none⟩)) (by kernel_rfl) (fun _ => by kernel_rfl) ?_
    refine s_load 1 ⟨b1, (spanV s).cells, 32⟩ (off := 7) (.agg #[.int .i64 s.hi.e, .int .i64 s.hi.v.maj, .int .i64 s.hi.v.min, .int .i64 s.hi.v.pat, .string (mkS s.hi.v.pre), .string (mkS s.hi.v.build), .bool s.hi.aft]) (by kernel_rfl) rfl (by kernel_rfl) (by kernel_rfl) (by kernel_rfl) ?_
    refine s_call (k := 9) (args := #[.agg #[.int .i64 s.hi.e, .int .i64 s.hi.v.maj, .int .i64 s.hi.v.min, .int .i64 s.hi.v.pat, .string (mkS s.hi.v.pre), .string (mkS s.hi.v.build), .bool s.hi.aft]]) (.bool (decide (s.hi.v.pre.length ≤ 100) && decide (s.hi.v.build.length ≤ 100))) (by kernel_rfl) (fun _ => by kernel_rfl) (fun w _ => short3_any s.hi w) ?_
    cases h2 : (decide (s.hi.v.pre.length ≤ 100) && decide (s.hi.v.build.length ≤ 100)) with
    | true =>
      refine s_val (.bool false) (by kernel_rfl) (fun _ => by kernel_rfl) ?_
      refine s_val (.bool false) (by kernel_rfl) (fun _ => by kernel_rfl) ?_
      refine s_val (.bool false) (by kernel_rfl) (fun _ => by kernel_rfl) ?_
      refine s_val (.pointer (some ⟨b2, 3, none⟩)) (by kernel_rfl) (fun _ => by kernel_rfl) ?_
      refine s_load 0 ⟨b2, (verV v).cells, 23⟩ (off := 3) (.string (mkS v.pre)) (by kernel_rfl) rfl (by kernel_rfl) (by kernel_rfl) (by kernel_rfl) ?_
      refine s_val (.int .i64 ((mkS v.pre).size)) (by kernel_rfl) (fun _ => by kernel_rfl) ?_
      by_cases h3 : (100 : Int) < (mkS v.pre).size
      · skip
        refine s_dec (p := (100 : Int) < (mkS v.pre).size) true (by kernel_rfl) (fun _ => by kernel_rfl) (decide_eq_true (h3)) ?_
        refine s_val (.bool true) (by kernel_rfl) (fun _ => by kernel_rfl) ?_
        refine s_val (.bool true) (by kernel_rfl) (fun _ => by kernel_rfl) ?_
        refine s_skip (by kernel_rfl) ?_
        refine s_skip (by kernel_rfl) ?_
        refine s_skip (by kernel_rfl) ?_
        refine s_skip (by kernel_rfl) ?_
        refine s_val (.bool true) (by kernel_rfl) (fun _ => by kernel_rfl) ?_
        refine s_nil ?_
        refine fin_seq ?_
        refine ok_true (by kernel_rfl) ?_
        refine ok_seq ?_
        refine ok_region ?_
        refine s_call (k := 10) (args := #[]) (.bool true) (by kernel_rfl) (fun _ => by kernel_rfl) (fun w _ => awake3_any w) ?_
        refine s_val (.bool true) (by kernel_rfl) (fun _ => by kernel_rfl) ?_
        refine s_nil ?_
        refine fin_seq ?_
        refine ok_ret ?_
        refine fin_seq_ret ?_
        refine fin_ret (.bool true) Try.results4 (by kernel_rfl) ?_
        exact fun w hO => ⟨rfl, hO.below⟩
      · skip
        refine s_dec (p := (100 : Int) < (mkS v.pre).size) false (by kernel_rfl) (fun _ => by kernel_rfl) (decide_eq_false (h3)) ?_
        refine s_val (.bool false) (by kernel_rfl) (fun _ => by kernel_rfl) ?_
        refine s_val (.bool false) (by kernel_rfl) (fun _ => by kernel_rfl) ?_
        refine s_val (.pointer (some ⟨b2, 4, none⟩)) (by kernel_rfl) (fun _ => by kernel_rfl) ?_
        refine s_load 0 ⟨b2, (verV v).cells, 23⟩ (off := 4) (.string (mkS v.build)) (by kernel_rfl) rfl (by kernel_rfl) (by kernel_rfl) (by kernel_rfl) ?_
        refine s_val (.int .i64 ((mkS v.build).size)) (by kernel_rfl) (fun _ => by kernel_rfl) ?_
        by_cases h4 : (100 : Int) < (mkS v.build).size
        · skip
          refine s_dec (p := (100 : Int) < (mkS v.build).size) true (by kernel_rfl) (fun _ => by kernel_rfl) (decide_eq_true (h4)) ?_
          refine s_val (.bool true) (by kernel_rfl) (fun _ => by kernel_rfl) ?_
          refine s_nil ?_
          refine fin_seq ?_
          refine ok_true (by kernel_rfl) ?_
          refine ok_seq ?_
          refine ok_region ?_
          refine s_call (k := 10) (args := #[]) (.bool true) (by kernel_rfl) (fun _ => by kernel_rfl) (fun w _ => awake3_any w) ?_
          refine s_val (.bool true) (by kernel_rfl) (fun _ => by kernel_rfl) ?_
          refine s_nil ?_
          refine fin_seq ?_
          refine ok_ret ?_
          refine fin_seq_ret ?_
          refine fin_ret (.bool true) Try.results4 (by kernel_rfl) ?_
          exact fun w hO => ⟨rfl, hO.below⟩
        · skip
          refine s_dec (p := (100 : Int) < (mkS v.build).size) false (by kernel_rfl) (fun _ => by kernel_rfl) (decide_eq_false (h4)) ?_
          refine s_val (.bool false) (by kernel_rfl) (fun _ => by kernel_rfl) ?_
          refine s_nil ?_
          refine fin_seq ?_
          refine ok_false (by kernel_rfl) ?_
          refine ok_skip ?_
          refine fin_seq ?_
          refine ok_seq ?_
          refine ok_draw (by kernel_rfl) (by kernel_rfl) ?_
          refine q_call (k := 10) (args := #[]) (.bool true) (by kernel_rfl) (fun _ => by kernel_rfl) (fun w _ => awake3_any w) ?_
          refine q_val (.bool true) (by kernel_rfl) (fun _ => by kernel_rfl) ?_
          refine q_load 1 ⟨b1, (spanV s).cells, 32⟩ (off := 0) (spanV s) (by kernel_rfl) rfl (by kernel_rfl) (by kernel_rfl) (by kernel_rfl) ?_
          refine q_call (k := 17) (args := #[spanV s]) (.bool s.may) (by kernel_rfl) (fun _ => by kernel_rfl) (fun w _ => spanMay_any s w ⟨(short_of h1), (short_of h2)⟩) ?_
          refine q_load 1 ⟨b1, (spanV s).cells, 32⟩ (off := 0) (spanV s) (by kernel_rfl) rfl (by kernel_rfl) (by kernel_rfl) (by kernel_rfl) ?_
          refine q_call (k := 18) (args := #[spanV s]) (.bool s.may) (by kernel_rfl) (fun _ => by kernel_rfl) (fun w _ => rspanMay_any s w ⟨(short_of h1), (short_of h2)⟩) ?_
          cases h5 : s.may with
          | true =>
            refine q_val (.bool true) (by kernel_rfl) (fun _ => by kernel_rfl) ?_
            refine q_val (.bool true) (by kernel_rfl) (fun _ => by kernel_rfl) ?_
            refine q_val (.bool true) (by kernel_rfl) (fun _ => by kernel_rfl) ?_
            refine q_load 1 ⟨b1, (spanV s).cells, 32⟩ (off := 0) (spanV s) (by kernel_rfl) rfl (by kernel_rfl) (by kernel_rfl) (by kernel_rfl) ?_
            refine q_load 0 ⟨b2, (verV v).cells, 23⟩ (off := 0) (verV v) (by kernel_rfl) rfl (by kernel_rfl) (by kernel_rfl) (by kernel_rfl) ?_
            refine q_call (k := 19) (args := #[spanV s, verV v]) (.bool (holdsC s v)) (by kernel_rfl) (fun _ => by kernel_rfl) (fun w _ => holdsC_any s v w ⟨(short_of h1), (short_of h2)⟩ (shortV_of h3 h4)) ?_
            refine q_load 1 ⟨b1, (spanV s).cells, 32⟩ (off := 0) (spanV s) (by kernel_rfl) rfl (by kernel_rfl) (by kernel_rfl) (by kernel_rfl) ?_
            refine q_load 0 ⟨b2, (verV v).cells, 23⟩ (off := 0) (verV v) (by kernel_rfl) rfl (by kernel_rfl) (by kernel_rfl) (by kernel_rfl) ?_
            refine q_call (k := 20) (args := #[spanV s, verV v]) (.bool (holdsC s v)) (by kernel_rfl) (fun _ => by kernel_rfl) (fun w _ => rholdsC_any s v w ⟨(short_of h1), (short_of h2)⟩ (shortV_of h3 h4)) ?_
            cases h6 : holdsC s v with
            | true =>
              refine q_val (.bool true) (by kernel_rfl) (fun _ => by kernel_rfl) ?_
              refine q_val (.bool true) (by kernel_rfl) (fun _ => by kernel_rfl) ?_
              refine q_val (.bool true) (by kernel_rfl) (fun _ => by kernel_rfl) ?_
              refine q_nil ?_
              refine fin_seq ?_
              refine ok_ret ?_
              refine fin_ret (.bool true) Try.results4 (by kernel_rfl) ?_
              exact fun w hO => ⟨rfl, hO.below⟩
            | false =>
              refine q_val (.bool true) (by kernel_rfl) (fun _ => by kernel_rfl) ?_
              refine q_val (.bool true) (by kernel_rfl) (fun _ => by kernel_rfl) ?_
              refine q_val (.bool true) (by kernel_rfl) (fun _ => by kernel_rfl) ?_
              refine q_nil ?_
              refine fin_seq ?_
              refine ok_ret ?_
              refine fin_ret (.bool true) Try.results4 (by kernel_rfl) ?_
              exact fun w hO => ⟨rfl, hO.below⟩
          | false =>
            refine q_val (.bool true) (by kernel_rfl) (fun _ => by kernel_rfl) ?_
            refine q_val (.bool true) (by kernel_rfl) (fun _ => by kernel_rfl) ?_
            refine q_val (.bool true) (by kernel_rfl) (fun _ => by kernel_rfl) ?_
            refine q_load 1 ⟨b1, (spanV s).cells, 32⟩ (off := 0) (spanV s) (by kernel_rfl) rfl (by kernel_rfl) (by kernel_rfl) (by kernel_rfl) ?_
            refine q_load 0 ⟨b2, (verV v).cells, 23⟩ (off := 0) (verV v) (by kernel_rfl) rfl (by kernel_rfl) (by kernel_rfl) (by kernel_rfl) ?_
            refine q_call (k := 19) (args := #[spanV s, verV v]) (.bool (holdsC s v)) (by kernel_rfl) (fun _ => by kernel_rfl) (fun w _ => holdsC_any s v w ⟨(short_of h1), (short_of h2)⟩ (shortV_of h3 h4)) ?_
            refine q_load 1 ⟨b1, (spanV s).cells, 32⟩ (off := 0) (spanV s) (by kernel_rfl) rfl (by kernel_rfl) (by kernel_rfl) (by kernel_rfl) ?_
            refine q_load 0 ⟨b2, (verV v).cells, 23⟩ (off := 0) (verV v) (by kernel_rfl) rfl (by kernel_rfl) (by kernel_rfl) (by kernel_rfl) ?_
            refine q_call (k := 20) (args := #[spanV s, verV v]) (.bool (holdsC s v)) (by kernel_rfl) (fun _ => by kernel_rfl) (fun w _ => rholdsC_any s v w ⟨(short_of h1), (short_of h2)⟩ (shortV_of h3 h4)) ?_
            cases h7 : holdsC s v with
            | true =>
              refine q_val (.bool true) (by kernel_rfl) (fun _ => by kernel_rfl) ?_
              refine q_val (.bool true) (by kernel_rfl) (fun _ => by kernel_rfl) ?_
              refine q_val (.bool true) (by kernel_rfl) (fun _ => by kernel_rfl) ?_
              refine q_nil ?_
              refine fin_seq ?_
              refine ok_ret ?_
              refine fin_ret (.bool true) Try.results4 (by kernel_rfl) ?_
              exact fun w hO => ⟨rfl, hO.below⟩
            | false =>
              refine q_val (.bool true) (by kernel_rfl) (fun _ => by kernel_rfl) ?_
              refine q_val (.bool true) (by kernel_rfl) (fun _ => by kernel_rfl) ?_
              refine q_val (.bool true) (by kernel_rfl) (fun _ => by kernel_rfl) ?_
              refine q_nil ?_
              refine fin_seq ?_
              refine ok_ret ?_
              refine fin_ret (.bool true) Try.results4 (by kernel_rfl) ?_
              exact fun w hO => ⟨rfl, hO.below⟩
    | false =>
      refine s_val (.bool true) (by kernel_rfl) (fun _ => by kernel_rfl) ?_
      refine s_val (.bool true) (by kernel_rfl) (fun _ => by kernel_rfl) ?_
      refine s_val (.bool true) (by kernel_rfl) (fun _ => by kernel_rfl) ?_
      refine s_skip (by kernel_rfl) ?_
      refine s_skip (by kernel_rfl) ?_
      refine s_skip (by kernel_rfl) ?_
      refine s_skip (by kernel_rfl) ?_
      refine s_val (.bool true) (by kernel_rfl) (fun _ => by kernel_rfl) ?_
      refine s_val (.bool true) (by kernel_rfl) (fun _ => by kernel_rfl) ?_
      refine s_skip (by kernel_rfl) ?_
      refine s_skip (by kernel_rfl) ?_
      refine s_skip (by kernel_rfl) ?_
      refine s_skip (by kernel_rfl) ?_
      refine s_val (.bool true) (by kernel_rfl) (fun _ => by kernel_rfl) ?_
      refine s_nil ?_
      refine fin_seq ?_
      refine ok_true (by kernel_rfl) ?_
      refine ok_seq ?_
      refine ok_region ?_
      refine s_call (k := 10) (args := #[]) (.bool true) (by kernel_rfl) (fun _ => by kernel_rfl) (fun w _ => awake3_any w) ?_
      refine s_val (.bool true) (by kernel_rfl) (fun _ => by kernel_rfl) ?_
      refine s_nil ?_
      refine fin_seq ?_
      refine ok_ret ?_
      refine fin_seq_ret ?_
      refine fin_ret (.bool true) Try.results4 (by kernel_rfl) ?_
      exact fun w hO => ⟨rfl, hO.below⟩
  | false =>
    refine s_val (.bool true) (by kernel_rfl) (fun _ => by kernel_rfl) ?_
    refine s_val (.bool true) (by kernel_rfl) (fun _ => by kernel_rfl) ?_
    refine s_skip (by kernel_rfl) ?_
    refine s_skip (by kernel_rfl) ?_
    refine s_skip (by kernel_rfl) ?_
    refine s_skip (by kernel_rfl) ?_
    refine s_val (.bool true) (by kernel_rfl) (fun _ => by kernel_rfl) ?_
    refine s_val (.bool true) (by kernel_rfl) (fun _ => by kernel_rfl) ?_
    refine s_skip (by kernel_rfl) ?_
    refine s_skip (by kernel_rfl) ?_
    refine s_skip (by kernel_rfl) ?_
    refine s_skip (by kernel_rfl) ?_
    refine s_val (.bool true) (by kernel_rfl) (fun _ => by kernel_rfl) ?_
    refine s_val (.bool true) (by kernel_rfl) (fun _ => by kernel_rfl) ?_
    refine s_skip (by kernel_rfl) ?_
    refine s_skip (by kernel_rfl) ?_
    refine s_skip (by kernel_rfl) ?_
    refine s_skip (by kernel_rfl) ?_
    refine s_val (.bool true) (by kernel_rfl) (fun _ => by kernel_rfl) ?_
    refine s_nil ?_
    refine fin_seq ?_
    refine ok_true (by kernel_rfl) ?_
    refine ok_seq ?_
    refine ok_region ?_
    refine s_call (k := 10) (args := #[]) (.bool true) (by kernel_rfl) (fun _ => by kernel_rfl) (fun w _ => awake3_any w) ?_
    refine s_val (.bool true) (by kernel_rfl) (fun _ => by kernel_rfl) ?_
    refine s_nil ?_
    refine fin_seq ?_
    refine ok_ret ?_
    refine fin_seq_ret ?_
    refine fin_ret (.bool true) Try.results4 (by kernel_rfl) ?_
    exact fun w hO => ⟨rfl, hO.below⟩
end Go.Proofs.Ytndjdmbbndcohaa
