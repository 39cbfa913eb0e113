/-
  CutRaw: for every two cuts and every version the law returns true, and nothing that was there is changed. No condition.
-/
import Derived.Test.YtndjdmbbndcohaaP3
namespace Go.Proofs.Ytndjdmbbndcohaa
open Go.RowKit
set_option maxRecDepth 100000
set_option linter.unusedVariables false
set_option linter.unusedSimpArgs false
set_option maxHeartbeats 4000000
theorem cutRaw.law (W : World) (c d : Cu) (v : Ver) : Calls Try.prog 3 #[cutV c, cutV d, verV v] W fun e w' => e = .returned (.bool true) ∧ Below W.heap.size W w' := by
  refine calls_ok (n := 54) Try.func3 rfl (by kernel_rfl) (by kernel_rfl) ?_
  refine ok_seq ?_
  refine ok_region ?_
  refine s_box (cutV c) (by kernel_rfl) rfl (by kernel_rfl) (fun b1 => ?_)
  refine s_box (cutV d) (by kernel_rfl) rfl (by kernel_rfl) (fun b2 => ?_)
  refine s_box (verV v) (by kernel_rfl) rfl (by kernel_rfl) (fun b3 => ?_)
  refine s_val (.bool false) (by kernel_rfl) (fun _ => by kernel_rfl) ?_
  refine s_nil ?_
  refine fin_seq ?_
  refine ok_seq ?_
  refine ok_seq ?_
  refine ok_region ?_
  refine s_load 2 ⟨b1, (cutV c).cells, 25⟩ (off := 0) (cutV c) (by kernel_rfl) rfl (by kernel_rfl) (by kernel_rfl) (by kernel_rfl) ?_
  refine s_call (k := 9) (args := #[cutV c]) (.bool (decide (c.v.pre.length ≤ 100) && decide (c.v.build.length ≤ 100))) (by kernel_rfl) (fun _ => by kernel_rfl) (fun w _ => short3_any c w) ?_
  cases h1 : (decide (c.v.pre.length ≤ 100) && decide (c.v.build.length ≤ 100)) with
  | true =>
    refine s_val (.bool false) (by kernel_rfl) (fun _ => by kernel_rfl) ?_
    refine s_val (.bool false) (by kernel_rfl) (fun _ => by kernel_rfl) ?_
    refine s_load 1 ⟨b2, (cutV d).cells, 25⟩ (off := 0) (cutV d) (by kernel_rfl) rfl (by kernel_rfl) (by kernel_rfl) (by kernel_rfl) ?_
    refine s_call (k := 9) (args := #[cutV d]) (.bool (decide (d.v.pre.length ≤ 100) && decide (d.v.build.length ≤ 100))) (by kernel_rfl) (fun _ => by kernel_rfl) (fun w _ => short3_any d w) ?_
    cases h2 : (decide (d.v.pre.length ≤ 100) && decide (d.v.build.length ≤ 100)) with
    | true =>
      refine s_val (.bool false) (by kernel_rfl) (fun _ => by kernel_rfl) ?_
      refine s_val (.bool false) (by kernel_rfl) (fun _ => by kernel_rfl) ?_
      refine s_val (.bool false) (by kernel_rfl) (fun _ => by kernel_rfl) ?_
      refine s_val (.pointer (some ⟨b3, 3, none⟩)) (by kernel_rfl) (fun _ => by kernel_rfl) ?_
      refine s_load 0 ⟨b3, (verV v).cells, 23⟩ (off := 3) (.string (mkS v.pre)) (by kernel_rfl) rfl (by kernel_rfl) (by kernel_rfl) (by kernel_rfl) ?_
      refine s_val (.int .i64 ((mkS v.pre).size)) (by kernel_rfl) (fun _ => by kernel_rfl) ?_
      by_cases h3 : (100 : Int) < (mkS v.pre).size
      · skip
        refine s_dec (p := (100 : Int) < (mkS v.pre).size) true (by kernel_rfl) (fun _ => by kernel_rfl) (decide_eq_true (h3)) ?_
        refine s_val (.bool true) (by kernel_rfl) (fun _ => by kernel_rfl) ?_
        refine s_val (.bool true) (by kernel_rfl) (fun _ => by kernel_rfl) ?_
        refine s_skip (by kernel_rfl) ?_
        refine s_skip (by kernel_rfl) ?_
        refine s_skip (by kernel_rfl) ?_
        refine s_skip (by kernel_rfl) ?_
        refine s_val (.bool true) (by kernel_rfl) (fun _ => by kernel_rfl) ?_
        refine s_nil ?_
        refine fin_seq ?_
        refine ok_true (by kernel_rfl) ?_
        refine ok_seq ?_
        refine ok_region ?_
        refine s_call (k := 10) (args := #[]) (.bool true) (by kernel_rfl) (fun _ => by kernel_rfl) (fun w _ => awake3_any w) ?_
        refine s_val (.bool true) (by kernel_rfl) (fun _ => by kernel_rfl) ?_
        refine s_nil ?_
        refine fin_seq ?_
        refine ok_ret ?_
        refine fin_seq_ret ?_
        refine fin_ret (.bool true) Try.results3 (by kernel_rfl) ?_
        exact fun w hO => ⟨rfl, hO.below⟩
      · skip
        refine s_dec (p := (100 : Int) < (mkS v.pre).size) false (by kernel_rfl) (fun _ => by kernel_rfl) (decide_eq_false (h3)) ?_
        refine s_val (.bool false) (by kernel_rfl) (fun _ => by kernel_rfl) ?_
        refine s_val (.bool false) (by kernel_rfl) (fun _ => by kernel_rfl) ?_
        refine s_val (.pointer (some ⟨b3, 4, none⟩)) (by kernel_rfl) (fun _ => by kernel_rfl) ?_
        refine s_load 0 ⟨b3, (verV v).cells, 23⟩ (off := 4) (.string (mkS v.build)) (by kernel_rfl) rfl (by kernel_rfl) (by kernel_rfl) (by kernel_rfl) ?_
        refine s_val (.int .i64 ((mkS v.build).size)) (by kernel_rfl) (fun _ => by kernel_rfl) ?_
        by_cases h4 : (100 : Int) < (mkS v.build).size
        · skip
          refine s_dec (p := (100 : Int) < (mkS v.build).size) true (by kernel_rfl) (fun _ => by kernel_rfl) (decide_eq_true (h4)) ?_
          refine s_val (.bool true) (by kernel_rfl) (fun _ => by kernel_rfl) ?_
          refine s_nil ?_
          refine fin_seq ?_
          refine ok_true (by kernel_rfl) ?_
          refine ok_seq ?_
          refine ok_region ?_
          refine s_call (k := 10) (args := #[]) (.bool true) (by kernel_rfl) (fun _ => by kernel_rfl) (fun w _ => awake3_any w) ?_
          refine s_val (.bool true) (by kernel_rfl) (fun _ => by kernel_rfl) ?_
          refine s_nil ?_
          refine fin_seq ?_
          refine ok_ret ?_
          refine fin_seq_ret ?_
          refine fin_ret (.bool true) Try.results3 (by kernel_rfl) ?_
          exact fun w hO => ⟨rfl, hO.below⟩
        · skip
          refine s_dec (p := (100 : Int) < (mkS v.build).size) false (by kernel_rfl) (fun _ => by kernel_rfl) (decide_eq_false (h4)) ?_
          refine s_val (.bool false) (by kernel_rfl) (fun _ => by kernel_rfl) ?_
          refine s_nil ?_
          refine fin_seq ?_
          refine ok_false (by kernel_rfl) ?_
          refine ok_skip ?_
          refine fin_seq ?_
          refine ok_seq ?_
          refine ok_draw (by kernel_rfl) (by kernel_rfl) ?_
          refine q_call (k := 10) (args := #[]) (.bool true) (by kernel_rfl) (fun _ => by kernel_rfl) (fun w _ => awake3_any w) ?_
          refine q_val (.bool true) (by kernel_rfl) (fun _ => by kernel_rfl) ?_
          refine q_load 2 ⟨b1, (cutV c).cells, 25⟩ (off := 0) (cutV c) (by kernel_rfl) rfl (by kernel_rfl) (by kernel_rfl) (by kernel_rfl) ?_
          refine q_call (k := 11) (args := #[cutV c]) (.bool c.may) (by kernel_rfl) (fun _ => by kernel_rfl) (fun w _ => mayC_any c w (short_of h1)) ?_
          refine q_load 2 ⟨b1, (cutV c).cells, 25⟩ (off := 0) (cutV c) (by kernel_rfl) rfl (by kernel_rfl) (by kernel_rfl) (by kernel_rfl) ?_
          refine q_call (k := 12) (args := #[cutV c]) (.bool c.may) (by kernel_rfl) (fun _ => by kernel_rfl) (fun w _ => rmayC_any c w (short_of h1)) ?_
          cases h5 : c.may with
          | true =>
            refine q_val (.bool true) (by kernel_rfl) (fun _ => by kernel_rfl) ?_
            refine q_val (.bool true) (by kernel_rfl) (fun _ => by kernel_rfl) ?_
            refine q_val (.bool true) (by kernel_rfl) (fun _ => by kernel_rfl) ?_
            refine q_load 2 ⟨b1, (cutV c).cells, 25⟩ (off := 0) (cutV c) (by kernel_rfl) rfl (by kernel_rfl) (by kernel_rfl) (by kernel_rfl) ?_
            refine q_load 1 ⟨b2, (cutV d).cells, 25⟩ (off := 0) (cutV d) (by kernel_rfl) rfl (by kernel_rfl) (by kernel_rfl) (by kernel_rfl) ?_
            refine q_call (k := 13) (args := #[cutV c, cutV d]) (.int .i64 (cmpC c d)) (by kernel_rfl) (fun _ => by kernel_rfl) (fun w _ => cmpC_any c d w (short_of h1) (short_of h2)) ?_
            refine q_load 2 ⟨b1, (cutV c).cells, 25⟩ (off := 0) (cutV c) (by kernel_rfl) rfl (by kernel_rfl) (by kernel_rfl) (by kernel_rfl) ?_
            refine q_load 1 ⟨b2, (cutV d).cells, 25⟩ (off := 0) (cutV d) (by kernel_rfl) rfl (by kernel_rfl) (by kernel_rfl) (by kernel_rfl) ?_
            refine q_call (k := 14) (args := #[cutV c, cutV d]) (.int .i64 (cmpC c d)) (by kernel_rfl) (fun _ => by kernel_rfl) (fun w _ => rcmpC_any c d w (short_of h1) (short_of h2)) ?_
            by_cases h6 : (cmpC c d : Int) = cmpC c d
            · skip
              refine q_dec (p := (cmpC c d : Int) = cmpC c d) true (by kernel_rfl) (fun _ => by kernel_rfl) (decide_eq_true (h6)) ?_
              refine q_val (.bool true) (by kernel_rfl) (fun _ => by kernel_rfl) ?_
              refine q_val (.bool true) (by kernel_rfl) (fun _ => by kernel_rfl) ?_
              refine q_load 2 ⟨b1, (cutV c).cells, 25⟩ (off := 0) (cutV c) (by kernel_rfl) rfl (by kernel_rfl) (by kernel_rfl) (by kernel_rfl) ?_
              refine q_load 0 ⟨b3, (verV v).cells, 23⟩ (off := 0) (verV v) (by kernel_rfl) rfl (by kernel_rfl) (by kernel_rfl) (by kernel_rfl) ?_
              refine q_call (k := 15) (args := #[cutV c, verV v]) (.bool (aheadC c v)) (by kernel_rfl) (fun _ => by kernel_rfl) (fun w _ => aheadC_any c v w (short_of h1) (shortV_of h3 h4)) ?_
              refine q_load 2 ⟨b1, (cutV c).cells, 25⟩ (off := 0) (cutV c) (by kernel_rfl) rfl (by kernel_rfl) (by kernel_rfl) (by kernel_rfl) ?_
              refine q_load 0 ⟨b3, (verV v).cells, 23⟩ (off := 0) (verV v) (by kernel_rfl) rfl (by kernel_rfl) (by kernel_rfl) (by kernel_rfl) ?_
              refine q_call (k := 16) (args := #[cutV c, verV v]) (.bool (aheadC c v)) (by kernel_rfl) (fun _ => by kernel_rfl) (fun w _ => raheadC_any c v w (short_of h1) (shortV_of h3 h4)) ?_
              cases h7 : aheadC c v with
              | true =>
                refine q_val (.bool true) (by kernel_rfl) (fun _ => by kernel_rfl) ?_
                refine q_val (.bool true) (by kernel_rfl) (fun _ => by kernel_rfl) ?_
                refine q_val (.bool true) (by kernel_rfl) (fun _ => by kernel_rfl) ?_
                refine q_nil ?_
                refine fin_seq ?_
                refine ok_ret ?_
                refine fin_ret (.bool true) Try.results3 (by kernel_rfl) ?_
                exact fun w hO => ⟨rfl, hO.below⟩
              | false =>
                refine q_val (.bool true) (by kernel_rfl) (fun _ => by kernel_rfl) ?_
                refine q_val (.bool true) (by kernel_rfl) (fun _ => by kernel_rfl) ?_
                refine q_val (.bool true) (by kernel_rfl) (fun _ => by kernel_rfl) ?_
                refine q_nil ?_
                refine fin_seq ?_
                refine ok_ret ?_
                refine fin_ret (.bool true) Try.results3 (by kernel_rfl) ?_
                exact fun w hO => ⟨rfl, hO.below⟩
            · skip
              refine q_dec (p := (cmpC c d : Int) = cmpC c d) false (by kernel_rfl) (fun _ => by kernel_rfl) (decide_eq_false (h6)) ?_
              refine q_val (.bool false) (by kernel_rfl) (fun _ => by kernel_rfl) ?_
              refine q_val (.bool false) (by kernel_rfl) (fun _ => by kernel_rfl) ?_
              refine q_skip (by kernel_rfl) ?_
              refine q_skip (by kernel_rfl) ?_
              refine q_skip (by kernel_rfl) ?_
              refine q_skip (by kernel_rfl) ?_
              refine q_skip (by kernel_rfl) ?_
              refine q_skip (by kernel_rfl) ?_
              refine q_skip (by kernel_rfl) ?_
              refine q_val (.bool false) (by kernel_rfl) (fun _ => by kernel_rfl) ?_
              refine q_val (.bool false) (by kernel_rfl) (fun _ => by kernel_rfl) ?_
              refine q_nil ?_
              refine fin_seq ?_
              refine ok_ret ?_
              refine fin_ret (.bool false) Try.results3 (by kernel_rfl) ?_
              exact fun w hO => by exfalso; first | omega | simp_all
          | false =>
            refine q_val (.bool true) (by kernel_rfl) (fun _ => by kernel_rfl) ?_
            refine q_val (.bool true) (by kernel_rfl) (fun _ => by kernel_rfl) ?_
            refine q_val (.bool true) (by kernel_rfl) (fun _ => by kernel_rfl) ?_
            refine q_load 2 ⟨b1, (cutV c).cells, 25⟩ (off := 0) (cutV c) (by kernel_rfl) rfl (by kernel_rfl) (by kernel_rfl) (by kernel_rfl) ?_
            refine q_load 1 ⟨b2, (cutV d).cells, 25⟩ (off := 0) (cutV d) (by kernel_rfl) rfl (by kernel_rfl) (by kernel_rfl) (by kernel_rfl) ?_
            refine q_call (k := 13) (args := #[cutV c, cutV d]) (.int .i64 (cmpC c d)) (by kernel_rfl) (fun _ => by kernel_rfl) (fun w _ => cmpC_any c d w (short_of h1) (short_of h2)) ?_
            refine q_load 2 ⟨b1, (cutV c).cells, 25⟩ (off := 0) (cutV c) (by kernel_rfl) rfl (by kernel_rfl) (by kernel_rfl) (by kernel_rfl) ?_
            refine q_load 1 ⟨b2, (cutV d).cells, 25⟩ (off := 0) (cutV d) (by kernel_rfl) rfl (by kernel_rfl) (by kernel_rfl) (by kernel_rfl) ?_
            refine q_call (k := 14) (args := #[cutV c, cutV d]) (.int .i64 (cmpC c d)) (by kernel_rfl) (fun _ => by kernel_rfl) (fun w _ => rcmpC_any c d w (short_of h1) (short_of h2)) ?_
            by_cases h8 : (cmpC c d : Int) = cmpC c d
            · skip
              refine q_dec (p := (cmpC c d : Int) = cmpC c d) true (by kernel_rfl) (fun _ => by kernel_rfl) (decide_eq_true (h8)) ?_
              refine q_val (.bool true) (by kernel_rfl) (fun _ => by kernel_rfl) ?_
              refine q_val (.bool true) (by kernel_rfl) (fun _ => by kernel_rfl) ?_
              refine q_load 2 ⟨b1, (cutV c).cells, 25⟩ (off := 0) (cutV c) (by kernel_rfl) rfl (by kernel_rfl) (by kernel_rfl) (by kernel_rfl) ?_
              refine q_load 0 ⟨b3, (verV v).cells, 23⟩ (off := 0) (verV v) (by kernel_rfl) rfl (by kernel_rfl) (by kernel_rfl) (by kernel_rfl) ?_
              refine q_call (k := 15) (args := #[cutV c, verV v]) (.bool (aheadC c v)) (by kernel_rfl) (fun _ => by kernel_rfl) (fun w _ => aheadC_any c v w (short_of h1) (shortV_of h3 h4)) ?_
              refine q_load 2 ⟨b1, (cutV c).cells, 25⟩ (off := 0) (cutV c) (by kernel_rfl) rfl (by kernel_rfl) (by kernel_rfl) (by kernel_rfl) ?_
              refine q_load 0 ⟨b3, (verV v).cells, 23⟩ (off := 0) (verV v) (by kernel_rfl) rfl (by kernel_rfl) (by kernel_rfl) (by kernel_rfl) ?_
              refine q_call (k := 16) (args := #[cutV c, verV v]) (.bool (aheadC c v)) (by kernel_rfl) (fun _ => by kernel_rfl) (fun w _ => raheadC_any c v w (short_of h1) (shortV_of h3 h4)) ?_
              cases h9 : aheadC c v with
              | true =>
                refine q_val (.bool true) (by kernel_rfl) (fun _ => by kernel_rfl) ?_
                refine q_val (.bool true) (by kernel_rfl) (fun _ => by kernel_rfl) ?_
                refine q_val (.bool true) (by kernel_rfl) (fun _ => by kernel_rfl) ?_
                refine q_nil ?_
                refine fin_seq ?_
                refine ok_ret ?_
                refine fin_ret (.bool true) Try.results3 (by kernel_rfl) ?_
                exact fun w hO => ⟨rfl, hO.below⟩
              | false =>
                refine q_val (.bool true) (by kernel_rfl) (fun _ => by kernel_rfl) ?_
                refine q_val (.bool true) (by kernel_rfl) (fun _ => by kernel_rfl) ?_
                refine q_val (.bool true) (by kernel_rfl) (fun _ => by kernel_rfl) ?_
                refine q_nil ?_
                refine fin_seq ?_
                refine ok_ret ?_
                refine fin_ret (.bool true) Try.results3 (by kernel_rfl) ?_
                exact fun w hO => ⟨rfl, hO.below⟩
            · skip
              refine q_dec (p := (cmpC c d : Int) = cmpC c d) false (by kernel_rfl) (fun _ => by kernel_rfl) (decide_eq_false (h8)) ?_
              refine q_val (.bool false) (by kernel_rfl) (fun _ => by kernel_rfl) ?_
              refine q_val (.bool false) (by kernel_rfl) (fun _ => by kernel_rfl) ?_
              refine q_skip (by kernel_rfl) ?_
              refine q_skip (by kernel_rfl) ?_
              refine q_skip (by kernel_rfl) ?_
              refine q_skip (by kernel_rfl) ?_
              refine q_skip (by kernel_rfl) ?_
              refine q_skip (by kernel_rfl) ?_
              refine q_skip (by kernel_rfl) ?_
              refine q_val (.bool false) (by kernel_rfl) (fun _ => by kernel_rfl) ?_
              refine q_val (.bool false) (by kernel_rfl) (fun _ => by kernel_rfl) ?_
              refine q_nil ?_
              refine fin_seq ?_
              refine ok_ret ?_
              refine fin_ret (.bool false) Try.results3 (by kernel_rfl) ?_
              exact fun w hO => by exfalso; first | omega | simp_all
    | false =>
      refine s_val (.bool true) (by kernel_rfl) (fun _ => by kernel_rfl) ?_
      refine s_val (.bool true) (by kernel_rfl) (fun _ => by kernel_rfl) ?_
      refine s_val (.bool true) (by kernel_rfl) (fun _ => by kernel_rfl) ?_
      refine s_skip (by kernel_rfl) ?_
      refine s_skip (by kernel_rfl) ?_
      refine s_skip (by kernel_rfl) ?_
      refine s_skip (by kernel_rfl) ?_
      refine s_val (.bool true) (by kernel_rfl) (fun _ => by kernel_rfl) ?_
      refine s_val (.bool true) (by kernel_rfl) (fun _ => by kernel_rfl) ?_
      refine s_skip (by kernel_rfl) ?_
      refine s_skip (by kernel_rfl) ?_
      refine s_skip (by kernel_rfl) ?_
      refine s_skip (by kernel_rfl) ?_
      refine s_val (.bool true) (by kernel_rfl) (fun _ => by kernel_rfl) ?_
      refine s_nil ?_
      refine fin_seq ?_
      refine ok_true (by kernel_rfl) ?_
      refine ok_seq ?_
      refine ok_region ?_
      refine s_call (k := 10) (args := #[]) (.bool true) (by kernel_rfl) (fun _ => by kernel_rfl) (fun w _ => awake3_any w) ?_
      refine s_val (.bool true) (by kernel_rfl) (fun _ => by kernel_rfl) ?_
      refine s_nil ?_
      refine fin_seq ?_
      refine ok_ret ?_
      refine fin_seq_ret ?_
      refine fin_ret (.bool true) Try.results3 (by kernel_rfl) ?_
      exact fun w hO => ⟨rfl, hO.below⟩
  | false =>
    refine s_val (.bool true) (by kernel_rfl) (fun _ => by kernel_rfl) ?_
    refine s_val (.bool true) (by kernel_rfl) (fun _ => by kernel_rfl) ?_
    refine s_skip (by kernel_rfl) ?_
    refine s_skip (by kernel_rfl) ?_
    refine s_skip (by kernel_rfl) ?_
    refine s_val (.bool true) (by kernel_rfl) (fun _ => by kernel_rfl) ?_
    refine s_val (.bool true) (by kernel_rfl) (fun _ => by kernel_rfl) ?_
    refine s_skip (by kernel_rfl) ?_
    refine s_skip (by kernel_rfl) ?_
    refine s_skip (by kernel_rfl) ?_
    refine s_skip (by kernel_rfl) ?_
    refine s_val (.bool true) (by kernel_rfl) (fun _ => by kernel_rfl) ?_
    refine s_val (.bool true) (by kernel_rfl) (fun _ => by kernel_rfl) ?_
    refine s_skip (by kernel_rfl) ?_
    refine s_skip (by kernel_rfl) ?_
    refine s_skip (by kernel_rfl) ?_
    refine s_skip (by kernel_rfl) ?_
    refine s_val (.bool true) (by kernel_rfl) (fun _ => by kernel_rfl) ?_
    refine s_nil ?_
    refine fin_seq ?_
    refine ok_true (by kernel_rfl) ?_
    refine ok_seq ?_
    refine ok_region ?_
    refine s_call (k := 10) (args := #[]) (.bool true) (by kernel_rfl) (fun _ => by kernel_rfl) (fun w _ => awake3_any w) ?_
    refine s_val (.bool true) (by kernel_rfl) (fun _ => by kernel_rfl) ?_
    refine s_nil ?_
    refine fin_seq ?_
    refine ok_ret ?_
    refine fin_seq_ret ?_
    refine fin_ret (.bool true) Try.results3 (by kernel_rfl) ?_
    exact fun w hO => ⟨rfl, hO.below⟩
end Go.Proofs.Ytndjdmbbndcohaa
