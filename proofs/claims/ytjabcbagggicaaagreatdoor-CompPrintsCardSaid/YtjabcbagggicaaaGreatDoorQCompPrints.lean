/-
  CompPrints: for every input the call returns true, and each argument reads afterwards as it read before. Conditions: none but the row's own, that the listed package-level variables read as the program's text lays them.
-/
import Derived.Test.YtjabcbagggicaaaGreatDoorCards
import Derived.Test.YtjabcbagggicaaaGreatDoorTie
import Derived.Test.YtjabcbagggicaaaGreatDoorMA5

section
/-
  CompPrints: for any comparator the law returns true, and nothing that was there is changed. No condition.
-/
namespace Go.Proofs.YtjabcbagggicaaaGreatDoor
open Go.RowKit
set_option maxRecDepth 100000
set_option linter.unusedVariables false
set_option linter.unusedSimpArgs false
set_option maxHeartbeats 2000000

theorem short60c {v : Ver} (h1 : ¬ (60 : Int) < ((mkS v.pre).size : Int)) (h2 : ¬ (60 : Int) < ((mkS v.build).size : Int)) : v.short ∧ v.pre.length ≤ 60 := by
  rw [mkS_sz] at h1 h2
  exact ⟨⟨by omega, by omega⟩, by omega⟩
theorem print_len {c : Co} (h : c.v.pre.length ≤ 60) : c.print.length ≤ 1000000 := by
  unfold Co.print
  by_cases hm : c.may = true
  · rw [if_pos hm]
    have hv := (Co.facts hm).2.1
    have q1 := signL_len c.op
    have q2 := njoin_len hv c.parts.toNat
    have q3 := sjoin_len hv c.parts.toNat
    unfold Co.text Co.rest tailS
    split
    · rw [List.length_append]; omega
    · split
      · simp only [List.length_append, List.length_nil]; omega
      · simp only [List.length_append, List.length_cons]; omega
  · rw [if_neg hm]; exact Nat.zero_le _
theorem print_back {c : Co} (h : c.may = true) : pcV c.print = c ∧ pcE c.print = 0 := pc_some (by rw [co_print h]; exact parseC_text h)
set_option maxHeartbeats 8000000 in
theorem compPrints.law (W : World) (c : Co) (ht : HasTab W) :
    Calls Tryz.prog 4 #[coV c] W fun e w' => e = .returned (.bool true) ∧ Below W.heap.size W w' := by
  refine calls_ok (n := 54) Tryz.func4 rfl (by kernel_rfl) (by kernel_rfl) ?_
  refine ok_seq ?_
  refine ok_region ?_
  refine s_box (coV c) (by kernel_rfl) rfl (by kernel_rfl) (fun b1 => ?_)
  refine s_val (.bool false) (by kernel_rfl) (fun _ => by kernel_rfl) ?_
  refine s_nil ?_
  refine fin_seq ?_
  refine ok_seq ?_
  refine ok_seq ?_
  refine ok_region ?_
  refine s_val (.pointer (some ⟨b1, 2, none⟩)) (by kernel_rfl) (fun _ => by kernel_rfl) ?_
  refine s_val (.pointer (some ⟨b1, 5, none⟩)) (by kernel_rfl) (fun _ => by kernel_rfl) ?_
  refine s_load 0 ⟨b1, (coV c).cells, 26⟩ (off := 5) (.string (mkS c.v.pre)) (by kernel_rfl) rfl (by kernel_rfl) (by kernel_rfl) (by kernel_rfl) ?_
  refine s_val (.int .i64 ((mkS c.v.pre).size)) (by kernel_rfl) (fun _ => by kernel_rfl) ?_
  by_cases h1 : (60 : Int) < (mkS c.v.pre).size
  · skip
    refine s_dec (p := (60 : Int) < (mkS c.v.pre).size) true (by kernel_rfl) (fun _ => by kernel_rfl) (decide_eq_true (h1)) ?_
    refine s_val (.bool true) (by kernel_rfl) (fun _ => by kernel_rfl) ?_
    refine s_skip (by kernel_rfl) ?_
    refine s_skip (by kernel_rfl) ?_
    refine s_skip (by kernel_rfl) ?_
    refine s_skip (by kernel_rfl) ?_
    refine s_skip (by kernel_rfl) ?_
    refine s_val (.bool true) (by kernel_rfl) (fun _ => by kernel_rfl) ?_
    refine s_nil ?_
    refine fin_seq ?_
    refine ok_true (by kernel_rfl) ?_
    refine ok_seq ?_
    refine ok_region ?_
    refine s_call (k := 11) (args := #[]) (.bool true) (by kernel_rfl) (fun _ => by kernel_rfl) (fun w hO => awake6_any w (ht.on hO.below)) ?_
    refine s_val (.bool true) (by kernel_rfl) (fun _ => by kernel_rfl) ?_
    refine s_nil ?_
    refine fin_seq ?_
    refine ok_ret ?_
    refine fin_seq_ret ?_
    refine fin_ret (.bool true) Tryz.results4 (by kernel_rfl) ?_
    exact fun w hO => ⟨rfl, hO.below⟩
  · skip
    refine s_dec (p := (60 : Int) < (mkS c.v.pre).size) false (by kernel_rfl) (fun _ => by kernel_rfl) (decide_eq_false (h1)) ?_
    refine s_val (.bool false) (by kernel_rfl) (fun _ => by kernel_rfl) ?_
    refine s_val (.pointer (some ⟨b1, 2, none⟩)) (by kernel_rfl) (fun _ => by kernel_rfl) ?_
    refine s_val (.pointer (some ⟨b1, 6, none⟩)) (by kernel_rfl) (fun _ => by kernel_rfl) ?_
    refine s_load 0 ⟨b1, (coV c).cells, 26⟩ (off := 6) (.string (mkS c.v.build)) (by kernel_rfl) rfl (by kernel_rfl) (by kernel_rfl) (by kernel_rfl) ?_
    refine s_val (.int .i64 ((mkS c.v.build).size)) (by kernel_rfl) (fun _ => by kernel_rfl) ?_
    by_cases h2 : (60 : Int) < (mkS c.v.build).size
    · skip
      refine s_dec (p := (60 : Int) < (mkS c.v.build).size) true (by kernel_rfl) (fun _ => by kernel_rfl) (decide_eq_true (h2)) ?_
      refine s_val (.bool true) (by kernel_rfl) (fun _ => by kernel_rfl) ?_
      refine s_nil ?_
      refine fin_seq ?_
      refine ok_true (by kernel_rfl) ?_
      refine ok_seq ?_
      refine ok_region ?_
      refine s_call (k := 11) (args := #[]) (.bool true) (by kernel_rfl) (fun _ => by kernel_rfl) (fun w hO => awake6_any w (ht.on hO.below)) ?_
      refine s_val (.bool true) (by kernel_rfl) (fun _ => by kernel_rfl) ?_
      refine s_nil ?_
      refine fin_seq ?_
      refine ok_ret ?_
      refine fin_seq_ret ?_
      refine fin_ret (.bool true) Tryz.results4 (by kernel_rfl) ?_
      exact fun w hO => ⟨rfl, hO.below⟩
    · skip
      refine s_dec (p := (60 : Int) < (mkS c.v.build).size) false (by kernel_rfl) (fun _ => by kernel_rfl) (decide_eq_false (h2)) ?_
      refine s_val (.bool false) (by kernel_rfl) (fun _ => by kernel_rfl) ?_
      refine s_nil ?_
      refine fin_seq ?_
      refine ok_false (by kernel_rfl) ?_
      refine ok_skip ?_
      refine fin_seq ?_
      refine ok_seq ?_
      refine ok_region ?_
      refine s_load 0 ⟨b1, (coV c).cells, 26⟩ (off := 0) (coV c) (by kernel_rfl) rfl (by kernel_rfl) (by kernel_rfl) (by kernel_rfl) ?_
      refine s_call (k := 14) (args := #[coV c]) (.string (mkS c.print)) (by kernel_rfl) (fun _ => by kernel_rfl) (fun w hO => cPrint_any c w (short60c h1 h2).1 (ht.on hO.below)) ?_
      refine s_val (.string (mkS c.print)) (by kernel_rfl) (fun _ => by kernel_rfl) ?_
      refine s_nil ?_
      refine fin_seq ?_
      refine ok_seq ?_
      refine ok_region ?_
      refine s_val (.string (mkS c.print)) (by kernel_rfl) (fun _ => by kernel_rfl) ?_
      refine s_call (k := 12) (args := #[.string (mkS c.print)]) (.tuple #[coV (pcV c.print), .int .i64 (pcE c.print)]) (by kernel_rfl) (fun _ => by kernel_rfl) (fun w hO => cParse_any c.print w (print_len (short60c h1 h2).2) (ht.on hO.below)) ?_
      refine s_val (.tuple #[coV (pcV c.print), .int .i64 (pcE c.print)]) (by kernel_rfl) (fun _ => by kernel_rfl) ?_
      refine s_val (coV (pcV c.print)) (by kernel_rfl) (fun _ => by kernel_rfl) ?_
      refine s_val (.int .i64 (pcE c.print)) (by kernel_rfl) (fun _ => by kernel_rfl) ?_
      refine s_alloc_at (.agg #[.int .i64 0, .int .i64 0, .int .i64 0, .int .i64 0, .int .i64 0, .string ⟨#[]⟩, .string ⟨#[]⟩]) (by kernel_rfl) rfl (by kernel_rfl) (fun b2 => ?_)
      refine s_store_at 0 ⟨b2, #[.int .i64 0, .int .i64 0, .int .i64 0, .int .i64 0, .int .i64 0, .string ⟨#[]⟩, .string ⟨#[]⟩], 26⟩ (off := 0) (coV (pcV c.print)) (by kernel_rfl) rfl rfl (by kernel_rfl) (by kernel_rfl) (by kernel_rfl) (by kernel_rfl) (by kernel_rfl) ?_
      refine s_val (.int .i64 (pcE c.print)) (by kernel_rfl) (fun _ => by kernel_rfl) ?_
      refine s_nil ?_
      refine fin_seq ?_
      refine ok_seq ?_
      refine ok_draw (by kernel_rfl) (by kernel_rfl) ?_
      refine q_call (k := 11) (args := #[]) (.bool true) (by kernel_rfl) (fun _ => by kernel_rfl) (fun w hO => awake6_any w (ht.on hO.below)) ?_
      refine q_val (.bool true) (by kernel_rfl) (fun _ => by kernel_rfl) ?_
      refine q_load 1 ⟨b1, (coV c).cells, 26⟩ (off := 0) (coV c) (by kernel_rfl) rfl (by kernel_rfl) (by kernel_rfl) (by kernel_rfl) ?_
      refine q_call (k := 15) (args := #[coV c]) (.bool c.may) (by kernel_rfl) (fun _ => by kernel_rfl) (fun w _ => cMay_any c w (short60c h1 h2).1) ?_
      refine q_load 1 ⟨b1, (coV c).cells, 26⟩ (off := 0) (coV c) (by kernel_rfl) rfl (by kernel_rfl) (by kernel_rfl) (by kernel_rfl) ?_
      refine q_call (k := 16) (args := #[coV c]) (.bool c.may) (by kernel_rfl) (fun _ => by kernel_rfl) (fun w _ => rcMay_any c w (short60c h1 h2).1) ?_
      cases h3 : c.may with
      | true =>
        refine q_val (.bool true) (by kernel_rfl) (fun _ => by kernel_rfl) ?_
        refine q_val (.bool true) (by kernel_rfl) (fun _ => by kernel_rfl) ?_
        refine q_val (.bool true) (by kernel_rfl) (fun _ => by kernel_rfl) ?_
        refine q_val (.string (mkS c.print)) (by kernel_rfl) (fun _ => by kernel_rfl) ?_
        refine q_load 1 ⟨b1, (coV c).cells, 26⟩ (off := 0) (coV c) (by kernel_rfl) rfl (by kernel_rfl) (by kernel_rfl) (by kernel_rfl) ?_
        refine q_call (k := 17) (args := #[coV c]) (.string (mkS c.print)) (by kernel_rfl) (fun _ => by kernel_rfl) (fun w hO => rcPrint_any c w (short60c h1 h2).1) ?_
        refine q_val (.bool true) (by kernel_rfl) (run_streql (a := c.print) (b := c.print) rfl (by kernel_rfl) (by kernel_rfl) (decide_eq_true (rfl))) ?_
        refine q_val (.bool true) (by kernel_rfl) (fun _ => by kernel_rfl) ?_
        refine q_val (.bool true) (by kernel_rfl) (fun _ => by kernel_rfl) ?_
        refine q_load 1 ⟨b1, (coV c).cells, 26⟩ (off := 0) (coV c) (by kernel_rfl) rfl (by kernel_rfl) (by kernel_rfl) (by kernel_rfl) ?_
        refine q_call (k := 16) (args := #[coV c]) (.bool c.may) (by kernel_rfl) (fun _ => by kernel_rfl) (fun w _ => rcMay_any c w (short60c h1 h2).1) ?_
        rw [h3]
        refine q_val (.bool false) (by kernel_rfl) (fun _ => by kernel_rfl) ?_
        refine q_val (.bool false) (by kernel_rfl) (fun _ => by kernel_rfl) ?_
        refine q_val (.int .i64 (pcE c.print)) (by kernel_rfl) (fun _ => by kernel_rfl) ?_
        refine q_dec (p := ((pcE c.print) : Int) = 0) true (by kernel_rfl) (fun _ => by kernel_rfl) (decide_eq_true ((print_back h3).2)) ?_
        refine q_val (.bool true) (by kernel_rfl) (fun _ => by kernel_rfl) ?_
        refine q_load 0 ⟨b2, (coV (pcV c.print)).cells, 26⟩ (off := 0) (coV (pcV c.print)) (by kernel_rfl) rfl (by kernel_rfl) (by kernel_rfl) (by kernel_rfl) ?_
        refine q_load 1 ⟨b1, (coV c).cells, 26⟩ (off := 0) (coV c) (by kernel_rfl) rfl (by kernel_rfl) (by kernel_rfl) (by kernel_rfl) ?_
        refine q_val (.bool true) (by kernel_rfl) (op_eq_co (u := pcV c.print) (v := c) rfl (by kernel_rfl) (by kernel_rfl) (decide_eq_true ((print_back h3).1))) ?_
        refine q_val (.bool true) (by kernel_rfl) (fun _ => by kernel_rfl) ?_
        refine q_val (.bool true) (by kernel_rfl) (fun _ => by kernel_rfl) ?_
        refine q_val (.bool true) (by kernel_rfl) (fun _ => by kernel_rfl) ?_
        refine q_val (.bool true) (by kernel_rfl) (fun _ => by kernel_rfl) ?_
        refine q_nil ?_
        refine fin_seq ?_
        refine ok_ret ?_
        refine fin_ret (.bool true) Tryz.results4 (by kernel_rfl) ?_
        exact fun w hO => ⟨rfl, hO.below⟩
      | false =>
        refine q_val (.bool true) (by kernel_rfl) (fun _ => by kernel_rfl) ?_
        refine q_val (.bool true) (by kernel_rfl) (fun _ => by kernel_rfl) ?_
        refine q_val (.bool true) (by kernel_rfl) (fun _ => by kernel_rfl) ?_
        refine q_val (.string (mkS c.print)) (by kernel_rfl) (fun _ => by kernel_rfl) ?_
        refine q_load 1 ⟨b1, (coV c).cells, 26⟩ (off := 0) (coV c) (by kernel_rfl) rfl (by kernel_rfl) (by kernel_rfl) (by kernel_rfl) ?_
        refine q_call (k := 17) (args := #[coV c]) (.string (mkS c.print)) (by kernel_rfl) (fun _ => by kernel_rfl) (fun w hO => rcPrint_any c w (short60c h1 h2).1) ?_
        refine q_val (.bool true) (by kernel_rfl) (run_streql (a := c.print) (b := c.print) rfl (by kernel_rfl) (by kernel_rfl) (decide_eq_true (rfl))) ?_
        refine q_val (.bool true) (by kernel_rfl) (fun _ => by kernel_rfl) ?_
        refine q_val (.bool true) (by kernel_rfl) (fun _ => by kernel_rfl) ?_
        refine q_load 1 ⟨b1, (coV c).cells, 26⟩ (off := 0) (coV c) (by kernel_rfl) rfl (by kernel_rfl) (by kernel_rfl) (by kernel_rfl) ?_
        refine q_call (k := 16) (args := #[coV c]) (.bool c.may) (by kernel_rfl) (fun _ => by kernel_rfl) (fun w _ => rcMay_any c w (short60c h1 h2).1) ?_
        rw [h3]
        refine q_val (.bool true) (by kernel_rfl) (fun _ => by kernel_rfl) ?_
        refine q_val (.bool true) (by kernel_rfl) (fun _ => by kernel_rfl) ?_
        refine q_skip (by kernel_rfl) ?_
        refine q_skip (by kernel_rfl) ?_
        refine q_skip (by kernel_rfl) ?_
        refine q_skip (by kernel_rfl) ?_
        refine q_skip (by kernel_rfl) ?_
        refine q_skip (by kernel_rfl) ?_
        refine q_skip (by kernel_rfl) ?_
        refine q_val (.bool true) (by kernel_rfl) (fun _ => by kernel_rfl) ?_
        refine q_val (.bool true) (by kernel_rfl) (fun _ => by kernel_rfl) ?_
        refine q_val (.bool true) (by kernel_rfl) (fun _ => by kernel_rfl) ?_
        refine q_nil ?_
        refine fin_seq ?_
        refine ok_ret ?_
        refine fin_ret (.bool true) Tryz.results4 (by kernel_rfl) ?_
        exact fun w hO => ⟨rfl, hO.below⟩
end Go.Proofs.YtjabcbagggicaaaGreatDoor
end

section
/-
  CompPrints: for every input the call returns true, and each argument reads afterwards as it read before. Conditions: none but the row's own, that the listed package-level variables read as the program's text lays them.
-/
namespace Go.Proofs.YtjabcbagggicaaaGreatDoor.compPrints
open Go.ChangeShapes Go.WideShapes Go.ChangeAt Go.RowKit
open Go.ChangeMaps (open_string shut_string)
set_option linter.unusedVariables false

set_option maxRecDepth 100000 in
theorem contract (H : Type) (enc : TypeId × Value → H) (W : World) (base : Nat) (args : Array Value) (ds gs : List (DataW H)) (before : List MemPlace)
    (hval : ∀ (j : Nat) t v, Tryz.f4.params[j]? = some t → args[j]? = some v → Value.okWide Tryz.prog W .any base t v)
    (hW : DataW.Whole enc Tryz.prog Tryz.f4.params.toList Rows.compPrintsSpec.vars false W args.toList ds gs before) (hL : laidMetH Tryz.prog Rows.compPrintsRow.laid W) :
    Calls Tryz.prog 4 args W fun e W' => ∃ v, e = .returned v ∧ Rows.compPrintsSpec.post enc Tryz.prog Tryz.f4 false true false false W args v W' := by
  have ht : HasTab W := hasTab_of hL (by rfl)
  have hW' := hW
  obtain ⟨p, q, hA0, hV, rfl, hfz, hnd⟩ := hW
  have hA : DataW.TrodAll enc Tryz.prog W 0 (fun _ => true) true Tryz.f4.params.toList args.toList ds p := hA0
  rw [Tryz.params4] at hA hval
  obtain ⟨v0, vs0, d0, ds0, p0, q0, hargs, rfl, rfl, h0, r0⟩ := trodAll_cons hA
  obtain ⟨rfl, rfl, rfl⟩ := trodAll_nil r0
  obtain rfl : args = #[v0] := by cases args; simp_all
  obtain ⟨rfl, rfl⟩ := trodVars_none hV
  clear hA0
  obtain ⟨c, rfl, c_w⟩ := open_coV (hval 0 26 v0 rfl rfl) h0
  refine (compPrints.law W c ht).mono fun e W' ⟨he, hb⟩ => ?_
  subst he
  exact ⟨_, rfl, law_end laidOut (fun t ht => by rw [Tryz.params4] at ht; simp at ht; subst ht; exact ⟨by kernel_rfl, of_decide_eq_true (by kernel_rfl)⟩) rfl rfl Tryz.underlying4 hW' (by rfl) hb⟩

noncomputable def laidWorld (os : Os) : World :=
  { World.holding Tryz.prog os ⟨#[], #[], []⟩ with heap := layAt (layAt (layAt (layAt (layAt ((World.holding Tryz.prog os ⟨#[], #[], []⟩).heap) 4 Rows.laid_math_bits_deBruijn32tab) 5 Rows.laid_math_bits_deBruijn64tab) 3 Rows.laid_internal_strconv_uint64pow10) 2 Rows.laid_unicode_utf8_acceptRanges) 1 Rows.laid_unicode_utf8_first }
theorem laid_met (os : Os) : laidMet Tryz.prog Rows.compPrintsRow.laid ((laidWorld os).forCall (fun _ _ => 0) ⟨#[], #[.agg #[.int .i64 0, .int .i64 0, .int .i64 0, .int .i64 0, .int .i64 0, .string ⟨#[]⟩, .string ⟨#[]⟩]], []⟩).memory :=
  laidMet_of_run' 8 (by kernel_rfl) (by kernel_rfl)
theorem reads (os : Os) {H : Type} (enc : TypeId × Value → H) : ∃ places, DataW.whole enc Tryz.prog ((laidWorld os).forCall (fun _ _ => 0) ⟨#[], #[.agg #[.int .i64 0, .int .i64 0, .int .i64 0, .int .i64 0, .int .i64 0, .string ⟨#[]⟩, .string ⟨#[]⟩]], []⟩).memory Tryz.f4.params.toList Rows.compPrintsSpec.vars false (#[.agg #[.int .i64 0, .int .i64 0, .int .i64 0, .int .i64 0, .int .i64 0, .string ⟨#[]⟩, .string ⟨#[]⟩]] : Array Value).toList 8 = some ([.agg [.lit (.int .i64 0), .lit (.int .i64 0), .agg [.lit (.int .i64 0), .lit (.int .i64 0), .lit (.int .i64 0), .lit (.string []), .lit (.string [])]]], [], places) :=
  ⟨[], by kernel_rfl⟩

set_option maxRecDepth 100000 in
theorem lifted (os : Os) (started : os.Started) (H : Type) (enc : TypeId × Value → H) (F : Stop.Interp) :
    ReturnsInHanded {} Tryz.checked os 4 .any ((OpenSpec.ofChange Rows.compPrintsSpec).preRow enc Tryz.prog Tryz.f4 Rows.compPrintsRow.domain false Rows.compPrintsRow.laid) (((OpenSpec.ofChange Rows.compPrintsSpec).at F).post enc Tryz.prog Tryz.f4 false true false false) := by
  obtain ⟨places, hx⟩ := reads os enc
  refine returnsInHanded_of_row (C := Tryz.checked) (s := OpenSpec.ofChange Rows.compPrintsSpec) own started (by kernel_rfl) Tryz.func4
    (witness_row_at (enc := enc) (C := Tryz.checked) false (laidWorld os) #[.agg #[.int .i64 0, .int .i64 0, .int .i64 0, .int .i64 0, .int .i64 0, .string ⟨#[]⟩, .string ⟨#[]⟩]] rfl (by kernel_rfl) (by kernel_rfl) (by kernel_rfl)
      (OpenSpec.preRow_of_cond 8 hx (by kernel_rfl) (fun k hk => by cases hk) (by kernel_rfl) (laid_met os))) ?_
  intro W base args ds gs before hval hW _ _ _ hL _ _
  exact contract H enc W base args ds gs before hval hW hL

theorem said : Rows.CompPrintsSaid :=
  OpenClaim.holds_of_cond 4 Tryz.f4 rfl rfl rfl rfl rfl rfl rfl ⟨rfl, rfl, rfl, rfl, rfl⟩ rfl rfl rfl rfl rfl (by kernel_rfl) Tryz.func4 (by kernel_rfl)
    (of_decide_eq_true (by kernel_rfl)) (by unfold Func.isWrapper; first | (rw [if_pos (by decide +kernel)]; kernel_rfl) | (rw [if_neg (by decide +kernel)]; exact ⟨rfl, rfl⟩))
    (fun os started H enc _ F => by rw [OpenClaim.pre_eq_preRow]; exact lifted os started H enc F)

theorem plain (f : FuncId) (fn : Func) (hf : Tryz.pinned.checked.prog.funcNamed "linchpin/linchpinlaw6.CompPrints" = some f) (hfn : Tryz.pinned.checked.prog.funcs[f]? = some fn) :
    false = Tryz.pinned.checked.prog.looks [] ∧ ∀ (j : Nat) t, fn.params[j]? = some t → Tryz.pinned.checked.prog.wantsStandIn t = false := by
  obtain rfl : f = 4 := Option.some.inj ((show Tryz.prog.funcNamed "linchpin/linchpinlaw6.CompPrints" = some 4 by kernel_rfl).symm.trans hf) |>.symm
  obtain rfl : fn = Tryz.f4 := (Option.some.inj (Tryz.func4.symm.trans hfn)).symm
  refine ⟨by kernel_rfl, fun j t ht => ?_⟩
  rw [Tryz.params4] at ht
  have hm := Array.mem_of_getElem? ht
  simp at hm
  subst hm
  exact (show Tryz.prog.wantsStandIn 26 = false by kernel_rfl)

theorem card : Rows.CompPrintsCardSaid :=
  Claim7.holds_tied_plain_at .later [] _ _ _ _ said (fun _ h => by cases h) (by kernel_rfl) (fun _ h => by cases h) compPrints_row_tie rfl ⟨rfl, rfl⟩ (by kernel_rfl) rfl plain (by kernel_rfl)

#print axioms card
end Go.Proofs.YtjabcbagggicaaaGreatDoor.compPrints
end
