/-
  TellScopes: for every input the call returns true, and each argument reads afterwards as it read before. Conditions: none but the row's own, that the listed package-level variables read as the program's text lays them.
-/
import Derived.Test.YtiekhkapgjdblaaGreatDoorCards
import Derived.Test.YtiekhkapgjdblaaGreatDoorTie
import Derived.Test.YtiekhkapgjdblaaGreatDoorTS7

section
/-
  TellScopes: for any string the law returns true, and nothing that was there is changed. Condition: the library's tables read as they are laid.
-/
namespace Go.Proofs.YtiekhkapgjdblaaGreatDoor
open Go.RowKit
set_option maxRecDepth 100000
set_option linter.unusedVariables false
set_option linter.unusedSimpArgs false
set_option maxHeartbeats 2000000

set_option maxHeartbeats 1000000 in
theorem tellScopes.law (W : World) (s : List UInt8) (ht : HasLib W) :
    Calls Tryz.prog 7 #[.string (mkS s)] W fun e w' => e = .returned (.bool true) ∧ Below W.heap.size W w' := by
  have hsz := x6 s
  obtain ⟨T, hT⟩ : ∃ T, T = yN (yW ((y7 s).getD [])) := ⟨_, rfl⟩
  have hfs : SF (yW ((y7 s).getD [])) 198 := rgSet_sf _
  have hTl : T.length ≤ 90000 := by have := sprint_len hfs; rw [hT]; omega
  refine zR (n := 35) Tryz.func7 rfl (by kernel_rfl) (by kernel_rfl) (ZO (Zv (.bool false) (ZN (z6 (ZO (Zv (.string (mkS s)) (Zv (.int .i64 ((mkS s).size)) ?_)))))))
  by_cases h1 : (96 : Int) < (mkS s).size
  · refine yS (p := (96 : Int) < (mkS s).size) true (by kernel_rfl) (fun _ => by kernel_rfl) (decide_eq_true (h1)) ?_
    refine ZY (ZO (Zc (k := 10) (args := #[]) (.bool true) (fun w hO => nW w (ht.on hO.below)) (Zv (.bool true) (ZN (zF (zA (ZF (.bool true) Tryz.results7 ?_)))))))
    exact fun w hO => ⟨rfl, hO.below⟩
  refine Zd (p := (96 : Int) < (mkS s).size) false (decide_eq_false (h1)) (ZX (ZB (ZO (Zv (.string (mkS s)) (zV (k := 18) (args := #[.string (mkS s)]) (fun v' L' => ∃ sv ob', v' = .tuple #[sv, .int .i64 (qE s)] ∧ L' = ob' ++ ([]) ∧ SetO sv (yW ((y7 s).getD [])) ob') (by kernel_rfl) (fun _ => by kernel_rfl) (fun w hO => (gOf_any s w (by omega) (ht.on hO.below)).mono fun e w' ⟨v', ob', k1, k2, k3⟩ => ⟨.tuple #[v', .int .i64 (qE s)], _, k1.trans (by rw [show qE s = (qE s) from rfl]), ⟨v', ob', rfl, rfl, by rw [show (y7 s).getD [] = (y7 s).getD [] from rfl] at k2; exact k2⟩, Own.joinN hO k3⟩) (fun tv L1 hv1 => ?_))))))
  obtain ⟨sv1, o1, rfl, rfl, hr1⟩ := hv1
  obtain ⟨V1, U1, c1, d1, rfl⟩ := hr1.form
  refine xM (L' := o1) (List.append_nil _) (Zv (.tuple #[.agg #[.slice V1 ((yW ((y7 s).getD [])).rel.length) c1, .slice U1 ((yW ((y7 s).getD [])).pre.length) d1], .int .i64 (qE s)]) (Zv (.agg #[.slice V1 ((yW ((y7 s).getD [])).rel.length) c1, .slice U1 ((yW ((y7 s).getD [])).pre.length) d1]) (Zv (.int .i64 (qE s)) (Za (.agg #[.slice none 0 0, .slice none 0 0]) (fun b1 => Zs 0 ⟨b1, #[.slice none 0 0, .slice none 0 0], 24⟩ (off := 0) (.agg #[.slice V1 ((yW ((y7 s).getD [])).rel.length) c1, .slice U1 ((yW ((y7 s).getD [])).pre.length) d1]) (Zv (.int .i64 (qE s)) (ZN (z6 (z6 (z7 ?_))))))))))
  refine Zv (.int .i64 (qE s)) ?_
  by_cases h2 : ((qE s) : Int) = 0
  · refine d9 (p := ((qE s) : Int) = 0) true (by kernel_rfl) (fun _ => by kernel_rfl) (decide_eq_true (h2)) ?_
    refine ZX (ZB (ZO (Zl 0 ⟨b1, #[.slice V1 ((yW ((y7 s).getD [])).rel.length) c1, .slice U1 ((yW ((y7 s).getD [])).pre.length) d1], 24⟩ (off := 0) (.agg #[.slice V1 ((yW ((y7 s).getD [])).rel.length) c1, .slice U1 ((yW ((y7 s).getD [])).pre.length) d1]) (Zc (k := 11) (args := #[.agg #[.slice V1 ((yW ((y7 s).getD [])).rel.length) c1, .slice U1 ((yW ((y7 s).getD [])).pre.length) d1]]) (.string (mkS T)) (fun w hO => jB (by rw [show yN (yW ((y7 s).getD [])) = T from hT.symm]) (vS V1 U1 c1 d1 (yW ((y7 s).getD [])) w (SetO.inn hr1 hO (fun x hx => by simp [hx]) ((rgSet_sf ((y7 s).getD []))) (by decide)) hr1.caps (ht.tab.on hO.below))) (zV (k := 13) (args := #[.string (mkS T)]) (fun v' L' => ∃ sv ob', v' = .tuple #[sv, .int .i64 0] ∧ L' = ob' ++ (⟨b1, #[.slice V1 ((yW ((y7 s).getD [])).rel.length) c1, .slice U1 ((yW ((y7 s).getD [])).pre.length) d1], 24⟩ :: (o1)) ∧ SetO sv (yW ((y7 s).getD [])) ob') (by kernel_rfl) (fun _ => by kernel_rfl) (fun w hO => (n4 T w hTl (ht.on hO.below)).mono fun e w' ⟨v', ob', k1, k2, k3⟩ => ⟨.tuple #[v', .int .i64 0], _, k1.trans (by rw [show f0 T = 0 from by rw [hT]; exact serr_print hfs]), ⟨v', ob', rfl, rfl, by rw [show (gZ T).getD yY = yW ((y7 s).getD []) from by rw [hT]; exact sget_print hfs] at k2; exact k2⟩, Own.joinN hO k3⟩) (fun tv L2 hv2 => ?_))))))
    obtain ⟨sv2, o2, rfl, rfl, hr2⟩ := hv2
    obtain ⟨V2, U2, c2, d2, rfl⟩ := hr2.form
    refine Zv (.tuple #[.agg #[.slice V2 ((yW ((y7 s).getD [])).rel.length) c2, .slice U2 ((yW ((y7 s).getD [])).pre.length) d2], .int .i64 0]) (Zv (.agg #[.slice V2 ((yW ((y7 s).getD [])).rel.length) c2, .slice U2 ((yW ((y7 s).getD [])).pre.length) d2]) (Zv (.int .i64 0) (Za (.agg #[.slice none 0 0, .slice none 0 0]) (fun b2 => Zs 0 ⟨b2, #[.slice none 0 0, .slice none 0 0], 24⟩ (off := 0) (.agg #[.slice V2 ((yW ((y7 s).getD [])).rel.length) c2, .slice U2 ((yW ((y7 s).getD [])).pre.length) d2]) (Zv (.int .i64 0) (ZR (Zc (k := 10) (args := #[]) (.bool true) (fun w hO => nW w (ht.on hO.below)) (Zv (.bool true) ?_))))))))
    refine Zv (.int .i64 0) (Zv (.bool true) (Zv (.bool true) (Zv (.bool true) (pF ⟨b1, #[.slice V1 ((yW ((y7 s).getD [])).rel.length) c1, .slice U1 ((yW ((y7 s).getD [])).pre.length) d1], 24⟩ (off := 0) (.agg #[.slice V1 ((yW ((y7 s).getD [])).rel.length) c1, .slice U1 ((yW ((y7 s).getD [])).pre.length) d1]) (by kernel_rfl) rfl (by simp) (by kernel_rfl) (by kernel_rfl) (Zl 0 ⟨b2, #[.slice V2 ((yW ((y7 s).getD [])).rel.length) c2, .slice U2 ((yW ((y7 s).getD [])).pre.length) d2], 24⟩ (off := 0) (.agg #[.slice V2 ((yW ((y7 s).getD [])).rel.length) c2, .slice U2 ((yW ((y7 s).getD [])).pre.length) d2]) (Zc (k := 15) (args := #[.agg #[.slice V1 ((yW ((y7 s).getD [])).rel.length) c1, .slice U1 ((yW ((y7 s).getD [])).pre.length) d1], .agg #[.slice V2 ((yW ((y7 s).getD [])).rel.length) c2, .slice U2 ((yW ((y7 s).getD [])).pre.length) d2]]) (.bool true) (fun w hO => ret_b (same8_t (rfl)) (rsetSame_any V1 U1 V2 U2 c1 d1 c2 d2 (yW ((y7 s).getD [])) (yW ((y7 s).getD [])) w (SetO.inn hr1 hO (fun x hx => by simp [hx]) ((rgSet_sf ((y7 s).getD []))) (by decide)) (SetO.inn hr2 hO (fun x hx => by simp [hx]) (hfs) (by decide)))) (Zv (.bool true) (Zv (.bool true) (ZN (zF ?_))))))))))
    exact ZF (.bool true) Tryz.results7 (fun w hO => ⟨rfl, hO.below⟩)
  refine Zn (p := ((qE s) : Int) = 0) false (decide_eq_false (h2)) (ZY (ZO (Zc (k := 10) (args := #[]) (.bool true) (fun w hO => nW w (ht.on hO.below)) (Zv (.bool true) (ZN (zF (zA ?_)))))))
  exact ZF (.bool true) Tryz.results7 (fun w hO => ⟨rfl, hO.below⟩)
end Go.Proofs.YtiekhkapgjdblaaGreatDoor
end

section
/-
  TellScopes: for every input the call returns true, and each argument reads afterwards as it read before. Conditions: none but the row's own, that the listed package-level variables read as the program's text lays them.
-/
namespace Go.Proofs.YtiekhkapgjdblaaGreatDoor.tellScopes
open Go.ChangeShapes Go.WideShapes Go.ChangeAt Go.RowKit
open Go.ChangeMaps (open_string shut_string)
set_option linter.unusedVariables false

set_option maxRecDepth 100000 in
theorem contract (H : Type) (enc : TypeId × Value → H) (W : World) (base : Nat) (args : Array Value) (ds gs : List (DataW H)) (before : List MemPlace)
    (hval : ∀ (j : Nat) t v, Tryz.f7.params[j]? = some t → args[j]? = some v → Value.okWide Tryz.prog W .any base t v)
    (hW : DataW.Whole enc Tryz.prog Tryz.f7.params.toList Rows.tellScopesSpec.vars false W args.toList ds gs before) (hL : laidMetH Tryz.prog Rows.tellScopesRow.laid W) (hS : W.ShapedOpen Tryz.prog) :
    Calls Tryz.prog 7 args W fun e W' => ∃ v, e = .returned v ∧ Rows.tellScopesSpec.post enc Tryz.prog Tryz.f7 false true false false W args v W' := by
  have ht : HasLib W := hasLib_of (hasTab_of hL (by rfl)) hS
  have hW' := hW
  obtain ⟨p, q, hA0, hV, rfl, hfz, hnd⟩ := hW
  have hA : DataW.TrodAll enc Tryz.prog W 0 (fun _ => true) true Tryz.f7.params.toList args.toList ds p := hA0
  rw [Tryz.params7] at hA hval
  obtain ⟨v0, vs0, d0, ds0, p0, q0, hargs, rfl, rfl, h0, r0⟩ := trodAll_cons hA
  obtain ⟨rfl, rfl, rfl⟩ := trodAll_nil r0
  obtain rfl : args = #[v0] := by cases args; simp_all
  obtain ⟨rfl, rfl⟩ := trodVars_none hV
  obtain ⟨s, rfl, rfl, rfl, w0⟩ := open_string Tryz.underlying9 (hval 0 9 v0 rfl rfl) h0
  clear hA0
  obtain ⟨s_l, rfl⟩ : ∃ l : List UInt8, s = mkS l := ⟨s.data.toList, (mk_self s).symm⟩
  refine (tellScopes.law W s_l ht).mono fun e W' ⟨he, hb⟩ => ?_
  subst he
  exact ⟨_, rfl, law_end laidOut (fun t ht => by rw [Tryz.params7] at ht; simp at ht; subst ht; exact ⟨by kernel_rfl, of_decide_eq_true (by kernel_rfl)⟩) rfl rfl Tryz.underlying4 hW' (by rfl) hb⟩

noncomputable def tR (os : Os) : World :=
  { World.holding Tryz.prog os ⟨#[], #[], []⟩ with heap := layAt (layAt (layAt (layAt (layAt ((World.holding Tryz.prog os ⟨#[], #[], []⟩).heap) 4 Rows.laid_math_bits_deBruijn32tab) 5 Rows.laid_math_bits_deBruijn64tab) 3 Rows.laid_internal_strconv_uint64pow10) 2 Rows.laid_unicode_utf8_acceptRanges) 1 Rows.laid_unicode_utf8_first }
theorem laid_met (os : Os) : laidMet Tryz.prog Rows.tellScopesRow.laid ((tR os).forCall (fun _ _ => 0) ⟨#[], #[.string ⟨#[]⟩], []⟩).memory :=
  laidMet_of_run' 8 (by kernel_rfl) (by kernel_rfl)
theorem reads (os : Os) {H : Type} (enc : TypeId × Value → H) : ∃ places, DataW.whole enc Tryz.prog ((tR os).forCall (fun _ _ => 0) ⟨#[], #[.string ⟨#[]⟩], []⟩).memory Tryz.f7.params.toList Rows.tellScopesSpec.vars false (#[.string ⟨#[]⟩] : Array Value).toList 8 = some ([.lit (.string [])], [], places) :=
  ⟨[], by kernel_rfl⟩

set_option maxRecDepth 100000 in
theorem lifted (os : Os) (started : os.Started) (H : Type) (enc : TypeId × Value → H) (F : Stop.Interp) :
    ReturnsInHanded {} Tryz.checked os 7 .any ((OpenSpec.ofChange Rows.tellScopesSpec).preRow enc Tryz.prog Tryz.f7 Rows.tellScopesRow.domain false Rows.tellScopesRow.laid) (((OpenSpec.ofChange Rows.tellScopesSpec).at F).post enc Tryz.prog Tryz.f7 false true false false) := by
  obtain ⟨places, hx⟩ := reads os enc
  refine returnsInHanded_of_row (C := Tryz.checked) (s := OpenSpec.ofChange Rows.tellScopesSpec) own started (by kernel_rfl) Tryz.func7
    (witness_row_at (enc := enc) (C := Tryz.checked) false (tR os) #[.string ⟨#[]⟩] rfl (by kernel_rfl) (by kernel_rfl) (by kernel_rfl)
      (OpenSpec.preRow_of_cond 8 hx (by kernel_rfl) (fun k hk => by cases hk) (by kernel_rfl) (laid_met os))) ?_
  intro W base args ds gs before hval hW _ _ _ hL hS _
  exact contract H enc W base args ds gs before hval hW hL hS

theorem said : Rows.TellScopesSaid :=
  OpenClaim.holds_of_cond 7 Tryz.f7 rfl rfl rfl rfl rfl rfl rfl ⟨rfl, rfl, rfl, rfl, rfl⟩ rfl rfl rfl rfl rfl (by kernel_rfl) Tryz.func7 (by kernel_rfl)
    (of_decide_eq_true (by kernel_rfl)) (by unfold Func.isWrapper; first | (rw [if_pos (by decide +kernel)]; kernel_rfl) | (rw [if_neg (by decide +kernel)]; exact ⟨rfl, rfl⟩))
    (fun os started H enc _ F => by rw [OpenClaim.pre_eq_preRow]; exact lifted os started H enc F)

theorem plain (f : FuncId) (fn : Func) (hf : Tryz.pinned.checked.prog.funcNamed "linchpin/linchpinlaw8.TellScopes" = some f) (hfn : Tryz.pinned.checked.prog.funcs[f]? = some fn) :
    false = Tryz.pinned.checked.prog.looks [] ∧ ∀ (j : Nat) t, fn.params[j]? = some t → Tryz.pinned.checked.prog.wantsStandIn t = false := by
  obtain rfl : f = 7 := Option.some.inj ((show Tryz.prog.funcNamed "linchpin/linchpinlaw8.TellScopes" = some 7 by kernel_rfl).symm.trans hf) |>.symm
  obtain rfl : fn = Tryz.f7 := (Option.some.inj (Tryz.func7.symm.trans hfn)).symm
  refine ⟨by kernel_rfl, fun j t ht => ?_⟩
  rw [Tryz.params7] at ht
  have hm := Array.mem_of_getElem? ht
  simp at hm
  subst hm
  exact (show Tryz.prog.wantsStandIn 9 = false by kernel_rfl)

theorem card : Rows.TellScopesCardSaid :=
  Claim7.holds_tied_plain_at .later [] _ _ _ _ said (fun _ h => by cases h) (by kernel_rfl) (fun _ h => by cases h) tellScopes_row_tie rfl ⟨rfl, rfl⟩ (by kernel_rfl) rfl plain (by kernel_rfl)

#print axioms card
end Go.Proofs.YtiekhkapgjdblaaGreatDoor.tellScopes
end
