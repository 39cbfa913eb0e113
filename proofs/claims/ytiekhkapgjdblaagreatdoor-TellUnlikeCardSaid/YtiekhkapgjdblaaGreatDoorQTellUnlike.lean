/-
  TellUnlike: for every input the call returns true, and each argument reads afterwards as it read before. Conditions: none but the row's own, that the listed package-level variables read as the program's text lays them.
-/
import Derived.Test.YtiekhkapgjdblaaGreatDoorCards
import Derived.Test.YtiekhkapgjdblaaGreatDoorTie
import Derived.Test.YtiekhkapgjdblaaGreatDoorTA6

section
/-
  TellUnlike: for any lists of numbers the law returns true, and nothing that was there is changed. Condition: the library's tables read as they are laid.
-/
namespace Go.Proofs.YtiekhkapgjdblaaGreatDoor
open Go.RowKit
set_option maxRecDepth 100000
set_option linter.unusedVariables false
set_option linter.unusedSimpArgs false
set_option maxHeartbeats 2000000

set_option maxHeartbeats 1000000 in
theorem tellUnlike.law (W : World) (x : Value) (xl : List Int) (hxl : ReadsI W W.heap.size x xl) (lxl : xl.length ≤ maxLen) (y : Value) (yl : List Int) (hyl : ReadsI W W.heap.size y yl) (lyl : yl.length ≤ maxLen) (ht : HasLib W) :
    Calls Tryz.prog 6 #[x, y] W fun e w' => e = .returned (.bool true) ∧ Below W.heap.size W w' := by
  obtain ⟨a, ea⟩ : ∃ q, q = setG xl 0 := ⟨_, rfl⟩
  have fa : SF a 22 := ea ▸ setG_sf xl 0
  obtain ⟨b, eb⟩ : ∃ q, q = setG yl 0 := ⟨_, rfl⟩
  have fb : SF b 22 := eb ▸ setG_sf yl 0
  refine zM (n := 23) Tryz.func6 rfl (by kernel_rfl) (by kernel_rfl) (ZO (Zv (.bool false) (ZR (Zv (x) (y9 (k := 16) (args := #[x, .int .i64 0]) (fun v' L' => ∃ ob', L' = ob' ++ ([]) ∧ SetO v' (a) ob') (by kernel_rfl) (fun _ => by kernel_rfl) (fun w hO => (d6 x xl 0 w ((hxl.below hO.below).more hO.below.size) (by unfold maxLen at lxl; omega) (by omega)).mono fun e w' ⟨v', ob', k1, k2, k3⟩ => ⟨v', _, k1, ⟨ob', rfl, by rw [← ea] at k2; exact k2⟩, Own.joinN hO k3⟩) (fun v1 L1 hv1 => ?_))))))
  obtain ⟨o1, rfl, hr1⟩ := hv1
  obtain ⟨V1, U1, c1, d1, rfl⟩ := hr1.form
  refine kI (L' := o1) (List.append_nil _) (Zv (y) (y9 (k := 16) (args := #[y, .int .i64 0]) (fun v' L' => ∃ ob', L' = ob' ++ (o1) ∧ SetO v' (b) ob') (by kernel_rfl) (fun _ => by kernel_rfl) (fun w hO => (d6 y yl 0 w ((hyl.below hO.below).more hO.below.size) (by unfold maxLen at lyl; omega) (by omega)).mono fun e w' ⟨v', ob', k1, k2, k3⟩ => ⟨v', _, k1, ⟨ob', rfl, by rw [← eb] at k2; exact k2⟩, Own.joinN hO k3⟩) (fun v2 L2 hv2 => ?_)))
  obtain ⟨o2, rfl, hr2⟩ := hv2
  obtain ⟨V2, U2, c2, d2, rfl⟩ := hr2.form
  refine Za (.agg #[.slice none 0 0, .slice none 0 0]) (fun b1 => Za (.agg #[.slice none 0 0, .slice none 0 0]) (fun b2 => Zs 1 ⟨b1, #[.slice none 0 0, .slice none 0 0], 24⟩ (off := 0) (.agg #[.slice V1 ((a).rel.length) c1, .slice U1 ((a).pre.length) d1]) (Zs 0 ⟨b2, #[.slice none 0 0, .slice none 0 0], 24⟩ (off := 0) (.agg #[.slice V2 ((b).rel.length) c2, .slice U2 ((b).pre.length) d2]) (ZN (z8 (g7 (by kernel_rfl) (by kernel_rfl) (Zq (k := 10) (args := #[]) (.bool true) (fun w hO => gN w (ht.on hO.below)) (Zw (.bool true) (Zm 1 ⟨b1, #[.slice V1 ((a).rel.length) c1, .slice U1 ((a).pre.length) d1], 24⟩ (off := 0) (.agg #[.slice V1 ((a).rel.length) c1, .slice U1 ((a).pre.length) d1]) (Zq (k := 11) (args := #[.agg #[.slice V1 ((a).rel.length) c1, .slice U1 ((a).pre.length) d1]]) (.string (mkS (zG a))) (fun w hO => xN V1 U1 c1 d1 a w (SetO.inn hr1 hO (fun x hx => by simp [hx]) (fa) (by decide)) hr1.caps (ht.tab.on hO.below)) ?_))))))))))
  refine Zm 0 ⟨b2, #[.slice V2 ((b).rel.length) c2, .slice U2 ((b).pre.length) d2], 24⟩ (off := 0) (.agg #[.slice V2 ((b).rel.length) c2, .slice U2 ((b).pre.length) d2]) (Zq (k := 11) (args := #[.agg #[.slice V2 ((b).rel.length) c2, .slice U2 ((b).pre.length) d2]]) (.string (mkS (zG b))) (fun w hO => xN V2 U2 c2 d2 b w (SetO.inn hr2 hO (fun x hx => by simp [hx]) (fb) (by decide)) hr2.caps (ht.tab.on hO.below)) ?_)
  by_cases h1 : a = b
  · refine kL (.bool true) (by kernel_rfl) (zI (a := (zG a)) (b := (zG b)) rfl (by kernel_rfl) (by kernel_rfl) (decide_eq_true (by rw [h1]))) ?_
    exact Zm 1 ⟨b1, #[.slice V1 ((a).rel.length) c1, .slice U1 ((a).pre.length) d1], 24⟩ (off := 0) (.agg #[.slice V1 ((a).rel.length) c1, .slice U1 ((a).pre.length) d1]) (Zm 0 ⟨b2, #[.slice V2 ((b).rel.length) c2, .slice U2 ((b).pre.length) d2], 24⟩ (off := 0) (.agg #[.slice V2 ((b).rel.length) c2, .slice U2 ((b).pre.length) d2]) (Zq (k := 15) (args := #[.agg #[.slice V1 ((a).rel.length) c1, .slice U1 ((a).pre.length) d1], .agg #[.slice V2 ((b).rel.length) c2, .slice U2 ((b).pre.length) d2]]) (.bool true) (fun w hO => ret_b (same8_t (h1)) (qH V1 U1 V2 U2 c1 d1 c2 d2 a b w (SetO.inn hr1 hO (fun x hx => by simp [hx]) (fa) (by decide)) (SetO.inn hr2 hO (fun x hx => by simp [hx]) (fb) (by decide)))) (Zw (.bool true) (Zw (.bool true) (Zw (.bool true) (xP (z7 (zB (ZF (.bool true) Tryz.results6 (fun w hO => ⟨rfl, hO.below⟩))))))))))
  exact kL (.bool false) (by kernel_rfl) (zI (a := (zG a)) (b := (zG b)) rfl (by kernel_rfl) (by kernel_rfl) (decide_eq_false (fun e => h1 (sprint_inj fa fb e)))) (Zm 1 ⟨b1, #[.slice V1 ((a).rel.length) c1, .slice U1 ((a).pre.length) d1], 24⟩ (off := 0) (.agg #[.slice V1 ((a).rel.length) c1, .slice U1 ((a).pre.length) d1]) (Zm 0 ⟨b2, #[.slice V2 ((b).rel.length) c2, .slice U2 ((b).pre.length) d2], 24⟩ (off := 0) (.agg #[.slice V2 ((b).rel.length) c2, .slice U2 ((b).pre.length) d2]) (Zq (k := 15) (args := #[.agg #[.slice V1 ((a).rel.length) c1, .slice U1 ((a).pre.length) d1], .agg #[.slice V2 ((b).rel.length) c2, .slice U2 ((b).pre.length) d2]]) (.bool false) (fun w hO => ret_b (same8_f (h1)) (qH V1 U1 V2 U2 c1 d1 c2 d2 a b w (SetO.inn hr1 hO (fun x hx => by simp [hx]) (fa) (by decide)) (SetO.inn hr2 hO (fun x hx => by simp [hx]) (fb) (by decide)))) (Zw (.bool true) (Zw (.bool true) (Zw (.bool true) (xP (z7 (zB (ZF (.bool true) Tryz.results6 (fun w hO => ⟨rfl, hO.below⟩)))))))))))
end Go.Proofs.YtiekhkapgjdblaaGreatDoor
end

section
/-
  TellUnlike: for every input the call returns true, and each argument reads afterwards as it read before. Conditions: none but the row's own, that the listed package-level variables read as the program's text lays them.
-/
namespace Go.Proofs.YtiekhkapgjdblaaGreatDoor.tellUnlike
open Go.ChangeShapes Go.WideShapes Go.ChangeAt Go.RowKit
open Go.ChangeMaps (open_string shut_string)
set_option linter.unusedVariables false

set_option maxRecDepth 100000 in
theorem vN (H : Type) (enc : TypeId × Value → H) (W : World) (base : Nat) (args : Array Value) (ds gs : List (DataW H)) (before : List MemPlace)
    (hval : ∀ (j : Nat) t v, Tryz.f6.params[j]? = some t → args[j]? = some v → Value.okWide Tryz.prog W .any base t v)
    (hW : DataW.Whole enc Tryz.prog Tryz.f6.params.toList Rows.tellUnlikeSpec.vars false W args.toList ds gs before) (hL : laidMetH Tryz.prog Rows.tellUnlikeRow.laid W) (hS : W.ShapedOpen Tryz.prog) :
    Calls Tryz.prog 6 args W fun e W' => ∃ v, e = .returned v ∧ Rows.tellUnlikeSpec.post enc Tryz.prog Tryz.f6 false true false false W args v W' := by
  have ht : HasLib W := bS (bR hL (by rfl)) hS
  have hW' := hW
  obtain ⟨p, q, hA0, hV, rfl, hfz, hnd⟩ := hW
  have hA : DataW.TrodAll enc Tryz.prog W 0 (fun _ => true) true Tryz.f6.params.toList args.toList ds p := hA0
  rw [Tryz.params6] at hA hval
  obtain ⟨v0, vs0, d0, ds0, p0, q0, hargs, rfl, rfl, h0, r0⟩ := trodAll_cons hA
  obtain ⟨v1, vs1, d1, ds1, p1, q1, rfl, rfl, rfl, h1, r1⟩ := trodAll_cons r0
  obtain ⟨rfl, rfl, rfl⟩ := trodAll_nil r1
  obtain rfl : args = #[v0, v1] := by cases args; simp_all
  obtain ⟨rfl, rfl⟩ := trodVars_none hV
  clear hA0
  obtain ⟨l, l_reads, l_len⟩ := fY (hval 0 33 v0 rfl rfl) h0
  obtain ⟨m, m_reads, m_len⟩ := fY (hval 1 33 v1 rfl rfl) h1
  refine (tellUnlike.law W v0 l l_reads l_len v1 m m_reads m_len ht).mono fun e W' ⟨he, hb⟩ => ?_
  subst he
  exact ⟨_, rfl, pE pF (fun t ht => by rw [Tryz.params6] at ht; simp at ht; subst ht; exact ⟨by kernel_rfl, of_decide_eq_true (by kernel_rfl)⟩) rfl rfl Tryz.underlying4 hW' (by rfl) hb⟩

noncomputable def xC (os : Os) : World :=
  { World.holding Tryz.prog os ⟨#[], #[], []⟩ with heap := gP (gP (gP (gP (gP ((World.holding Tryz.prog os ⟨#[], #[], []⟩).heap) 4 Rows.laid_math_bits_deBruijn32tab) 5 Rows.laid_math_bits_deBruijn64tab) 3 Rows.laid_internal_strconv_uint64pow10) 2 Rows.laid_unicode_utf8_acceptRanges) 1 Rows.laid_unicode_utf8_first }
theorem vK (os : Os) : laidMet Tryz.prog Rows.tellUnlikeRow.laid ((xC os).forCall (fun _ _ => 0) ⟨#[], #[.slice none 0 0, .slice none 0 0], []⟩).memory :=
  laidMet_of_run' 8 (by kernel_rfl) (by kernel_rfl)
theorem reads (os : Os) {H : Type} (enc : TypeId × Value → H) : ∃ places, DataW.whole enc Tryz.prog ((xC os).forCall (fun _ _ => 0) ⟨#[], #[.slice none 0 0, .slice none 0 0], []⟩).memory Tryz.f6.params.toList Rows.tellUnlikeSpec.vars false (#[.slice none 0 0, .slice none 0 0] : Array Value).toList 8 = some ([.nil, .nil], [], places) :=
  ⟨[], by kernel_rfl⟩

set_option maxRecDepth 100000 in
theorem dF (os : Os) (started : os.Started) (H : Type) (enc : TypeId × Value → H) (F : Stop.Interp) :
    ReturnsInHanded {} Tryz.checked os 6 .any ((OpenSpec.ofChange Rows.tellUnlikeSpec).preRow enc Tryz.prog Tryz.f6 Rows.tellUnlikeRow.domain false Rows.tellUnlikeRow.laid) (((OpenSpec.ofChange Rows.tellUnlikeSpec).at F).post enc Tryz.prog Tryz.f6 false true false false) := by
  obtain ⟨places, hx⟩ := reads os enc
  refine returnsInHanded_of_row (C := Tryz.checked) (s := OpenSpec.ofChange Rows.tellUnlikeSpec) own started (by kernel_rfl) Tryz.func6
    (witness_row_at (enc := enc) (C := Tryz.checked) false (xC os) #[.slice none 0 0, .slice none 0 0] rfl (by kernel_rfl) (by kernel_rfl) (by kernel_rfl)
      (OpenSpec.preRow_of_cond 8 hx (by kernel_rfl) (fun k hk => by cases hk) (by kernel_rfl) (vK os))) ?_
  intro W base args ds gs before hval hW _ _ _ hL hS _
  exact vN H enc W base args ds gs before hval hW hL hS

theorem said : Rows.TellUnlikeSaid :=
  OpenClaim.holds_of_cond 6 Tryz.f6 rfl rfl rfl rfl rfl rfl rfl ⟨rfl, rfl, rfl, rfl, rfl⟩ rfl rfl rfl rfl rfl (by kernel_rfl) Tryz.func6 (by kernel_rfl)
    (of_decide_eq_true (by kernel_rfl)) (by unfold Func.isWrapper; first | (rw [if_pos (by decide +kernel)]; kernel_rfl) | (rw [if_neg (by decide +kernel)]; exact ⟨rfl, rfl⟩))
    (fun os started H enc _ F => by rw [OpenClaim.pre_eq_preRow]; exact dF os started H enc F)

theorem jY (f : FuncId) (fn : Func) (hf : Tryz.pinned.checked.prog.funcNamed "linchpin/linchpinlaw8.TellUnlike" = some f) (hfn : Tryz.pinned.checked.prog.funcs[f]? = some fn) :
    false = Tryz.pinned.checked.prog.looks [] ∧ ∀ (j : Nat) t, fn.params[j]? = some t → Tryz.pinned.checked.prog.wantsStandIn t = false := by
  obtain rfl : f = 6 := Option.some.inj ((show Tryz.prog.funcNamed "linchpin/linchpinlaw8.TellUnlike" = some 6 by kernel_rfl).symm.trans hf) |>.symm
  obtain rfl : fn = Tryz.f6 := (Option.some.inj (Tryz.func6.symm.trans hfn)).symm
  refine ⟨by kernel_rfl, fun j t ht => ?_⟩
  rw [Tryz.params6] at ht
  have hm := Array.mem_of_getElem? ht
  simp at hm
  subst hm
  exact (show Tryz.prog.wantsStandIn 33 = false by kernel_rfl)

theorem card : Rows.TellUnlikeCardSaid :=
  Claim7.holds_tied_plain_at .later [] _ _ _ _ said (fun _ h => by cases h) (by kernel_rfl) (fun _ h => by cases h) tellUnlike_row_tie rfl ⟨rfl, rfl⟩ (by kernel_rfl) rfl jY (by kernel_rfl)

#print axioms card
end Go.Proofs.YtiekhkapgjdblaaGreatDoor.tellUnlike
end
