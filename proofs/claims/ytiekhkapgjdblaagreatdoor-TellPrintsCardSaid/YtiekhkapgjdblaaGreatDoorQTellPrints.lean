/-
  TellPrints: for every input the call returns true, and each argument reads afterwards as it read before. Conditions: none but the row's own, that the listed package-level variables read as the program's text lays them.
-/
import Derived.Test.YtiekhkapgjdblaaGreatDoorCards
import Derived.Test.YtiekhkapgjdblaaGreatDoorTie
import Derived.Test.YtiekhkapgjdblaaGreatDoorTA6

section
/-
  TellPrints: for any set the law returns true, and nothing that was there is changed. Condition: the library's tables read as they are laid.
-/
namespace Go.Proofs.YtiekhkapgjdblaaGreatDoor
open Go.RowKit
set_option maxRecDepth 100000
set_option linter.unusedVariables false
set_option linter.unusedSimpArgs false
set_option maxHeartbeats 2000000

theorem SetIn.few8 {w : World} {n : Nat} {A B : Option Addr} {a : St} (hr : Reads yB w n A a.rel) (hp : Reads yB w n B a.pre) (h : fewT a = true) : SetIn w n A B a :=
  ⟨hr, hp, Nat.le_trans (dI h).2.2.1 (by decide), Nat.le_trans (dI h).2.2.2 (by decide), (dI h).1, (dI h).2.1⟩
set_option maxHeartbeats 2000000 in
theorem tellPrints.law (W : World) (A B : Option Addr) (c d : Nat) (s : St) (rs : Reads yB W W.heap.size A s.rel) (ps : Reads yB W W.heap.size B s.pre) (cs : s.rel.length ≤ c ∧ s.pre.length ≤ d) (ht : HasLib W) :
    Calls Tryz.prog 3 #[.agg #[.slice A s.rel.length c, .slice B s.pre.length d]] W fun e w' => e = .returned (.bool true) ∧ Below W.heap.size W w' := by
  refine zM (n := 15) Tryz.func3 rfl (by kernel_rfl) (by kernel_rfl) (ZO (Zb (.agg #[.slice A s.rel.length c, .slice B s.pre.length d]) (fun b1 => Zv (.bool false) (ZN (z8 (ZO (Zl 0 ⟨b1, #[.slice A s.rel.length c, .slice B s.pre.length d], 24⟩ (off := 0) (.agg #[.slice A s.rel.length c, .slice B s.pre.length d]) (Zc (k := 9) (args := #[.agg #[.slice A s.rel.length c, .slice B s.pre.length d]]) (.bool (fewT s)) (fun w hO => few8_any A B c d s w (rs.on hO.below hO.size) (ps.on hO.below hO.size)) ?_))))))))
  cases h1 : fewT s with
  | true =>
    refine Zv (.bool false) (ZX (ZB (z8 (g7 (by kernel_rfl) (by kernel_rfl) (Zq (k := 10) (args := #[]) (.bool true) (fun w hO => gN w (ht.on hO.below)) (Zw (.bool true) (Zm 0 ⟨b1, #[.slice A s.rel.length c, .slice B s.pre.length d], 24⟩ (off := 0) (.agg #[.slice A s.rel.length c, .slice B s.pre.length d]) (Zq (k := 11) (args := #[.agg #[.slice A s.rel.length c, .slice B s.pre.length d]]) (.string (mkS (zG s))) (fun w hO => xN A B c d s w (SetIn.few8 (rs.on hO.below hO.size) (ps.on hO.below hO.size) h1) cs (ht.tab.on hO.below)) ?_))))))))
    exact Zm 0 ⟨b1, #[.slice A s.rel.length c, .slice B s.pre.length d], 24⟩ (off := 0) (.agg #[.slice A s.rel.length c, .slice B s.pre.length d]) (Zq (k := 12) (args := #[.agg #[.slice A s.rel.length c, .slice B s.pre.length d]]) (.string (mkS (zG s))) (fun w hO => wP A B c d s w (SetIn.few8 (rs.on hO.below hO.size) (ps.on hO.below hO.size) h1)) (kL (.bool true) (by kernel_rfl) (zI (a := (zG s)) (b := (zG s)) rfl (by kernel_rfl) (by kernel_rfl) (decide_eq_true (rfl))) (Zw (.bool true) (Zw (.bool true) (xP (z7 (zB (ZF (.bool true) Tryz.results3 (fun w hO => ⟨rfl, hO.below⟩)))))))))
  | false =>
    refine Zv (.bool true) (ZY (ZO (Zc (k := 10) (args := #[]) (.bool true) (fun w hO => gN w (ht.on hO.below)) (Zv (.bool true) (ZN (zB (z6 ?_)))))))
    exact ZF (.bool true) Tryz.results3 (fun w hO => ⟨rfl, hO.below⟩)
end Go.Proofs.YtiekhkapgjdblaaGreatDoor
end

section
/-
  TellPrints: for every input the call returns true, and each argument reads afterwards as it read before. Conditions: none but the row's own, that the listed package-level variables read as the program's text lays them.
-/
namespace Go.Proofs.YtiekhkapgjdblaaGreatDoor.tellPrints
open Go.ChangeShapes Go.WideShapes Go.ChangeAt Go.RowKit
open Go.ChangeMaps (open_string shut_string)
set_option linter.unusedVariables false

set_option maxRecDepth 100000 in
theorem vN (H : Type) (enc : TypeId × Value → H) (W : World) (base : Nat) (args : Array Value) (ds gs : List (DataW H)) (before : List MemPlace)
    (hval : ∀ (j : Nat) t v, Tryz.f3.params[j]? = some t → args[j]? = some v → Value.okWide Tryz.prog W .any base t v)
    (hW : DataW.Whole enc Tryz.prog Tryz.f3.params.toList Rows.tellPrintsSpec.vars false W args.toList ds gs before) (hL : laidMetH Tryz.prog Rows.tellPrintsRow.laid W) (hS : W.ShapedOpen Tryz.prog) :
    Calls Tryz.prog 3 args W fun e W' => ∃ v, e = .returned v ∧ Rows.tellPrintsSpec.post enc Tryz.prog Tryz.f3 false true false false W args v W' := by
  have ht : HasLib W := bS (bR hL (by rfl)) hS
  have hW' := hW
  obtain ⟨p, q, hA0, hV, rfl, hfz, hnd⟩ := hW
  have hA : DataW.TrodAll enc Tryz.prog W 0 (fun _ => true) true Tryz.f3.params.toList args.toList ds p := hA0
  rw [Tryz.params3] at hA hval
  obtain ⟨v0, vs0, d0, ds0, p0, q0, hargs, rfl, rfl, h0, r0⟩ := trodAll_cons hA
  obtain ⟨rfl, rfl, rfl⟩ := trodAll_nil r0
  obtain rfl : args = #[v0] := by cases args; simp_all
  obtain ⟨rfl, rfl⟩ := trodVars_none hV
  clear hA0
  obtain ⟨s_A, s_B, s_c, s_d, s, rfl, s_rr, s_rp, s_cap⟩ := open_set (hval 0 24 v0 rfl rfl) h0
  refine (tellPrints.law W s_A s_B s_c s_d s s_rr s_rp s_cap ht).mono fun e W' ⟨he, hb⟩ => ?_
  subst he
  exact ⟨_, rfl, pE pF (fun t ht => by rw [Tryz.params3] at ht; simp at ht; subst ht; exact ⟨by kernel_rfl, of_decide_eq_true (by kernel_rfl)⟩) rfl rfl Tryz.underlying4 hW' (by rfl) hb⟩

noncomputable def xC (os : Os) : World :=
  { World.holding Tryz.prog os ⟨#[], #[], []⟩ with heap := gP (gP (gP (gP (gP ((World.holding Tryz.prog os ⟨#[], #[], []⟩).heap) 4 Rows.laid_math_bits_deBruijn32tab) 5 Rows.laid_math_bits_deBruijn64tab) 3 Rows.laid_internal_strconv_uint64pow10) 2 Rows.laid_unicode_utf8_acceptRanges) 1 Rows.laid_unicode_utf8_first }
theorem vK (os : Os) : laidMet Tryz.prog Rows.tellPrintsRow.laid ((xC os).forCall (fun _ _ => 0) ⟨#[], #[.agg #[.slice none 0 0, .slice none 0 0]], []⟩).memory :=
  laidMet_of_run' 8 (by kernel_rfl) (by kernel_rfl)
theorem reads (os : Os) {H : Type} (enc : TypeId × Value → H) : ∃ places, DataW.whole enc Tryz.prog ((xC os).forCall (fun _ _ => 0) ⟨#[], #[.agg #[.slice none 0 0, .slice none 0 0]], []⟩).memory Tryz.f3.params.toList Rows.tellPrintsSpec.vars false (#[.agg #[.slice none 0 0, .slice none 0 0]] : Array Value).toList 8 = some ([.agg [.nil, .nil]], [], places) :=
  ⟨[], by kernel_rfl⟩

set_option maxRecDepth 100000 in
theorem dF (os : Os) (started : os.Started) (H : Type) (enc : TypeId × Value → H) (F : Stop.Interp) :
    ReturnsInHanded {} Tryz.checked os 3 .any ((OpenSpec.ofChange Rows.tellPrintsSpec).preRow enc Tryz.prog Tryz.f3 Rows.tellPrintsRow.domain false Rows.tellPrintsRow.laid) (((OpenSpec.ofChange Rows.tellPrintsSpec).at F).post enc Tryz.prog Tryz.f3 false true false false) := by
  obtain ⟨places, hx⟩ := reads os enc
  refine returnsInHanded_of_row (C := Tryz.checked) (s := OpenSpec.ofChange Rows.tellPrintsSpec) own started (by kernel_rfl) Tryz.func3
    (witness_row_at (enc := enc) (C := Tryz.checked) false (xC os) #[.agg #[.slice none 0 0, .slice none 0 0]] rfl (by kernel_rfl) (by kernel_rfl) (by kernel_rfl)
      (OpenSpec.preRow_of_cond 8 hx (by kernel_rfl) (fun k hk => by cases hk) (by kernel_rfl) (vK os))) ?_
  intro W base args ds gs before hval hW _ _ _ hL hS _
  exact vN H enc W base args ds gs before hval hW hL hS

theorem said : Rows.TellPrintsSaid :=
  OpenClaim.holds_of_cond 3 Tryz.f3 rfl rfl rfl rfl rfl rfl rfl ⟨rfl, rfl, rfl, rfl, rfl⟩ rfl rfl rfl rfl rfl (by kernel_rfl) Tryz.func3 (by kernel_rfl)
    (of_decide_eq_true (by kernel_rfl)) (by unfold Func.isWrapper; first | (rw [if_pos (by decide +kernel)]; kernel_rfl) | (rw [if_neg (by decide +kernel)]; exact ⟨rfl, rfl⟩))
    (fun os started H enc _ F => by rw [OpenClaim.pre_eq_preRow]; exact dF os started H enc F)

theorem jY (f : FuncId) (fn : Func) (hf : Tryz.pinned.checked.prog.funcNamed "linchpin/linchpinlaw8.TellPrints" = some f) (hfn : Tryz.pinned.checked.prog.funcs[f]? = some fn) :
    false = Tryz.pinned.checked.prog.looks [] ∧ ∀ (j : Nat) t, fn.params[j]? = some t → Tryz.pinned.checked.prog.wantsStandIn t = false := by
  obtain rfl : f = 3 := Option.some.inj ((show Tryz.prog.funcNamed "linchpin/linchpinlaw8.TellPrints" = some 3 by kernel_rfl).symm.trans hf) |>.symm
  obtain rfl : fn = Tryz.f3 := (Option.some.inj (Tryz.func3.symm.trans hfn)).symm
  refine ⟨by kernel_rfl, fun j t ht => ?_⟩
  rw [Tryz.params3] at ht
  have hm := Array.mem_of_getElem? ht
  simp at hm
  subst hm
  exact (show Tryz.prog.wantsStandIn 24 = false by kernel_rfl)

theorem card : Rows.TellPrintsCardSaid :=
  Claim7.holds_tied_plain_at .later [] _ _ _ _ said (fun _ h => by cases h) (by kernel_rfl) (fun _ h => by cases h) tellPrints_row_tie rfl ⟨rfl, rfl⟩ (by kernel_rfl) rfl jY (by kernel_rfl)

#print axioms card
end Go.Proofs.YtiekhkapgjdblaaGreatDoor.tellPrints
end
