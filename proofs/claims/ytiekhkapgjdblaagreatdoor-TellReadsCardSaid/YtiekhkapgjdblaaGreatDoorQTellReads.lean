/-
  TellReads: for every input the call returns true, and each argument reads afterwards as it read before. Conditions: none but the row's own, that the listed package-level variables read as the program's text lays them.
-/
import Derived.Test.YtiekhkapgjdblaaGreatDoorCards
import Derived.Test.YtiekhkapgjdblaaGreatDoorTie
import Derived.Test.YtiekhkapgjdblaaGreatDoorTA6

section
/-
  TellReads: for any string the law returns true, and nothing that was there is changed. Condition: the library's tables read as they are laid.
-/
namespace Go.Proofs.YtiekhkapgjdblaaGreatDoor
open Go.RowKit
set_option maxRecDepth 100000
set_option linter.unusedVariables false
set_option linter.unusedSimpArgs false
set_option maxHeartbeats 2000000

set_option maxHeartbeats 1000000 in
theorem tellReads.law (W : World) (t : List UInt8) (ht : HasLib W) :
    Calls Tryz.prog 4 #[.string (mkS t)] W fun e w' => e = .returned (.bool true) ∧ Below W.heap.size W w' := by
  have hsz := yC t
  obtain ⟨x, hx⟩ : ∃ x, x = (yR t).getD xV := ⟨_, rfl⟩
  obtain ⟨n, hn⟩ : ∃ n, n = k6 t := ⟨_, rfl⟩
  refine zM (n := 42) Tryz.func4 rfl (by kernel_rfl) (by kernel_rfl) (ZO (Zv (.bool false) (ZN (z8 (ZO (Zv (.string (mkS t)) (Zv (.int .i64 ((mkS t).size)) ?_)))))))
  by_cases h1 : (400 : Int) < (mkS t).size
  · refine xO (p := (400 : Int) < (mkS t).size) true (by kernel_rfl) (fun _ => by kernel_rfl) (decide_eq_true (h1)) ?_
    refine ZY (ZO (Zc (k := 10) (args := #[]) (.bool true) (fun w hO => gN w (ht.on hO.below)) (Zv (.bool true) (ZN (zB (z6 (ZF (.bool true) Tryz.results4 ?_)))))))
    exact fun w hO => ⟨rfl, hO.below⟩
  have hsx : SF x 100000 := by rw [hx]; exact parse_sf (by omega)
  refine Zd (p := (400 : Int) < (mkS t).size) false (decide_eq_false (h1)) (ZX (ZB (ZO (Zv (.string (mkS t)) (y9 (k := 13) (args := #[.string (mkS t)]) (fun v' L' => ∃ sv ob', v' = .tuple #[sv, .int .i64 n] ∧ L' = ob' ++ ([]) ∧ SetO sv (x) ob') (by kernel_rfl) (fun _ => by kernel_rfl) (fun w hO => (jU t w (by omega) (ht.on hO.below)).mono fun e w' ⟨v', ob', k1, k2, k3⟩ => ⟨.tuple #[v', .int .i64 n], _, k1.trans (by rw [show k6 t = n from hn.symm]), ⟨v', ob', rfl, rfl, by rw [show (yR t).getD xV = x from hx.symm] at k2; exact k2⟩, Own.joinN hO k3⟩) (fun tv L1 hv1 => ?_))))))
  obtain ⟨sv1, o1, rfl, rfl, hr1⟩ := hv1
  obtain ⟨V1, U1, c1, d1, rfl⟩ := hr1.form
  refine kI (L' := o1) (List.append_nil _) (Zv (.tuple #[.agg #[.slice V1 ((x).rel.length) c1, .slice U1 ((x).pre.length) d1], .int .i64 n]) (Zv (.agg #[.slice V1 ((x).rel.length) c1, .slice U1 ((x).pre.length) d1]) (Zv (.int .i64 n) (Za (.agg #[.slice none 0 0, .slice none 0 0]) (fun b1 => Zs 0 ⟨b1, #[.slice none 0 0, .slice none 0 0], 24⟩ (off := 0) (.agg #[.slice V1 ((x).rel.length) c1, .slice U1 ((x).pre.length) d1]) (Zv (.int .i64 n) (ZR (Zv (.string (mkS t)) ?_))))))))
  refine y9 (k := 14) (args := #[.string (mkS t)]) (fun v' L' => ∃ sv ob', v' = .tuple #[sv, .int .i64 n] ∧ L' = ob' ++ (⟨b1, #[.slice V1 ((x).rel.length) c1, .slice U1 ((x).pre.length) d1], 24⟩ :: (o1)) ∧ SetO sv (x) ob') (by kernel_rfl) (fun _ => by kernel_rfl) (fun w hO => (r8Parse_any t w (by omega)).mono fun e w' ⟨v', ob', k1, k2, k3⟩ => ⟨.tuple #[v', .int .i64 n], _, k1.trans (by rw [show k6 t = n from hn.symm]), ⟨v', ob', rfl, rfl, by rw [show (yR t).getD xV = x from hx.symm] at k2; exact k2⟩, Own.joinN hO k3⟩) (fun tv L2 hv2 => ?_)
  obtain ⟨sv2, o2, rfl, rfl, hr2⟩ := hv2
  obtain ⟨V2, U2, c2, d2, rfl⟩ := hr2.form
  refine Zv (.tuple #[.agg #[.slice V2 ((x).rel.length) c2, .slice U2 ((x).pre.length) d2], .int .i64 n]) (Zv (.agg #[.slice V2 ((x).rel.length) c2, .slice U2 ((x).pre.length) d2]) (Zv (.int .i64 n) (Za (.agg #[.slice none 0 0, .slice none 0 0]) (fun b2 => Zs 0 ⟨b2, #[.slice none 0 0, .slice none 0 0], 24⟩ (off := 0) (.agg #[.slice V2 ((x).rel.length) c2, .slice U2 ((x).pre.length) d2]) (Zv (.int .i64 n) (ZR (Zc (k := 10) (args := #[]) (.bool true) (fun w hO => gN w (ht.on hO.below)) (Zv (.bool true) ?_))))))))
  refine fS ⟨b1, #[.slice V1 ((x).rel.length) c1, .slice U1 ((x).pre.length) d1], 24⟩ (off := 0) (.agg #[.slice V1 ((x).rel.length) c1, .slice U1 ((x).pre.length) d1]) (by kernel_rfl) rfl (by simp) (by kernel_rfl) (by kernel_rfl) (Zl 0 ⟨b2, #[.slice V2 ((x).rel.length) c2, .slice U2 ((x).pre.length) d2], 24⟩ (off := 0) (.agg #[.slice V2 ((x).rel.length) c2, .slice U2 ((x).pre.length) d2]) (Zc (k := 15) (args := #[.agg #[.slice V1 ((x).rel.length) c1, .slice U1 ((x).pre.length) d1], .agg #[.slice V2 ((x).rel.length) c2, .slice U2 ((x).pre.length) d2]]) (.bool true) (fun w hO => ret_b (same8_t (rfl)) (qH V1 U1 V2 U2 c1 d1 c2 d2 x x w (SetO.inn hr1 hO (fun x hx => by simp [hx]) (hsx) (by decide)) (SetO.inn hr2 hO (fun x hx => by simp [hx]) (hsx) (by decide)))) (Zv (.bool true) (Zv (.bool true) (Zv (.int .i64 n) (Zv (.int .i64 n) (Zd (p := (n : Int) = n) true (decide_eq_true (rfl)) (Zv (.bool true) (Zv (.bool true) (Zv (.int .i64 n) ?_))))))))))
  by_cases h2 : (n : Int) = 0
  · refine wZ (p := (n : Int) = 0) true (by kernel_rfl) (fun _ => by kernel_rfl) (decide_eq_true (h2)) ?_
    refine Zv (.bool false) (fS ⟨b1, #[.slice V1 ((x).rel.length) c1, .slice U1 ((x).pre.length) d1], 24⟩ (off := 0) (.agg #[.slice V1 ((x).rel.length) c1, .slice U1 ((x).pre.length) d1]) (by kernel_rfl) rfl (by simp) (by kernel_rfl) (by kernel_rfl) (Zc (k := 11) (args := #[.agg #[.slice V1 ((x).rel.length) c1, .slice U1 ((x).pre.length) d1]]) (.string (mkS (zG x))) (fun w hO => xN V1 U1 c1 d1 x w (SetO.inn hr1 hO (fun x hx => by simp [hx]) (hsx) (by decide)) hr1.caps (ht.tab.on hO.below)) (Zv (.string (mkS t)) (zK (.bool true) (by kernel_rfl) (zI (a := (zG x)) (b := t) rfl (by kernel_rfl) (by kernel_rfl) (decide_eq_true (by rw [hx]; exact dU (hn.symm.trans h2)))) (Zv (.bool true) (Zv (.bool true) (Zv (.bool true) (ZN (zB (ZF (.bool true) Tryz.results4 ?_))))))))))
    exact fun w hO => ⟨rfl, hO.below⟩
  refine Zn (p := (n : Int) = 0) false (decide_eq_false (h2)) (Zv (.bool true) (Zk (Zk (Zk (Zk (Zv (.bool true) (Zv (.bool true) (Zv (.bool true) (ZN (zB ?_))))))))))
  exact ZF (.bool true) Tryz.results4 (fun w hO => ⟨rfl, hO.below⟩)
end Go.Proofs.YtiekhkapgjdblaaGreatDoor
end

section
/-
  TellReads: for every input the call returns true, and each argument reads afterwards as it read before. Conditions: none but the row's own, that the listed package-level variables read as the program's text lays them.
-/
namespace Go.Proofs.YtiekhkapgjdblaaGreatDoor.tellReads
open Go.ChangeShapes Go.WideShapes Go.ChangeAt Go.RowKit
open Go.ChangeMaps (open_string shut_string)
set_option linter.unusedVariables false

set_option maxRecDepth 100000 in
theorem vN (H : Type) (enc : TypeId × Value → H) (W : World) (base : Nat) (args : Array Value) (ds gs : List (DataW H)) (before : List MemPlace)
    (hval : ∀ (j : Nat) t v, Tryz.f4.params[j]? = some t → args[j]? = some v → Value.okWide Tryz.prog W .any base t v)
    (hW : DataW.Whole enc Tryz.prog Tryz.f4.params.toList Rows.tellReadsSpec.vars false W args.toList ds gs before) (hL : laidMetH Tryz.prog Rows.tellReadsRow.laid W) (hS : W.ShapedOpen Tryz.prog) :
    Calls Tryz.prog 4 args W fun e W' => ∃ v, e = .returned v ∧ Rows.tellReadsSpec.post enc Tryz.prog Tryz.f4 false true false false W args v W' := by
  have ht : HasLib W := bS (bR hL (by rfl)) hS
  have hW' := hW
  obtain ⟨p, q, hA0, hV, rfl, hfz, hnd⟩ := hW
  have hA : DataW.TrodAll enc Tryz.prog W 0 (fun _ => true) true Tryz.f4.params.toList args.toList ds p := hA0
  rw [Tryz.params4] at hA hval
  obtain ⟨v0, vs0, d0, ds0, p0, q0, hargs, rfl, rfl, h0, r0⟩ := trodAll_cons hA
  obtain ⟨rfl, rfl, rfl⟩ := trodAll_nil r0
  obtain rfl : args = #[v0] := by cases args; simp_all
  obtain ⟨rfl, rfl⟩ := trodVars_none hV
  obtain ⟨t, rfl, rfl, rfl, w0⟩ := open_string Tryz.underlying9 (hval 0 9 v0 rfl rfl) h0
  clear hA0
  obtain ⟨t_l, rfl⟩ : ∃ l : List UInt8, t = mkS l := ⟨t.data.toList, (mk_self t).symm⟩
  refine (tellReads.law W t_l ht).mono fun e W' ⟨he, hb⟩ => ?_
  subst he
  exact ⟨_, rfl, pE pF (fun t ht => by rw [Tryz.params4] at ht; simp at ht; subst ht; exact ⟨by kernel_rfl, of_decide_eq_true (by kernel_rfl)⟩) rfl rfl Tryz.underlying4 hW' (by rfl) hb⟩

noncomputable def xC (os : Os) : World :=
  { World.holding Tryz.prog os ⟨#[], #[], []⟩ with heap := gP (gP (gP (gP (gP ((World.holding Tryz.prog os ⟨#[], #[], []⟩).heap) 4 Rows.laid_math_bits_deBruijn32tab) 5 Rows.laid_math_bits_deBruijn64tab) 3 Rows.laid_internal_strconv_uint64pow10) 2 Rows.laid_unicode_utf8_acceptRanges) 1 Rows.laid_unicode_utf8_first }
theorem vK (os : Os) : laidMet Tryz.prog Rows.tellReadsRow.laid ((xC os).forCall (fun _ _ => 0) ⟨#[], #[.string ⟨#[]⟩], []⟩).memory :=
  laidMet_of_run' 8 (by kernel_rfl) (by kernel_rfl)
theorem reads (os : Os) {H : Type} (enc : TypeId × Value → H) : ∃ places, DataW.whole enc Tryz.prog ((xC os).forCall (fun _ _ => 0) ⟨#[], #[.string ⟨#[]⟩], []⟩).memory Tryz.f4.params.toList Rows.tellReadsSpec.vars false (#[.string ⟨#[]⟩] : Array Value).toList 8 = some ([.lit (.string [])], [], places) :=
  ⟨[], by kernel_rfl⟩

set_option maxRecDepth 100000 in
theorem dF (os : Os) (started : os.Started) (H : Type) (enc : TypeId × Value → H) (F : Stop.Interp) :
    ReturnsInHanded {} Tryz.checked os 4 .any ((OpenSpec.ofChange Rows.tellReadsSpec).preRow enc Tryz.prog Tryz.f4 Rows.tellReadsRow.domain false Rows.tellReadsRow.laid) (((OpenSpec.ofChange Rows.tellReadsSpec).at F).post enc Tryz.prog Tryz.f4 false true false false) := by
  obtain ⟨places, hx⟩ := reads os enc
  refine returnsInHanded_of_row (C := Tryz.checked) (s := OpenSpec.ofChange Rows.tellReadsSpec) own started (by kernel_rfl) Tryz.func4
    (witness_row_at (enc := enc) (C := Tryz.checked) false (xC os) #[.string ⟨#[]⟩] rfl (by kernel_rfl) (by kernel_rfl) (by kernel_rfl)
      (OpenSpec.preRow_of_cond 8 hx (by kernel_rfl) (fun k hk => by cases hk) (by kernel_rfl) (vK os))) ?_
  intro W base args ds gs before hval hW _ _ _ hL hS _
  exact vN H enc W base args ds gs before hval hW hL hS

theorem said : Rows.TellReadsSaid :=
  OpenClaim.holds_of_cond 4 Tryz.f4 rfl rfl rfl rfl rfl rfl rfl ⟨rfl, rfl, rfl, rfl, rfl⟩ rfl rfl rfl rfl rfl (by kernel_rfl) Tryz.func4 (by kernel_rfl)
    (of_decide_eq_true (by kernel_rfl)) (by unfold Func.isWrapper; first | (rw [if_pos (by decide +kernel)]; kernel_rfl) | (rw [if_neg (by decide +kernel)]; exact ⟨rfl, rfl⟩))
    (fun os started H enc _ F => by rw [OpenClaim.pre_eq_preRow]; exact dF os started H enc F)

theorem jY (f : FuncId) (fn : Func) (hf : Tryz.pinned.checked.prog.funcNamed "linchpin/linchpinlaw8.TellReads" = some f) (hfn : Tryz.pinned.checked.prog.funcs[f]? = some fn) :
    false = Tryz.pinned.checked.prog.looks [] ∧ ∀ (j : Nat) t, fn.params[j]? = some t → Tryz.pinned.checked.prog.wantsStandIn t = false := by
  obtain rfl : f = 4 := Option.some.inj ((show Tryz.prog.funcNamed "linchpin/linchpinlaw8.TellReads" = some 4 by kernel_rfl).symm.trans hf) |>.symm
  obtain rfl : fn = Tryz.f4 := (Option.some.inj (Tryz.func4.symm.trans hfn)).symm
  refine ⟨by kernel_rfl, fun j t ht => ?_⟩
  rw [Tryz.params4] at ht
  have hm := Array.mem_of_getElem? ht
  simp at hm
  subst hm
  exact (show Tryz.prog.wantsStandIn 9 = false by kernel_rfl)

theorem card : Rows.TellReadsCardSaid :=
  Claim7.holds_tied_plain_at .later [] _ _ _ _ said (fun _ h => by cases h) (by kernel_rfl) (fun _ h => by cases h) tellReads_row_tie rfl ⟨rfl, rfl⟩ (by kernel_rfl) rfl jY (by kernel_rfl)

#print axioms card
end Go.Proofs.YtiekhkapgjdblaaGreatDoor.tellReads
end
