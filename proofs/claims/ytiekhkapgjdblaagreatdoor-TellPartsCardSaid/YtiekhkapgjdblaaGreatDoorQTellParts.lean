/-
  TellParts: for every input the call returns true, and each argument reads afterwards as it read before. Conditions: none but the row's own, that the listed package-level variables read as the program's text lays them.
-/
import Derived.Test.YtiekhkapgjdblaaGreatDoorCards
import Derived.Test.YtiekhkapgjdblaaGreatDoorTie
import Derived.Test.YtiekhkapgjdblaaGreatDoorTA6

section
/-
  TellParts: for any list of numbers the law returns true, and nothing that was there is changed. Condition: the library's tables read as they are laid.
-/
namespace Go.Proofs.YtiekhkapgjdblaaGreatDoor
open Go.RowKit
set_option maxRecDepth 100000
set_option linter.unusedVariables false
set_option linter.unusedSimpArgs false
set_option maxHeartbeats 2000000

theorem parts_text {a : St} {n : Nat} (h : SF a n) : ∃ R Q T : List UInt8, zG (St.mk a.rel []) = R ∧ zG (St.mk [] a.pre) = Q ∧ zG a = T ∧ (a.pre = [] → T = R) ∧ (¬ a.pre = [] → 4 < Q.length ∧ Q.take 4 = [45, 32, 47, 32] ∧ T = R ++ Q.drop 1) ∧ R.length ≤ 5 + (n + n) * 140 ∧ Q.length ≤ 5 + (n + n) * 140 := by
  obtain ⟨h1, h2, h3⟩ := St.facts h.may
  have hr : SF (St.mk a.rel []) n := ⟨h.rel, nil_rf.le (Nat.zero_le _), h.right⟩
  have hp : SF (St.mk [] a.pre) n := ⟨nil_rf.le (Nat.zero_le _), h.pre, nil_right⟩
  refine ⟨_, _, _, rfl, rfl, rfl, fun e => ?_, fun e => ?_, mL hr, mL hp⟩
  · rw [k9 h, k9 hr]; unfold yI; rw [if_pos e]; rfl
  · rw [k9 h, k9 hr, k9 hp]
    have e1 : yI (St.mk a.rel []) = zT a.rel := rfl
    have e2 : yI (St.mk [] a.pre) = [45, 32, 47, 32] ++ zT a.pre := by unfold yI; rw [if_neg e]; rfl
    have e3 : yI a = zT a.rel ++ [32, 47, 32] ++ zT a.pre := by unfold yI; rw [if_neg e]
    have hne := List.length_pos_iff.2 (nY h2)
    rw [e1, e2, e3]
    refine ⟨by rw [List.length_append]; show 4 < 4 + _; omega, rfl, ?_⟩
    show _ = zT a.rel ++ ([32, 47, 32] ++ zT a.pre)
    rw [List.append_assoc]
set_option maxHeartbeats 1000000 in
theorem tellParts.law (W : World) (x : Value) (xl : List Int) (hxl : ReadsI W W.heap.size x xl) (lxl : xl.length ≤ maxLen) (ht : HasLib W) :
    Calls Tryz.prog 8 #[x] W fun e w' => e = .returned (.bool true) ∧ Below W.heap.size W w' := by
  obtain ⟨a, ea⟩ : ∃ q, q = setG xl 0 := ⟨_, rfl⟩
  have fa : SF a 22 := ea ▸ setG_sf xl 0
  obtain ⟨R, Q, T, q1, q2, q3, q4, q5, q6, q7⟩ := parts_text fa
  have hqz := yC Q
  refine zM (n := 48) Tryz.func8 rfl (by kernel_rfl) (by kernel_rfl) (ZO (Zv (.bool false) (ZR (Zv (x) (y9 (k := 16) (args := #[x, .int .i64 0]) (fun v' L' => ∃ ob', L' = ob' ++ ([]) ∧ SetO v' (a) ob') (by kernel_rfl) (fun _ => by kernel_rfl) (fun w hO => (d6 x xl 0 w ((hxl.below hO.below).more hO.below.size) (by unfold maxLen at lxl; omega) (by omega)).mono fun e w' ⟨v', ob', k1, k2, k3⟩ => ⟨v', _, k1, ⟨ob', rfl, by rw [← ea] at k2; exact k2⟩, Own.joinN hO k3⟩) (fun v1 L1 hv1 => ?_))))))
  obtain ⟨o1, rfl, hr1⟩ := hv1
  obtain ⟨V1, U1, c1, d1, rfl⟩ := hr1.form
  refine kI (L' := o1) (List.append_nil _) (Za (.agg #[.slice none 0 0, .slice none 0 0]) (fun b1 => Zs 0 ⟨b1, #[.slice none 0 0, .slice none 0 0], 24⟩ (off := 0) (.agg #[.slice V1 ((a).rel.length) c1, .slice U1 ((a).pre.length) d1]) (ZN (z8 (g7 (by kernel_rfl) (by kernel_rfl) (Zw (.pointer (some ⟨b1, 0, none⟩)) (Zm 0 ⟨b1, #[.slice V1 ((a).rel.length) c1, .slice U1 ((a).pre.length) d1], 24⟩ (off := 0) (.slice V1 ((a).rel.length) c1) (Zw (.agg #[.slice V1 ((a).rel.length) c1, .slice none 0 0]) (Zq (k := 11) (args := #[.agg #[.slice V1 ((a).rel.length) c1, .slice none 0 0]]) (.string (mkS R)) (fun w hO => qM (by rw [show zG (St.mk a.rel []) = R from q1]) (xN V1 none c1 0 (St.mk a.rel []) w (part_rel (SetO.inn hr1 hO (fun x hx => by simp [hx]) (fa) (by decide))) ⟨hr1.caps.1, Nat.le_refl 0⟩ (ht.tab.on hO.below))) (Zw (.pointer (some ⟨b1, 1, none⟩)) ?_))))))))))
  refine Zm 0 ⟨b1, #[.slice V1 ((a).rel.length) c1, .slice U1 ((a).pre.length) d1], 24⟩ (off := 1) (.slice U1 ((a).pre.length) d1) (Zw (.agg #[.slice none 0 0, .slice U1 ((a).pre.length) d1]) (Zq (k := 11) (args := #[.agg #[.slice none 0 0, .slice U1 ((a).pre.length) d1]]) (.string (mkS Q)) (fun w hO => qM (by rw [show zG (St.mk [] a.pre) = Q from q2]) (xN none U1 0 d1 (St.mk [] a.pre) w (part_pre (SetO.inn hr1 hO (fun x hx => by simp [hx]) (fa) (by decide))) ⟨Nat.le_refl 0, hr1.caps.2⟩ (ht.tab.on hO.below))) (Zw (.string (mkS R)) (Zw (.string (mkS Q)) (xP (z7 (ZO (Zl 0 ⟨b1, #[.slice V1 ((a).rel.length) c1, .slice U1 ((a).pre.length) d1], 24⟩ (off := 0) (.agg #[.slice V1 ((a).rel.length) c1, .slice U1 ((a).pre.length) d1]) (Zc (k := 11) (args := #[.agg #[.slice V1 ((a).rel.length) c1, .slice U1 ((a).pre.length) d1]]) (.string (mkS T)) (fun w hO => qM (by rw [show zG a = T from q3]) (xN V1 U1 c1 d1 a w (SetO.inn hr1 hO (fun x hx => by simp [hx]) (fa) (by decide)) hr1.caps (ht.tab.on hO.below))) (Zv (.string (mkS T)) ?_))))))))))
  refine ZN (z8 (ZO (Zv (.pointer (some ⟨b1, 1, none⟩)) (Zl 0 ⟨b1, #[.slice V1 ((a).rel.length) c1, .slice U1 ((a).pre.length) d1], 24⟩ (off := 1) (.slice U1 ((a).pre.length) d1) (Zv (.int .i64 ((a).pre.length : Int)) ?_)))))
  by_cases h1 : ((a).pre.length : Int) = 0
  · have q8 := q4 (List.eq_nil_of_length_eq_zero (by omega))
    refine Zd (p := ((a).pre.length : Int) = 0) true (decide_eq_true (h1)) (ZY (ZO (Zc (k := 10) (args := #[]) (.bool true) (fun w hO => gN w (ht.on hO.below)) (Zv (.bool true) (Zv (.string (mkS T)) (Zv (.string (mkS R)) (zK (.bool true) (by kernel_rfl) (zI (a := T) (b := R) rfl (by kernel_rfl) (by kernel_rfl) (decide_eq_true (q8))) (Zv (.bool true) ?_))))))))
    exact Zv (.bool true) (ZN (zB (z6 (ZF (.bool true) Tryz.results8 (fun w hO => ⟨rfl, hO.below⟩)))))
  obtain ⟨z1, z2, z3⟩ := q5 (fun e => h1 (by rw [e]; rfl))
  refine Zd (p := ((a).pre.length : Int) = 0) false (decide_eq_false (h1)) (ZX (ZB (ZO (Zc (k := 10) (args := #[]) (.bool true) (fun w hO => gN w (ht.on hO.below)) (Zv (.bool true) (Zv (.string (mkS Q)) (Zv (.int .i64 ((mkS Q).size)) ?_)))))))
  refine Zd (p := (4 : Int) < (mkS Q).size) true (decide_eq_true (by omega)) (Zv (.bool true) (Zv (.bool true) (Zv (.string (mkS Q)) (zK (.string (mkS (Q.take 4))) (by kernel_rfl) (pX (s := Q) (k := .i64) (j := 4) rfl (by kernel_rfl) (by kernel_rfl) Tryz.underlying9 (by omega) (by omega)) (zK (.bool true) (by kernel_rfl) (zI (a := (Q.take 4)) (b := ([45, 32, 47, 32])) rfl (by kernel_rfl) (by kernel_rfl) (decide_eq_true (z2))) (Zv (.bool true) (Zv (.bool true) (Zv (.string (mkS T)) (Zv (.string (mkS R)) (Zv (.string (mkS Q)) (zK (.string (mkS (Q.drop 1))) (by kernel_rfl) (jJ (s := Q) (k := .i64) (j := 1) rfl (by kernel_rfl) (by kernel_rfl) Tryz.underlying9 (by omega) (by omega)) ?_)))))))))))
  exact zK (.string (mkS (R ++ (Q.drop 1)))) (by kernel_rfl) (yQ (a := R) (b := (Q.drop 1)) rfl (by kernel_rfl) (by kernel_rfl) (by simp only [List.length_drop]; omega)) (zK (.bool true) (by kernel_rfl) (zI (a := T) (b := (R ++ (Q.drop 1))) rfl (by kernel_rfl) (by kernel_rfl) (decide_eq_true (z3))) (Zv (.bool true) (Zv (.bool true) (ZN (zB (ZF (.bool true) Tryz.results8 (fun w hO => ⟨rfl, hO.below⟩)))))))
end Go.Proofs.YtiekhkapgjdblaaGreatDoor
end

section
/-
  TellParts: for every input the call returns true, and each argument reads afterwards as it read before. Conditions: none but the row's own, that the listed package-level variables read as the program's text lays them.
-/
namespace Go.Proofs.YtiekhkapgjdblaaGreatDoor.tellParts
open Go.ChangeShapes Go.WideShapes Go.ChangeAt Go.RowKit
open Go.ChangeMaps (open_string shut_string)
set_option linter.unusedVariables false

set_option maxRecDepth 100000 in
theorem vN (H : Type) (enc : TypeId × Value → H) (W : World) (base : Nat) (args : Array Value) (ds gs : List (DataW H)) (before : List MemPlace)
    (hval : ∀ (j : Nat) t v, Tryz.f8.params[j]? = some t → args[j]? = some v → Value.okWide Tryz.prog W .any base t v)
    (hW : DataW.Whole enc Tryz.prog Tryz.f8.params.toList Rows.tellPartsSpec.vars false W args.toList ds gs before) (hL : laidMetH Tryz.prog Rows.tellPartsRow.laid W) (hS : W.ShapedOpen Tryz.prog) :
    Calls Tryz.prog 8 args W fun e W' => ∃ v, e = .returned v ∧ Rows.tellPartsSpec.post enc Tryz.prog Tryz.f8 false true false false W args v W' := by
  have ht : HasLib W := bS (bR hL (by rfl)) hS
  have hW' := hW
  obtain ⟨p, q, hA0, hV, rfl, hfz, hnd⟩ := hW
  have hA : DataW.TrodAll enc Tryz.prog W 0 (fun _ => true) true Tryz.f8.params.toList args.toList ds p := hA0
  rw [Tryz.params8] at hA hval
  obtain ⟨v0, vs0, d0, ds0, p0, q0, hargs, rfl, rfl, h0, r0⟩ := trodAll_cons hA
  obtain ⟨rfl, rfl, rfl⟩ := trodAll_nil r0
  obtain rfl : args = #[v0] := by cases args; simp_all
  obtain ⟨rfl, rfl⟩ := trodVars_none hV
  clear hA0
  obtain ⟨l, l_reads, l_len⟩ := fY (hval 0 33 v0 rfl rfl) h0
  refine (tellParts.law W v0 l l_reads l_len ht).mono fun e W' ⟨he, hb⟩ => ?_
  subst he
  exact ⟨_, rfl, pE pF (fun t ht => by rw [Tryz.params8] at ht; simp at ht; subst ht; exact ⟨by kernel_rfl, of_decide_eq_true (by kernel_rfl)⟩) rfl rfl Tryz.underlying4 hW' (by rfl) hb⟩

noncomputable def xC (os : Os) : World :=
  { World.holding Tryz.prog os ⟨#[], #[], []⟩ with heap := gP (gP (gP (gP (gP ((World.holding Tryz.prog os ⟨#[], #[], []⟩).heap) 4 Rows.laid_math_bits_deBruijn32tab) 5 Rows.laid_math_bits_deBruijn64tab) 3 Rows.laid_internal_strconv_uint64pow10) 2 Rows.laid_unicode_utf8_acceptRanges) 1 Rows.laid_unicode_utf8_first }
theorem vK (os : Os) : laidMet Tryz.prog Rows.tellPartsRow.laid ((xC os).forCall (fun _ _ => 0) ⟨#[], #[.slice none 0 0], []⟩).memory :=
  laidMet_of_run' 8 (by kernel_rfl) (by kernel_rfl)
theorem reads (os : Os) {H : Type} (enc : TypeId × Value → H) : ∃ places, DataW.whole enc Tryz.prog ((xC os).forCall (fun _ _ => 0) ⟨#[], #[.slice none 0 0], []⟩).memory Tryz.f8.params.toList Rows.tellPartsSpec.vars false (#[.slice none 0 0] : Array Value).toList 8 = some ([.nil], [], places) :=
  ⟨[], by kernel_rfl⟩

set_option maxRecDepth 100000 in
theorem dF (os : Os) (started : os.Started) (H : Type) (enc : TypeId × Value → H) (F : Stop.Interp) :
    ReturnsInHanded {} Tryz.checked os 8 .any ((OpenSpec.ofChange Rows.tellPartsSpec).preRow enc Tryz.prog Tryz.f8 Rows.tellPartsRow.domain false Rows.tellPartsRow.laid) (((OpenSpec.ofChange Rows.tellPartsSpec).at F).post enc Tryz.prog Tryz.f8 false true false false) := by
  obtain ⟨places, hx⟩ := reads os enc
  refine returnsInHanded_of_row (C := Tryz.checked) (s := OpenSpec.ofChange Rows.tellPartsSpec) own started (by kernel_rfl) Tryz.func8
    (witness_row_at (enc := enc) (C := Tryz.checked) false (xC os) #[.slice none 0 0] rfl (by kernel_rfl) (by kernel_rfl) (by kernel_rfl)
      (OpenSpec.preRow_of_cond 8 hx (by kernel_rfl) (fun k hk => by cases hk) (by kernel_rfl) (vK os))) ?_
  intro W base args ds gs before hval hW _ _ _ hL hS _
  exact vN H enc W base args ds gs before hval hW hL hS

theorem said : Rows.TellPartsSaid :=
  OpenClaim.holds_of_cond 8 Tryz.f8 rfl rfl rfl rfl rfl rfl rfl ⟨rfl, rfl, rfl, rfl, rfl⟩ rfl rfl rfl rfl rfl (by kernel_rfl) Tryz.func8 (by kernel_rfl)
    (of_decide_eq_true (by kernel_rfl)) (by unfold Func.isWrapper; first | (rw [if_pos (by decide +kernel)]; kernel_rfl) | (rw [if_neg (by decide +kernel)]; exact ⟨rfl, rfl⟩))
    (fun os started H enc _ F => by rw [OpenClaim.pre_eq_preRow]; exact dF os started H enc F)

theorem jY (f : FuncId) (fn : Func) (hf : Tryz.pinned.checked.prog.funcNamed "linchpin/linchpinlaw8.TellParts" = some f) (hfn : Tryz.pinned.checked.prog.funcs[f]? = some fn) :
    false = Tryz.pinned.checked.prog.looks [] ∧ ∀ (j : Nat) t, fn.params[j]? = some t → Tryz.pinned.checked.prog.wantsStandIn t = false := by
  obtain rfl : f = 8 := Option.some.inj ((show Tryz.prog.funcNamed "linchpin/linchpinlaw8.TellParts" = some 8 by kernel_rfl).symm.trans hf) |>.symm
  obtain rfl : fn = Tryz.f8 := (Option.some.inj (Tryz.func8.symm.trans hfn)).symm
  refine ⟨by kernel_rfl, fun j t ht => ?_⟩
  rw [Tryz.params8] at ht
  have hm := Array.mem_of_getElem? ht
  simp at hm
  subst hm
  exact (show Tryz.prog.wantsStandIn 33 = false by kernel_rfl)

theorem card : Rows.TellPartsCardSaid :=
  Claim7.holds_tied_plain_at .later [] _ _ _ _ said (fun _ h => by cases h) (by kernel_rfl) (fun _ h => by cases h) tellParts_row_tie rfl ⟨rfl, rfl⟩ (by kernel_rfl) rfl jY (by kernel_rfl)

#print axioms card
end Go.Proofs.YtiekhkapgjdblaaGreatDoor.tellParts
end
