/-
 RecordBack: for every input the call returns true, and each argument reads afterwards as it read before. Conditions: none but the row's own, that the listed package-level variables read as the program's text lays them.
-/
import Derived.Test.YtjimgokkpcfgpaaGreatDoorCards
import Derived.Test.YtjimgokkpcfgpaaGreatDoorTie
import Derived.Test.YtjimgokkpcfgpaaGreatDoorRK7

section
/-
 Chapter 12: a record without a fault is read back from its text. Conditions: what the package leans on lies as the text lays it.
-/
namespace Go.Proofs.YtjimgokkpcfgpaaGreatDoor
open Go.RowKit
set_option maxRecDepth 100000
set_option linter.unusedVariables false
set_option linter.unusedSimpArgs false
set_option linter.unnecessarySimpa false
set_option maxHeartbeats 4000000

theorem from12 (v : Value) (l : List Int) (k : Nat) (hk : plc (atL l 80) 5 = (k : Int)) (W : World) (hv : ReadsI W W.heap.size v l) (hl : l.length ≤ 9223372036854775807) : YC 25 #[v, YI 80, YI 5] W (YR (YI (k : Int)) W) :=
 (from_any v l 80 5 W hv hl (by decide) (by decide) (by decide)).mono fun e w' ⟨q1, q2⟩ => ⟨hk ▸ q1, q2 ▸ Below.refl _ _⟩
theorem recordBack.law (v : Value) (l : List Int) (W : World) (hv : ReadsI W W.heap.size v l) (hl : l.length ≤ 9223372036854775807) (hK : RecLib W) (hL : LyAt W) : YC 6 #[v] W (YR (.bool true) W) := by
 obtain ⟨k, hk, hk5⟩ : ∃ k : Nat, plc (atL l 80) 5 = (k : Int) ∧ k < 5 := xN (atL l 80) 5 (by decide)
 refine zR Tryz.func6 (zE (v := YI (k : Int)) [] (fun w hO => from12 v l k hk w ((hv.below hO.below).more hO.below.size) hl) (qN (R := fun v ob => ∃ x, v = rvV x ∧ MadeR x ob) [] (fun w hO => made_call v l k w ((hv.below hO.below).more hO.below.size) hl Om) ?_))
 rintro u ob1 ⟨x, rfl, hX⟩
 have hck : ∀ w, Own [] W w ob1 → YC 14 #[rvV x] w (YR (.tuple #[YI 0, YI 0]) w) := fun w hO => by
  have := qCheck_any x w (hX.inn hO fun b hb => hb) (hK.on hO.below)
  rw [hX.chk] at this; exact this
 have hlen := hX.len
 have hrb := read_back (r := x.rt) (by rw [hX.chk])
 have hpa : ∀ w, Below W.heap.size W w → YC 20 #[.string (mkS (gA x.rt))] w fun e w' => ∃ v ob, e = .returned v ∧ (∃ y, v = .tuple #[rvV y, YI 0, YI 0] ∧ y.rt = x.rt ∧ RecO y ob ∧ p9 y.rt ∧ FewR y.rt 4096) ∧ Own [] w w' ob := fun w hb => by
  refine (parse_call (gA x.rt) w (by omega) (hK.on hb) (hL.on hb)).mono fun e w' ⟨v, ob, q1, ⟨y, q2, q3, q4⟩, q5⟩ => ⟨v, ob, q1, ⟨y, ?_, ?_, q4⟩, q5⟩
  ·rw [q2, hrb]
  ·rw [q3, hrb]
 refine zV [] fun b3 => zE (v := .tuple #[YI 0, YI 0]) [0, 0] (fun w hO => hck w (hO.past 1 ob1)) (zE (v := .tuple #[.string (mkS (gA x.rt)), YI 0]) [0] (fun w hO => made_print hX (hO.past 1 ob1) (fun b hb => hb) (hK.on hO.below)) (qN (R := fun v ob => ∃ y, v = .tuple #[rvV y, YI 0, YI 0] ∧ y.rt = x.rt ∧ RecO y ob ∧ p9 y.rt ∧ FewR y.rt 4096) [] (fun w hO => hpa w hO.below) ?_))
 rintro u2 ob2 ⟨y, rfl, hy, hYR, hYB, hYF⟩
 have hsame : ∀ w, Own [] W w (ob1 ++ ob2) → YC 22 #[rvV x, rvV y] w (YR (.bool true) w) := fun w hO => by
  have := r12Same_any x y w (hX.inn hO (fun b hb => List.mem_append_left _ hb)).sm (hYR.inn hO (fun b hb => List.mem_append_right _ hb) hYB hYF).sm
  rw [hy, decide_eq_true rfl] at this; exact this
 exact zV [] fun b8 => zE (v := .bool true) [0] (fun w hO => awake12_any w (hK.on hO.below) (hL.on hO.below)) (zE (v := .bool true) [1, 0] (fun w hO => hsame w (hO.past 2 (ob1 ++ ob2))) (zF [] Z4 fun w hO => ⟨rfl, hO.below⟩))
end Go.Proofs.YtjimgokkpcfgpaaGreatDoor
end

section
/-
 RecordBack: for every input the call returns true, and each argument reads afterwards as it read before. Conditions: none but the row's own, that the listed package-level variables read as the program's text lays them.
-/
namespace Go.Proofs.YtjimgokkpcfgpaaGreatDoor.recordBack
open Go.ChangeShapes Go.WideShapes Go.ChangeAt Go.RowKit
open Go.ChangeMaps (open_string shut_string)
set_option linter.unusedVariables false

set_option maxRecDepth 100000 in
theorem contract (H : Type) (enc : TypeId × Value → H) (W : World) (base : Nat) (args : Array Value) (ds gs : List (DataW H)) (before : List MemPlace)
  (hval : ∀ (j : Nat) t v, Tryz.f6.params[j]? = some t → args[j]? = some v → Value.okWide Tryz.prog W .any base t v)
  (hW : DataW.Whole enc Tryz.prog Tryz.f6.params.toList Rows.recordBackSpec.vars false W args.toList ds gs before) (hL : laidMetH Tryz.prog Rows.recordBackRow.laid W) (hS : W.ShapedOpen Tryz.prog) :
  YC 6 args W fun e W' => ∃ v, e = .returned v ∧ Rows.recordBackSpec.post enc Tryz.prog Tryz.f6 false true false false W args v W' := by
 have ht : HasLib W := hasLib_of (hasTab_of hL (by rfl)) hS
 have hW' := hW
 obtain ⟨p, q, hA0, hV, rfl, hfz, hnd⟩ := hW
 have hA : DataW.TrodAll enc Tryz.prog W 0 (fun _ => true) true Tryz.f6.params.toList args.toList ds p := hA0
 rw [Tryz.params6] at hA hval
 obtain ⟨v0, vs0, d0, ds0, p0, q0, hargs, rfl, rfl, h0, r0⟩ := trodAll_cons hA
 obtain ⟨rfl, rfl, rfl⟩ := trodAll_nil r0
 obtain rfl : args = #[v0] := by cases args; simp_all
 obtain ⟨rfl, rfl⟩ := trodVars_none hV
 clear hA0
 obtain ⟨l, l_reads, l_len⟩ := open_nums (hval 0 43 v0 rfl rfl) h0
 refine (recordBack.law v0 l W l_reads l_len ⟨ht, mkLib_of hL (by rfl)⟩ (lyAt_of hL (by rfl))).mono fun e W' ⟨he, hb⟩ => ?_
 subst he
 exact ⟨_, rfl, law_end laidOut (fun t ht => by rw [Tryz.params6] at ht; simp at ht; subst ht; exact ⟨by kernel_rfl, of_decide_eq_true Kr⟩) rfl rfl Tryz.underlying4 hW' (by rfl) hb⟩

noncomputable def laidWorld (os : Os) : World :=
 { World.holding Tryz.prog os ⟨#[], #[], []⟩ with heap := layAt (layAt (layAt (layAt (layAt (layAt (layAt ((World.holding Tryz.prog os ⟨#[], #[], []⟩).heap) 6 Rows.laid_math_bits_deBruijn32tab) 7 Rows.laid_math_bits_deBruijn64tab) 3 Rows.laid_internal_strconv_uint64pow10) 5 Rows.laid_unicode_utf8_acceptRanges) 2 Rows.laid_linchpin_mark_keys) 0 Rows.laid_linchpin_record_layouts) 4 Rows.laid_unicode_utf8_first }
theorem laid_met (os : Os) : laidMet Tryz.prog Rows.recordBackRow.laid ((laidWorld os).forCall (fun _ _ => 0) ⟨#[], #[.slice none 0 0], []⟩).memory :=
 laidMet_of_run' 8 Kr Kr
theorem reads (os : Os) {H : Type} (enc : TypeId × Value → H) : ∃ places, DataW.whole enc Tryz.prog ((laidWorld os).forCall (fun _ _ => 0) ⟨#[], #[.slice none 0 0], []⟩).memory Tryz.f6.params.toList Rows.recordBackSpec.vars false (#[.slice none 0 0] : Array Value).toList 8 = some ([.nil], [], places) :=
 ⟨[], by kernel_rfl⟩

set_option maxRecDepth 100000 in
theorem lifted (os : Os) (started : os.Started) (H : Type) (enc : TypeId × Value → H) (F : Stop.Interp) :
  ReturnsInHanded {} Tryz.checked os 6 .any ((OpenSpec.ofChange Rows.recordBackSpec).preRow enc Tryz.prog Tryz.f6 Rows.recordBackRow.domain false Rows.recordBackRow.laid) (((OpenSpec.ofChange Rows.recordBackSpec).at F).post enc Tryz.prog Tryz.f6 false true false false) := by
 obtain ⟨places, hx⟩ := reads os enc
 refine returnsInHanded_of_row (C := Tryz.checked) (s := OpenSpec.ofChange Rows.recordBackSpec) own started Kr Tryz.func6
  (witness_row_at (enc := enc) (C := Tryz.checked) false (laidWorld os) #[.slice none 0 0] rfl Kr Kr Kr
   (OpenSpec.preRow_of_cond 8 hx Kr (fun k hk => by cases hk) Kr (laid_met os))) ?_
 intro W base args ds gs before hval hW _ _ _ hL hS _
 exact contract H enc W base args ds gs before hval hW hL hS

theorem j1 : (Rows.recordBackRow.inPlace == Tryz.pinned.checked.prog.inPlace 6) = true := by kernel_rfl
theorem j2 : (Rows.recordBackRow.unfollowed == Tryz.pinned.checked.prog.unfollowed 6) = true := by kernel_rfl
theorem j3 : (Rows.recordBackRow.recurses == Tryz.pinned.checked.prog.recurses 6) = true := by kernel_rfl
theorem j4 : (Rows.recordBackRow.named == Tryz.pinned.checked.prog.varsNamed 6) = true := by kernel_rfl
theorem j5 : (Rows.recordBackRow.lifted == Tryz.pinned.checked.prog.liftsFinal) = true := by kernel_rfl
theorem closed : joinedFacts Tryz.pinned.checked.prog 6 Tryz.f6 (OpenSpec.ofChange Rows.recordBackSpec).bare Rows.recordBackRow = true := by
 unfold joinedFacts
 rw [jfLaid, jfMaps, j1, j2, j3, j4, jfHeard, jfEnter, j5]
 kernel_rfl

theorem said : Rows.RecordBackSaid :=
 OpenClaim.holds_of_cond 6 Tryz.f6 rfl rfl rfl rfl rfl rfl rfl ⟨rfl, rfl, rfl, rfl, rfl⟩ rfl rfl rfl rfl rfl Kr Tryz.func6 closed
  (of_decide_eq_true Kr) (by unfold Func.isWrapper; first | (rw [if_pos (by decide +kernel)]; kernel_rfl) | (rw [if_neg (by decide +kernel)]; exact ⟨rfl, rfl⟩))
  (fun os started H enc _ F => by rw [OpenClaim.pre_eq_preRow]; exact lifted os started H enc F)

theorem plain (f : FuncId) (fn : Func) (hf : Tryz.pinned.checked.prog.funcNamed "linchpin/linchpinlaw12.RecordBack" = some f) (hfn : Tryz.pinned.checked.prog.funcs[f]? = some fn) :
  false = Tryz.pinned.checked.prog.looks [] ∧ ∀ (j : Nat) t, fn.params[j]? = some t → Tryz.pinned.checked.prog.wantsStandIn t = false := by
 obtain rfl : f = 6 := Option.some.inj ((show Tryz.prog.funcNamed "linchpin/linchpinlaw12.RecordBack" = some 6 by kernel_rfl).symm.trans hf) |>.symm
 obtain rfl : fn = Tryz.f6 := (Option.some.inj (Tryz.func6.symm.trans hfn)).symm
 refine ⟨by kernel_rfl, fun j t ht => ?_⟩
 rw [Tryz.params6] at ht
 have hm := Array.mem_of_getElem? ht
 simp at hm
 subst hm
 exact (show Tryz.prog.wantsStandIn 43 = false by kernel_rfl)

theorem card : Rows.RecordBackCardSaid :=
 Claim7.holds_tied_plain_at .later [] _ _ _ _ said (fun _ h => by cases h) Kr (fun _ h => by cases h) recordBack_row_tie rfl ⟨rfl, rfl⟩ Kr rfl plain Kr

#print axioms card
end Go.Proofs.YtjimgokkpcfgpaaGreatDoor.recordBack
end
