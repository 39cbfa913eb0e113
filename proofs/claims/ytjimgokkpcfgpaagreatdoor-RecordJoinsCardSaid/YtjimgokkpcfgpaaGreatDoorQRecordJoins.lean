/-
 RecordJoins: for every input the call returns true, and each argument reads afterwards as it read before. Conditions: none but the row's own, that the listed package-level variables read as the program's text lays them.
-/
import Derived.Test.YtjimgokkpcfgpaaGreatDoorCards
import Derived.Test.YtjimgokkpcfgpaaGreatDoorTie
import Derived.Test.YtjimgokkpcfgpaaGreatDoorRJ7

section
/-
 Chapter 12: a record's text with one bar more is longer by that bar's line. Conditions: what the package leans on lies as the text lays it.
-/
namespace Go.Proofs.YtjimgokkpcfgpaaGreatDoor
open Go.RowKit
set_option maxRecDepth 100000
set_option linter.unusedVariables false
set_option linter.unusedSimpArgs false
set_option linter.unnecessarySimpa false
set_option maxHeartbeats 4000000

theorem bvC_one (x : Bv) : ∀ u ∈ bvC x, u.oneCell' = true := fun u hu => by
 simp only [bvC, List.mem_cons, List.not_mem_nil, or_false] at hu
 rcases hu with rfl | rfl | rfl <;> rfl
theorem recordJoins.law (v : Value) (l : List Int) (W : World) (hv : ReadsI W W.heap.size v l) (hl : l.length ≤ 9223372036854775807) (hK : RecLib W) (hL : LyAt W) : YC 11 #[v] W (YR (.bool true) W) := by
 refine zQ Tryz.func11 (qP (R := fun v ob => ∃ x, v = rvV x ∧ MadeR x ob) [] (fun w hO => made_call v l 0 w ((hv.below hO.below).more hO.below.size) hl Om) ?_)
 rintro u ob ⟨x, rfl, hX⟩
 obtain ⟨own, keep, hG⟩ := hX.gen
 have hbl := hG.blen
 obtain ⟨g1, g2, g3⟩ := bare_good hG
 obtain ⟨o1, o2, o4, o7, o8, hob, h1, h4, h7⟩ := hX.mem.ex
 have sub : ∀ b, (b ∈ o1 ∨ b ∈ o2 ∨ b ∈ o4) → b ∈ ob := fun b hb => by rw [hob]; simp only [List.mem_append]; rcases hb with h | h | h <;> simp [h]
 obtain ⟨y, hy⟩ : ∃ y : Rv, y = { x with fA := none, fc := 0, fts := [] } := ⟨_, rfl⟩
 have hyr : y.rt = qX x.rt := by rw [hy]; rfl
 have hYB : nN y.rt := by rw [hy]; exact ⟨hX.bnd.name, hX.bnd.pre, hX.bnd.bld, hX.bnd.needs, hX.bnd.bars, (fun f hf => by cases hf)⟩
 have hYF : FewR y.rt 4096 := by rw [hy]; exact ⟨hX.few.n, hX.few.b, Nat.zero_le _, hX.few.a⟩
 obtain ⟨s, hs⟩ : ∃ s, yK (qX x.rt) = s := ⟨_, rfl⟩
 obtain ⟨t, ht⟩ : ∃ t, yK { qX x.rt with bars := x.rt.bars ++ [zoo] } = t := ⟨_, rfl⟩
 rw [hs, ht] at g3
 have hsl : s.length ≤ 4096 := by rw [← hs]; exact (qW (r := qX x.rt) (by rw [g1])).2.2.2.2.2
 have p1 : ∀ w, Own [] W w ob → YC 16 #[rvV { x with fA := none, fc := 0, fts := [] }] w (YR (.tuple #[.string (mkS s), YI 0]) w) := fun w hO => by
  have hI : RcIn w w.heap.size y := by
   refine rec_inn (o1 := o1) (o2 := o2) (o4 := o4) (o7 := []) (o8 := []) ?_ ?_ ?_ hO (fun b hb => sub b (.inl hb)) (fun b hb => sub b (.inr (.inl hb))) (fun b hb => sub b (.inr (.inr hb))) (fun b hb => by cases hb) (fun b hb => by cases hb) hYB hYF
   ·rw [hy]; exact h1
   ·rw [hy]; exact h4
   ·rw [hy]; exact FtO.nil
  have := fN y w hI (hK.on hO.below)
  rw [mP, hyr, g1, if_pos rfl, hs, hy] at this; exact this
 refine zV [] fun b3 => zE (v := .tuple #[.string (mkS s), YI 0]) [0, 0, 0] (fun w hO => p1 w (hO.past 1 ob)) (zV [0] fun b6 => (x_appR (g := bvC) (T := 54) (k := 0) (v := .slice none 0 0) (xs := []) [0, 1] x.bars [] [] (rcB { x with fA := none, fc := 0, fts := [] } b6 :: rcB { x with fA := none, fc := 0, fts := [] } b3 :: ob) (rcB { x with fA := none, fc := 0, fts := [] } b6 :: rcB { x with fA := none, fc := 0, fts := [] } b3 :: ob) (cp := x.bc) (fun w hO => hO) bvC_len bvC_one (fun w hO => Sl.reads h4 rfl hO fun b hb => List.mem_cons_of_mem _ (List.mem_cons_of_mem _ (sub b (.inr (.inr hb))))) (Sl.nil _ _) Om fun v1 ob1 hv1 => ?_))
 obtain ⟨A1, c1, rfl⟩ := hv1.form
 refine wJ [] 1 54 #[.string (mkS [122, 111, 111]), .string (mkS [42]), .string (mkS [])] fun g => ?_
 refine pG (m := 1) (cp := 1) [] [⟨g, #[.string (mkS [122, 111, 111]), .string (mkS [42]), .string (mkS [])], 54⟩] ob1 (rcB { x with fA := none, fc := 0, fts := [] } b6 :: rcB { x with fA := none, fc := 0, fts := [] } b3 :: ob) 0 (⟨g, #[.string (mkS [122, 111, 111]), .string (mkS [42]), .string (mkS [])], 54⟩ :: ([] ++ ob1 ++ (rcB { x with fA := none, fc := 0, fts := [] } b6 :: rcB { x with fA := none, fc := 0, fts := [] } b3 :: ob))) (fun w hO => gW [] hO fun p => by
  simp only [List.countP_append, List.countP_cons, List.countP_nil, List.cons_append, List.nil_append]) hv1 Om fun v2 ob2 hv2 => ?_
 obtain ⟨A2, c2, rfl⟩ := hv2.form
 refine jO 24 [] (Zp b6 7) (Zp b6 7) rfl (x_hold ([⟨g, #[.string (mkS [122, 111, 111]), .string (mkS [42]), .string (mkS [])], 54⟩] ++ ob2 ++ (rcB { x with fA := none, fc := 0, fts := [] } b6 :: rcB { x with fA := none, fc := 0, fts := [] } b3 :: ob)) (rcB { x with fA := none, fc := 0, fts := [] } b6 :: (ob2 ++ ob)) (fun w hO => gW [⟨g, #[.string (mkS [122, 111, 111]), .string (mkS [42]), .string (mkS [])], 54⟩, rcB { x with fA := none, fc := 0, fts := [] } b3] hO fun p => by
  simp only [List.countP_append, List.countP_cons, List.countP_nil, List.cons_append, List.nil_append]; omega) ?_)
 obtain ⟨z, hz⟩ : ∃ z : Rv, z = { x with fA := none, fc := 0, fts := [], bA := A2, bc := c2, bars := x.bars ++ [⟨[122, 111, 111], [42], []⟩] } := ⟨_, rfl⟩
 have hzr : z.rt = { qX x.rt with bars := x.rt.bars ++ [zoo] } := by rw [hz]; simp [Rv.rt, qX, zoo, Bv.bt, Rv.ver, kA]
 have hzl : (x.bars ++ [(⟨[122, 111, 111], [42], []⟩ : Bv)]).length = 0 + x.bars.length + 1 := by simp
 have hzv : rvV z = .agg #[.string (mkS x.name), YI x.maj, YI x.min, YI x.pat, .string (mkS x.pre), .string (mkS x.bld), .slice x.nA x.needs.length x.nc, .slice A2 (0 + x.bars.length + 1) c2, .slice none 0 0] := by rw [hz]; unfold rvV; simp only [hzl]; rfl
 have hZB : nN z.rt := by
  rw [hzr]
  refine ⟨hX.bnd.name, hX.bnd.pre, hX.bnd.bld, hX.bnd.needs, fun b hb => ?_, (fun f hf => by cases hf)⟩
  rcases List.mem_append.1 hb with hb | hb
  ·exact hX.bnd.bars b hb
  ·rw [List.mem_singleton.1 hb]; decide
 have hZF : FewR z.rt 4096 := by
  rw [hzr]
  refine ⟨hX.few.n, ?_, Nat.zero_le _, hX.few.a⟩
  show (x.rt.bars ++ [zoo]).length ≤ 4096
  rw [List.length_append, show x.rt.bars.length = x.bars.length from List.length_map ..]
  simp only [List.length_cons, List.length_nil]; omega
 have p2 : ∀ w, Own [] W w (ob2 ++ ob) → YC 16 #[.agg #[.string (mkS x.name), YI x.maj, YI x.min, YI x.pat, .string (mkS x.pre), .string (mkS x.bld), .slice x.nA x.needs.length x.nc, .slice A2 (0 + x.bars.length + 1) c2, .slice none 0 0]] w (YR (.tuple #[.string (mkS t), YI 0]) w) := fun w hO => by
  have hI : RcIn w w.heap.size z := by
   refine rec_inn (o1 := o1) (o2 := o2) (o4 := ob2) (o7 := []) (o8 := []) ?_ ?_ ?_ hO (fun b hb => List.mem_append_right _ (sub b (.inl hb))) (fun b hb => List.mem_append_right _ (sub b (.inr (.inl hb)))) (fun b hb => List.mem_append_left _ hb) (fun b hb => by cases hb) (fun b hb => by cases hb) hZB hZF
   ·rw [hz]; exact h1
   ·rw [hz]
    show Sl _ 3 (.slice A2 (x.bars ++ [_]).length c2) (x.bars ++ [_]).length ((x.bars ++ [_]).flatMap bvC) ob2
    rw [hzl, List.flatMap_append, List.flatMap_singleton]; exact hv2
   ·rw [hz]; exact FtO.nil
  have := fN z w hI (hK.on hO.below)
  rw [mP, hzr, g2, if_pos rfl, ht, hzv] at this; exact this
 refine zE (v := .tuple #[.string (mkS t), YI 0]) [0, 0] (fun w hO => p2 w (hO.past 1 (ob2 ++ ob))) (zE (v := .bool true) [] (fun w hO => awake12_any w (hK.on hO.below) (hL.on hO.below)) (bF 42 [] s [98, 97, 114, 32, 122, 111, 111, 32, 42, 10] (qH 43 [] t (s ++ [98, 97, 114, 32, 122, 111, 111, 32, 42, 10]) (fun _ => ?_) (fun h => absurd g3 h))))
 exact zF [] Z4 fun w hO => ⟨rfl, hO.below⟩
end Go.Proofs.YtjimgokkpcfgpaaGreatDoor
end

section
/-
 RecordJoins: for every input the call returns true, and each argument reads afterwards as it read before. Conditions: none but the row's own, that the listed package-level variables read as the program's text lays them.
-/
namespace Go.Proofs.YtjimgokkpcfgpaaGreatDoor.recordJoins
open Go.ChangeShapes Go.WideShapes Go.ChangeAt Go.RowKit
open Go.ChangeMaps (open_string shut_string)
set_option linter.unusedVariables false

set_option maxRecDepth 100000 in
theorem contract (H : Type) (enc : TypeId × Value → H) (W : World) (base : Nat) (args : Array Value) (ds gs : List (DataW H)) (before : List MemPlace)
  (hval : ∀ (j : Nat) t v, Tryz.f11.params[j]? = some t → args[j]? = some v → Value.okWide Tryz.prog W .any base t v)
  (hW : DataW.Whole enc Tryz.prog Tryz.f11.params.toList Rows.recordJoinsSpec.vars false W args.toList ds gs before) (hL : laidMetH Tryz.prog Rows.recordJoinsRow.laid W) (hS : W.ShapedOpen Tryz.prog) :
  YC 11 args W fun e W' => ∃ v, e = .returned v ∧ Rows.recordJoinsSpec.post enc Tryz.prog Tryz.f11 false true false false W args v W' := by
 have ht : HasLib W := hasLib_of (hasTab_of hL (by rfl)) hS
 have hW' := hW
 obtain ⟨p, q, hA0, hV, rfl, hfz, hnd⟩ := hW
 have hA : DataW.TrodAll enc Tryz.prog W 0 (fun _ => true) true Tryz.f11.params.toList args.toList ds p := hA0
 rw [Tryz.params11] at hA hval
 obtain ⟨v0, vs0, d0, ds0, p0, q0, hargs, rfl, rfl, h0, r0⟩ := trodAll_cons hA
 obtain ⟨rfl, rfl, rfl⟩ := trodAll_nil r0
 obtain rfl : args = #[v0] := by cases args; simp_all
 obtain ⟨rfl, rfl⟩ := trodVars_none hV
 clear hA0
 obtain ⟨l, l_reads, l_len⟩ := open_nums (hval 0 43 v0 rfl rfl) h0
 refine (recordJoins.law v0 l W l_reads l_len ⟨ht, mkLib_of hL (by rfl)⟩ (lyAt_of hL (by rfl))).mono fun e W' ⟨he, hb⟩ => ?_
 subst he
 exact ⟨_, rfl, law_end laidOut (fun t ht => by rw [Tryz.params11] at ht; simp at ht; subst ht; exact ⟨by kernel_rfl, of_decide_eq_true Kr⟩) rfl rfl Tryz.underlying4 hW' (by rfl) hb⟩

noncomputable def bR (os : Os) : World :=
 { World.holding Tryz.prog os ⟨#[], #[], []⟩ with heap := mH (mH (mH (mH (mH (mH (mH ((World.holding Tryz.prog os ⟨#[], #[], []⟩).heap) 6 Rows.laid_math_bits_deBruijn32tab) 7 Rows.laid_math_bits_deBruijn64tab) 3 Rows.laid_internal_strconv_uint64pow10) 5 Rows.laid_unicode_utf8_acceptRanges) 2 Rows.laid_linchpin_mark_keys) 0 Rows.laid_linchpin_record_layouts) 4 Rows.laid_unicode_utf8_first }
theorem laid_met (os : Os) : laidMet Tryz.prog Rows.recordJoinsRow.laid ((bR os).forCall (fun _ _ => 0) ⟨#[], #[.slice none 0 0], []⟩).memory :=
 laidMet_of_run' 8 Kr Kr
theorem reads (os : Os) {H : Type} (enc : TypeId × Value → H) : ∃ places, DataW.whole enc Tryz.prog ((bR os).forCall (fun _ _ => 0) ⟨#[], #[.slice none 0 0], []⟩).memory Tryz.f11.params.toList Rows.recordJoinsSpec.vars false (#[.slice none 0 0] : Array Value).toList 8 = some ([.nil], [], places) :=
 ⟨[], by kernel_rfl⟩

set_option maxRecDepth 100000 in
theorem lifted (os : Os) (started : os.Started) (H : Type) (enc : TypeId × Value → H) (F : Stop.Interp) :
  ReturnsInHanded {} Tryz.checked os 11 .any ((OpenSpec.ofChange Rows.recordJoinsSpec).preRow enc Tryz.prog Tryz.f11 Rows.recordJoinsRow.domain false Rows.recordJoinsRow.laid) (((OpenSpec.ofChange Rows.recordJoinsSpec).at F).post enc Tryz.prog Tryz.f11 false true false false) := by
 obtain ⟨places, hx⟩ := reads os enc
 refine returnsInHanded_of_row (C := Tryz.checked) (s := OpenSpec.ofChange Rows.recordJoinsSpec) own started Kr Tryz.func11
  (witness_row_at (enc := enc) (C := Tryz.checked) false (bR os) #[.slice none 0 0] rfl Kr Kr Kr
   (OpenSpec.preRow_of_cond 8 hx Kr (fun k hk => by cases hk) Kr (laid_met os))) ?_
 intro W base args ds gs before hval hW _ _ _ hL hS _
 exact contract H enc W base args ds gs before hval hW hL hS

theorem j1 : (Rows.recordJoinsRow.inPlace == Tryz.pinned.checked.prog.inPlace 11) = true := by kernel_rfl
theorem j2 : (Rows.recordJoinsRow.unfollowed == Tryz.pinned.checked.prog.unfollowed 11) = true := by kernel_rfl
theorem j3 : (Rows.recordJoinsRow.recurses == Tryz.pinned.checked.prog.recurses 11) = true := by kernel_rfl
theorem j4 : (Rows.recordJoinsRow.named == Tryz.pinned.checked.prog.varsNamed 11) = true := by kernel_rfl
theorem j5 : (Rows.recordJoinsRow.lifted == Tryz.pinned.checked.prog.liftsFinal) = true := by kernel_rfl
theorem closed : joinedFacts Tryz.pinned.checked.prog 11 Tryz.f11 (OpenSpec.ofChange Rows.recordJoinsSpec).bare Rows.recordJoinsRow = true := by
 unfold joinedFacts
 rw [jfLaid, jfMaps, j1, j2, j3, j4, jfHeard, jfEnter, j5]
 kernel_rfl

theorem said : Rows.RecordJoinsSaid :=
 OpenClaim.holds_of_cond 11 Tryz.f11 rfl rfl rfl rfl rfl rfl rfl ⟨rfl, rfl, rfl, rfl, rfl⟩ rfl rfl rfl rfl rfl Kr Tryz.func11 closed
  (of_decide_eq_true Kr) (by unfold Func.isWrapper; first | (rw [if_pos (by decide +kernel)]; kernel_rfl) | (rw [if_neg (by decide +kernel)]; exact ⟨rfl, rfl⟩))
  (fun os started H enc _ F => by rw [OpenClaim.pre_eq_preRow]; exact lifted os started H enc F)

theorem plain (f : FuncId) (fn : Func) (hf : Tryz.pinned.checked.prog.funcNamed "linchpin/linchpinlaw12.RecordJoins" = some f) (hfn : Tryz.pinned.checked.prog.funcs[f]? = some fn) :
  false = Tryz.pinned.checked.prog.looks [] ∧ ∀ (j : Nat) t, fn.params[j]? = some t → Tryz.pinned.checked.prog.wantsStandIn t = false := by
 obtain rfl : f = 11 := Option.some.inj ((show Tryz.prog.funcNamed "linchpin/linchpinlaw12.RecordJoins" = some 11 by kernel_rfl).symm.trans hf) |>.symm
 obtain rfl : fn = Tryz.f11 := (Option.some.inj (Tryz.func11.symm.trans hfn)).symm
 refine ⟨by kernel_rfl, fun j t ht => ?_⟩
 rw [Tryz.params11] at ht
 have hm := Array.mem_of_getElem? ht
 simp at hm
 subst hm
 exact (show Tryz.prog.wantsStandIn 43 = false by kernel_rfl)

theorem card : Rows.RecordJoinsCardSaid :=
 Claim7.holds_tied_plain_at .later [] _ _ _ _ said (fun _ h => by cases h) Kr (fun _ h => by cases h) recordJoins_row_tie rfl ⟨rfl, rfl⟩ Kr rfl plain Kr

#print axioms card
end Go.Proofs.YtjimgokkpcfgpaaGreatDoor.recordJoins
end
