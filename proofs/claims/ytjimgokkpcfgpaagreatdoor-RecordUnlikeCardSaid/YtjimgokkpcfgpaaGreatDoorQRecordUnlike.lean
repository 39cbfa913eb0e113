/-
 RecordUnlike: for every input the call returns true, and each argument reads afterwards as it read before. Conditions: none but the row's own, that the listed package-level variables read as the program's text lays them.
-/
import Derived.Test.YtjimgokkpcfgpaaGreatDoorCards
import Derived.Test.YtjimgokkpcfgpaaGreatDoorTie
import Derived.Test.YtjimgokkpcfgpaaGreatDoorRB7

section
/-
 Chapter 12: made records: two without a fault have one text just if they are the same. Conditions: what the package leans on lies as the text lays it.
-/
namespace Go.Proofs.YtjimgokkpcfgpaaGreatDoor
open Go.RowKit
set_option maxRecDepth 100000
set_option linter.unusedVariables false
set_option linter.unusedSimpArgs false
set_option linter.unnecessarySimpa false
set_option maxHeartbeats 4000000

/-- A made record. -/
structure MadeR (x : Rv) (ob : List Blk) : Prop where
 mem : RecO x ob
 gen : ∃ own keep, RecG own keep x
 chk : yI x.rt = (0, 0)
 len : (yB x.rt).length ≤ 3000
 bnd : p7 x.rt
 few : FewR x.rt 4096
theorem made_of {x : Rv} {ob : List Blk} {own : Nat} {keep : Nat → Bool} (h : RecG own keep x) (hR : RecO x ob) : MadeR x ob := by
 obtain ⟨g1, g2⟩ := rec_good h
 have hb := read_back (r := x.rt) (by rw [g1])
 have := read_bnd (s := yB x.rt) Om (by rw [hb])
 rw [hb] at this
 exact ⟨hR, ⟨own, keep, h⟩, g1, g2, this.1, this.2⟩
theorem MadeR.inn {x : Rv} {ob L : List Blk} {M : List Nat} {W w : World} (h : MadeR x ob) (hO : Own M W w L) (hs : ∀ b ∈ ob, b ∈ L) : RcIn w w.heap.size x := h.mem.inn hO hs h.bnd h.few
theorem nQ (v : Value) (l : List Int) (own : Nat) (W : World) (hv : ReadsI W W.heap.size v l) (hl : l.length ≤ 9223372036854775807) (ho : own ≤ 1000) : YC 23 #[v, YI 0, YI (own : Int)] W fun e w' => ∃ v' ob, e = .returned v' ∧ (∃ x, v' = rvV x ∧ MadeR x ob) ∧ Own [] W w' ob :=
 (record_gen v l 0 own W hv hl Om ho).mono fun e w' ⟨x, ob, q1, ⟨q2, q3⟩, q4⟩ => ⟨_, ob, q1, ⟨x, rfl, made_of q2 q3⟩, q4⟩
theorem pM {x : Rv} {ob L : List Blk} {M : List Nat} {W w : World} (h : MadeR x ob) (hO : Own M W w L) (hs : ∀ b ∈ ob, b ∈ L) (hK : RecLib w) : YC 16 #[rvV x] w (YR (.tuple #[.string (mkS (yB x.rt)), YI 0]) w) := by
 have := fS x w (h.inn hO hs) hK
 rw [mZ, h.chk, if_pos rfl] at this
 exact this
theorem recordUnlike.law (v : Value) (l : List Int) (v2 : Value) (l2 : List Int) (W : World) (hv : ReadsI W W.heap.size v l) (hl : l.length ≤ 9223372036854775807) (hv2 : ReadsI W W.heap.size v2 l2) (hl2 : l2.length ≤ 9223372036854775807) (hK : RecLib W) (hL : LyAt W) : YC 8 #[v, v2] W (YR (.bool true) W) := by
 refine zL Tryz.func8 (kW (R := fun v ob => ∃ x, v = rvV x ∧ MadeR x ob) [] (fun w hO => nQ v l 0 w ((hv.below hO.below).more hO.below.size) hl Om) ?_)
 rintro u ob1 ⟨x, rfl, hX⟩
 refine kW (R := fun v ob => ∃ x, v = rvV x ∧ MadeR x ob) [] (fun w hO => nQ v2 l2 0 w ((hv2.below hO.below).more hO.below.size) hl2 Om) ?_
 rintro u2 ob2 ⟨y, rfl, hY⟩
 refine zP [] fun b5 => zP [] fun b6 => (zA (v := .tuple #[.string (mkS (yB x.rt)), YI 0]) [1, 0, 1] (fun w hO => pM hX (hO.past 2 (ob1 ++ ob2)) (fun b hb => List.mem_append_left _ hb) (hK.on hO.below)) (zA (v := .tuple #[.string (mkS (yB y.rt)), YI 0]) [0] (fun w hO => pM hY (hO.past 2 (ob1 ++ ob2)) (fun b hb => List.mem_append_right _ hb) (hK.on hO.below)) ?_))
 have hsame : ∀ (b : Bool), decide (x.rt = y.rt) = b → ∀ w, Own [] W w (ob1 ++ ob2) → YC 26 #[rvV x, rvV y] w (YR (.bool b) w) := fun b hb w hO => hb ▸ qSame_any x y w (hX.inn hO (fun b hb => List.mem_append_left _ hb)).sm (hY.inn hO (fun b hb => List.mem_append_right _ hb)).sm
 refine zA (v := .bool true) [] (fun w hO => mW w (hK.on hO.below) (hL.on hO.below)) (kV 37 [] (yB x.rt) (yB y.rt) (fun h37 => ?_) (fun h37 => ?_))
 ·refine zA (v := .bool true) [1, 0] (fun w hO => hsame true (decide_eq_true (rec_alike (by rw [hX.chk]) (by rw [hY.chk]) h37)) w (hO.past 2 (ob1 ++ ob2))) (zE [] Z4 fun w hO => ⟨rfl, hO.below⟩)
 ·refine zA (v := .bool false) [1, 0] (fun w hO => hsame false (decide_eq_false fun e => h37 (by rw [e])) w (hO.past 2 (ob1 ++ ob2))) (zE [] Z4 fun w hO => ⟨rfl, hO.below⟩)
end Go.Proofs.YtjimgokkpcfgpaaGreatDoor
end

section
/-
 RecordUnlike: for every input the call returns true, and each argument reads afterwards as it read before. Conditions: none but the row's own, that the listed package-level variables read as the program's text lays them.
-/
namespace Go.Proofs.YtjimgokkpcfgpaaGreatDoor.recordUnlike
open Go.ChangeShapes Go.WideShapes Go.ChangeAt Go.RowKit
open Go.ChangeMaps (open_string shut_string)
set_option linter.unusedVariables false

set_option maxRecDepth 100000 in
theorem m9 (H : Type) (enc : TypeId × Value → H) (W : World) (base : Nat) (args : Array Value) (ds gs : List (DataW H)) (before : List MemPlace)
  (hval : ∀ (j : Nat) t v, Tryz.f8.params[j]? = some t → args[j]? = some v → Value.okWide Tryz.prog W .any base t v)
  (hW : DataW.Whole enc Tryz.prog Tryz.f8.params.toList Rows.recordUnlikeSpec.vars false W args.toList ds gs before) (hL : laidMetH Tryz.prog Rows.recordUnlikeRow.laid W) (hS : W.ShapedOpen Tryz.prog) :
  YC 8 args W fun e W' => ∃ v, e = .returned v ∧ Rows.recordUnlikeSpec.post enc Tryz.prog Tryz.f8 false true false false W args v W' := by
 have ht : HasLib W := hasLib_of (hasTab_of hL (by rfl)) hS
 have hW' := hW
 obtain ⟨p, q, hA0, hV, rfl, hfz, hnd⟩ := hW
 have hA : DataW.TrodAll enc Tryz.prog W 0 (fun _ => true) true Tryz.f8.params.toList args.toList ds p := hA0
 rw [Tryz.params8] at hA hval
 obtain ⟨v0, vs0, d0, ds0, p0, q0, hargs, rfl, rfl, h0, r0⟩ := trodAll_cons hA
 obtain ⟨v1, vs1, d1, ds1, p1, q1, rfl, rfl, rfl, h1, r1⟩ := trodAll_cons r0
 obtain ⟨rfl, rfl, rfl⟩ := trodAll_nil r1
 obtain rfl : args = #[v0, v1] := by cases args; simp_all
 obtain ⟨rfl, rfl⟩ := trodVars_none hV
 clear hA0
 obtain ⟨l, l_reads, l_len⟩ := nN (hval 0 43 v0 rfl rfl) h0
 obtain ⟨m, m_reads, m_len⟩ := nN (hval 1 43 v1 rfl rfl) h1
 refine (recordUnlike.law v0 l v1 m W l_reads l_len m_reads m_len ⟨ht, mkLib_of hL (by rfl)⟩ (lyAt_of hL (by rfl))).mono fun e W' ⟨he, hb⟩ => ?_
 subst he
 exact ⟨_, rfl, law_end laidOut (fun t ht => by rw [Tryz.params8] at ht; simp at ht; subst ht; exact ⟨by kernel_rfl, of_decide_eq_true Kr⟩) rfl rfl Tryz.underlying4 hW' (by rfl) hb⟩

noncomputable def kD (os : Os) : World :=
 { World.holding Tryz.prog os ⟨#[], #[], []⟩ with heap := qC (qC (qC (qC (qC (qC (qC ((World.holding Tryz.prog os ⟨#[], #[], []⟩).heap) 6 Rows.laid_math_bits_deBruijn32tab) 7 Rows.laid_math_bits_deBruijn64tab) 3 Rows.laid_internal_strconv_uint64pow10) 5 Rows.laid_unicode_utf8_acceptRanges) 2 Rows.laid_linchpin_mark_keys) 0 Rows.laid_linchpin_record_layouts) 4 Rows.laid_unicode_utf8_first }
theorem m6 (os : Os) : laidMet Tryz.prog Rows.recordUnlikeRow.laid ((kD os).forCall (fun _ _ => 0) ⟨#[], #[.slice none 0 0, .slice none 0 0], []⟩).memory :=
 laidMet_of_run' 8 Kr Kr
theorem reads (os : Os) {H : Type} (enc : TypeId × Value → H) : ∃ places, DataW.whole enc Tryz.prog ((kD os).forCall (fun _ _ => 0) ⟨#[], #[.slice none 0 0, .slice none 0 0], []⟩).memory Tryz.f8.params.toList Rows.recordUnlikeSpec.vars false (#[.slice none 0 0, .slice none 0 0] : Array Value).toList 8 = some ([.nil, .nil], [], places) :=
 ⟨[], by kernel_rfl⟩

set_option maxRecDepth 100000 in
theorem lifted (os : Os) (started : os.Started) (H : Type) (enc : TypeId × Value → H) (F : Stop.Interp) :
  ReturnsInHanded {} Tryz.checked os 8 .any ((OpenSpec.ofChange Rows.recordUnlikeSpec).preRow enc Tryz.prog Tryz.f8 Rows.recordUnlikeRow.domain false Rows.recordUnlikeRow.laid) (((OpenSpec.ofChange Rows.recordUnlikeSpec).at F).post enc Tryz.prog Tryz.f8 false true false false) := by
 obtain ⟨places, hx⟩ := reads os enc
 refine returnsInHanded_of_row (C := Tryz.checked) (s := OpenSpec.ofChange Rows.recordUnlikeSpec) own started Kr Tryz.func8
  (witness_row_at (enc := enc) (C := Tryz.checked) false (kD os) #[.slice none 0 0, .slice none 0 0] rfl Kr Kr Kr
   (OpenSpec.preRow_of_cond 8 hx Kr (fun k hk => by cases hk) Kr (m6 os))) ?_
 intro W base args ds gs before hval hW _ _ _ hL hS _
 exact m9 H enc W base args ds gs before hval hW hL hS

theorem j1 : (Rows.recordUnlikeRow.inPlace == Tryz.pinned.checked.prog.inPlace 8) = true := by kernel_rfl
theorem j2 : (Rows.recordUnlikeRow.unfollowed == Tryz.pinned.checked.prog.unfollowed 8) = true := by kernel_rfl
theorem j3 : (Rows.recordUnlikeRow.recurses == Tryz.pinned.checked.prog.recurses 8) = true := by kernel_rfl
theorem j4 : (Rows.recordUnlikeRow.named == Tryz.pinned.checked.prog.varsNamed 8) = true := by kernel_rfl
theorem j5 : (Rows.recordUnlikeRow.lifted == Tryz.pinned.checked.prog.liftsFinal) = true := by kernel_rfl
theorem closed : joinedFacts Tryz.pinned.checked.prog 8 Tryz.f8 (OpenSpec.ofChange Rows.recordUnlikeSpec).bare Rows.recordUnlikeRow = true := by
 unfold joinedFacts
 rw [jfLaid, jfMaps, j1, j2, j3, j4, jfHeard, jfEnter, j5]
 kernel_rfl

theorem said : Rows.RecordUnlikeSaid :=
 OpenClaim.holds_of_cond 8 Tryz.f8 rfl rfl rfl rfl rfl rfl rfl ⟨rfl, rfl, rfl, rfl, rfl⟩ rfl rfl rfl rfl rfl Kr Tryz.func8 closed
  (of_decide_eq_true Kr) (by unfold Func.isWrapper; first | (rw [if_pos (by decide +kernel)]; kernel_rfl) | (rw [if_neg (by decide +kernel)]; exact ⟨rfl, rfl⟩))
  (fun os started H enc _ F => by rw [OpenClaim.pre_eq_preRow]; exact lifted os started H enc F)

theorem mN (f : FuncId) (fn : Func) (hf : Tryz.pinned.checked.prog.funcNamed "linchpin/linchpinlaw12.RecordUnlike" = some f) (hfn : Tryz.pinned.checked.prog.funcs[f]? = some fn) :
  false = Tryz.pinned.checked.prog.looks [] ∧ ∀ (j : Nat) t, fn.params[j]? = some t → Tryz.pinned.checked.prog.wantsStandIn t = false := by
 obtain rfl : f = 8 := Option.some.inj ((show Tryz.prog.funcNamed "linchpin/linchpinlaw12.RecordUnlike" = some 8 by kernel_rfl).symm.trans hf) |>.symm
 obtain rfl : fn = Tryz.f8 := (Option.some.inj (Tryz.func8.symm.trans hfn)).symm
 refine ⟨by kernel_rfl, fun j t ht => ?_⟩
 rw [Tryz.params8] at ht
 have hm := Array.mem_of_getElem? ht
 simp at hm
 subst hm
 exact (show Tryz.prog.wantsStandIn 43 = false by kernel_rfl)

theorem card : Rows.RecordUnlikeCardSaid :=
 Claim7.holds_tied_plain_at .later [] _ _ _ _ said (fun _ h => by cases h) Kr (fun _ h => by cases h) recordUnlike_row_tie rfl ⟨rfl, rfl⟩ Kr rfl mN Kr

#print axioms card
end Go.Proofs.YtjimgokkpcfgpaaGreatDoor.recordUnlike
end
