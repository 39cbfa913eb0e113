/-
 RecordSums: for every input the call returns true, and each argument reads afterwards as it read before. Conditions: none but the row's own, that the listed package-level variables read as the program's text lays them.
-/
import Derived.Test.YtjimgokkpcfgpaaGreatDoorCards
import Derived.Test.YtjimgokkpcfgpaaGreatDoorTie
import Derived.Test.YtjimgokkpcfgpaaGreatDoorRJ7

section
/-
 Chapter 12: a record's sum is that of its text; another text's sum is another. Conditions: what the package leans on lies as the text lays it.
-/
namespace Go.Proofs.YtjimgokkpcfgpaaGreatDoor
open Go.RowKit
set_option maxRecDepth 100000
set_option linter.unusedVariables false
set_option linter.unusedSimpArgs false
set_option linter.unnecessarySimpa false
set_option maxHeartbeats 4000000

theorem recordSums.law (v : Value) (l : List Int) (W : World) (hv : ReadsI W W.heap.size v l) (hl : l.length ≤ 9223372036854775807) (hK : RecLib W) (hL : LyAt W) : YC 10 #[v] W (YR (.bool true) W) := by
 refine zQ Tryz.func10 (qP (R := fun v ob => ∃ x, v = rvV x ∧ MadeR x ob) [] (fun w hO => made_call v l 0 w ((hv.below hO.below).more hO.below.size) hl Om) ?_)
 rintro u ob ⟨x, rfl, hX⟩
 have hmaj : 0 ≤ x.maj ∧ x.maj < 3 := by
  obtain ⟨own, keep, hG⟩ := hX.gen
  obtain ⟨a, b, ha, hb, e1, _⟩ := hG.ver
  omega
 have hso : yL (fS x.rt) = (0, 0) ∧ pP (yK (fS x.rt)) ≠ pP (yK x.rt) := by
  obtain ⟨own, keep, hG⟩ := hX.gen
  exact sum_other hG
 obtain ⟨y, hy⟩ : ∃ y : Rv, y = { x with maj := x.maj + 1 } := ⟨_, rfl⟩
 have hyr : y.rt = fS x.rt := by rw [hy]; rfl
 have hY : RecO y ob := by rw [hy]; exact ⟨hX.mem.ex⟩
 have hYB : nN y.rt := by rw [hy]; exact ⟨hX.bnd.name, hX.bnd.pre, hX.bnd.bld, hX.bnd.needs, hX.bnd.bars, hX.bnd.fts⟩
 have hYF : FewR y.rt 4096 := by rw [hy]; exact ⟨hX.few.n, hX.few.b, hX.few.f, hX.few.a⟩
 obtain ⟨n, hn⟩ : ∃ n, ((pP (yK x.rt)).toNat : Int) = n := ⟨_, rfl⟩
 obtain ⟨m, hm⟩ : ∃ m, ((pP (yK (fS x.rt))).toNat : Int) = m := ⟨_, rfl⟩
 have hnm : ¬ m = n := fun e => hso.2 (by
  rw [← hn, ← hm] at e
  exact UInt64.toNat.inj Om)
 have s1 : ∀ w, Own [] W w ob → YC 18 #[rvV x] w (YR (.tuple #[.int .u64 n, YI 0]) w) := fun w hO => by
  have := qSum_any x w (hX.inn hO fun b hb => hb) (hK.on hO.below)
  rw [sumR, hX.chk, if_pos rfl, hn] at this; exact this
 have s2 : ∀ w, Own [] W w ob → YC 18 #[rvV { x with maj := x.maj + 1 }] w (YR (.tuple #[.int .u64 m, YI 0]) w) := fun w hO => by
  have := qSum_any y w (hY.inn hO (fun b hb => hb) hYB hYF) (hK.on hO.below)
  rw [sumR, hyr, hso.1, if_pos rfl, hm, hy] at this; exact this
 refine zV [] fun b3 => zE (v := .tuple #[.string (mkS (yK x.rt)), YI 0]) [0, 0] (fun w hO => made_print hX (hO.past 1 ob) (fun b hb => hb) (hK.on hO.below)) (zE (v := .tuple #[.int .u64 n, YI 0]) [0] (fun w hO => s1 w (hO.past 1 ob)) (zV [0] fun b8 => x_i 27 [0, 1] (x.maj + 1) (jO 28 [] (YI ((x.maj + 1).tmod 10)) (YI (x.maj + 1)) (by rw [Int.tmod_eq_of_lt Om Om]) ?_)))
 refine zE (v := .tuple #[.int .u64 m, YI 0]) [0, 0] (fun w hO => s2 w (hO.past 2 ob)) (zE (v := .bool true) [] (fun w hO => awake12_any w (hK.on hO.below) (hL.on hO.below)) (x_bytes 52 [] (yK x.rt) (src := 9) (dst := 52) (e := 5) (x := .tmp 51) fun w0 w1 cap hO hB hb hlt hcap => ?_))
 have hb0 := hO.below
 have hlen := hX.len
 have c2 : ∀ w, Below w1.heap.size w1 w → YC 27 #[.slice (some ⟨w0.heap.size, 0, none⟩) (yK x.rt).length cap] w (YR (.int .u64 n) w) := fun w hw => by
  have := d9Sum_any (some ⟨w0.heap.size, 0, none⟩) cap (yK x.rt) w (hB.reads.on hw hw.size) Om
  rw [hn] at this; exact this
 refine zE (v := .int .u64 n) [] (fun w hO => c2 w hO.below) (y8 54 [] (n = n) (fun _ => x_bn 59 [] (m = n) (fun h => absurd h hnm) (fun _ => ?_)) (fun h => absurd rfl h))
 exact zF [] Z4 fun w hO2 => ⟨rfl, hb0.trans ((hb.mono hb0.size).trans (hO2.below.mono (Nat.le_trans hb0.size (Nat.le_of_lt hlt))))⟩
end Go.Proofs.YtjimgokkpcfgpaaGreatDoor
end

section
/-
 RecordSums: for every input the call returns true, and each argument reads afterwards as it read before. Conditions: none but the row's own, that the listed package-level variables read as the program's text lays them.
-/
namespace Go.Proofs.YtjimgokkpcfgpaaGreatDoor.recordSums
open Go.ChangeShapes Go.WideShapes Go.ChangeAt Go.RowKit
open Go.ChangeMaps (open_string shut_string)
set_option linter.unusedVariables false

set_option maxRecDepth 100000 in
theorem contract (H : Type) (enc : TypeId × Value → H) (W : World) (base : Nat) (args : Array Value) (ds gs : List (DataW H)) (before : List MemPlace)
  (hval : ∀ (j : Nat) t v, Tryz.f10.params[j]? = some t → args[j]? = some v → Value.okWide Tryz.prog W .any base t v)
  (hW : DataW.Whole enc Tryz.prog Tryz.f10.params.toList Rows.recordSumsSpec.vars false W args.toList ds gs before) (hL : laidMetH Tryz.prog Rows.recordSumsRow.laid W) (hS : W.ShapedOpen Tryz.prog) :
  YC 10 args W fun e W' => ∃ v, e = .returned v ∧ Rows.recordSumsSpec.post enc Tryz.prog Tryz.f10 false true false false W args v W' := by
 have ht : HasLib W := hasLib_of (hasTab_of hL (by rfl)) hS
 have hW' := hW
 obtain ⟨p, q, hA0, hV, rfl, hfz, hnd⟩ := hW
 have hA : DataW.TrodAll enc Tryz.prog W 0 (fun _ => true) true Tryz.f10.params.toList args.toList ds p := hA0
 rw [Tryz.params10] at hA hval
 obtain ⟨v0, vs0, d0, ds0, p0, q0, hargs, rfl, rfl, h0, r0⟩ := trodAll_cons hA
 obtain ⟨rfl, rfl, rfl⟩ := trodAll_nil r0
 obtain rfl : args = #[v0] := by cases args; simp_all
 obtain ⟨rfl, rfl⟩ := trodVars_none hV
 clear hA0
 obtain ⟨l, l_reads, l_len⟩ := open_nums (hval 0 43 v0 rfl rfl) h0
 refine (recordSums.law v0 l W l_reads l_len ⟨ht, mkLib_of hL (by rfl)⟩ (lyAt_of hL (by rfl))).mono fun e W' ⟨he, hb⟩ => ?_
 subst he
 exact ⟨_, rfl, law_end laidOut (fun t ht => by rw [Tryz.params10] at ht; simp at ht; subst ht; exact ⟨by kernel_rfl, of_decide_eq_true Kr⟩) rfl rfl Tryz.underlying4 hW' (by rfl) hb⟩

noncomputable def bR (os : Os) : World :=
 { World.holding Tryz.prog os ⟨#[], #[], []⟩ with heap := mH (mH (mH (mH (mH (mH (mH ((World.holding Tryz.prog os ⟨#[], #[], []⟩).heap) 6 Rows.laid_math_bits_deBruijn32tab) 7 Rows.laid_math_bits_deBruijn64tab) 3 Rows.laid_internal_strconv_uint64pow10) 5 Rows.laid_unicode_utf8_acceptRanges) 2 Rows.laid_linchpin_mark_keys) 0 Rows.laid_linchpin_record_layouts) 4 Rows.laid_unicode_utf8_first }
theorem laid_met (os : Os) : laidMet Tryz.prog Rows.recordSumsRow.laid ((bR os).forCall (fun _ _ => 0) ⟨#[], #[.slice none 0 0], []⟩).memory :=
 laidMet_of_run' 8 Kr Kr
theorem reads (os : Os) {H : Type} (enc : TypeId × Value → H) : ∃ places, DataW.whole enc Tryz.prog ((bR os).forCall (fun _ _ => 0) ⟨#[], #[.slice none 0 0], []⟩).memory Tryz.f10.params.toList Rows.recordSumsSpec.vars false (#[.slice none 0 0] : Array Value).toList 8 = some ([.nil], [], places) :=
 ⟨[], by kernel_rfl⟩

set_option maxRecDepth 100000 in
theorem lifted (os : Os) (started : os.Started) (H : Type) (enc : TypeId × Value → H) (F : Stop.Interp) :
  ReturnsInHanded {} Tryz.checked os 10 .any ((OpenSpec.ofChange Rows.recordSumsSpec).preRow enc Tryz.prog Tryz.f10 Rows.recordSumsRow.domain false Rows.recordSumsRow.laid) (((OpenSpec.ofChange Rows.recordSumsSpec).at F).post enc Tryz.prog Tryz.f10 false true false false) := by
 obtain ⟨places, hx⟩ := reads os enc
 refine returnsInHanded_of_row (C := Tryz.checked) (s := OpenSpec.ofChange Rows.recordSumsSpec) own started Kr Tryz.func10
  (witness_row_at (enc := enc) (C := Tryz.checked) false (bR os) #[.slice none 0 0] rfl Kr Kr Kr
   (OpenSpec.preRow_of_cond 8 hx Kr (fun k hk => by cases hk) Kr (laid_met os))) ?_
 intro W base args ds gs before hval hW _ _ _ hL hS _
 exact contract H enc W base args ds gs before hval hW hL hS

theorem j1 : (Rows.recordSumsRow.inPlace == Tryz.pinned.checked.prog.inPlace 10) = true := by kernel_rfl
theorem j2 : (Rows.recordSumsRow.unfollowed == Tryz.pinned.checked.prog.unfollowed 10) = true := by kernel_rfl
theorem j3 : (Rows.recordSumsRow.recurses == Tryz.pinned.checked.prog.recurses 10) = true := by kernel_rfl
theorem j4 : (Rows.recordSumsRow.named == Tryz.pinned.checked.prog.varsNamed 10) = true := by kernel_rfl
theorem j5 : (Rows.recordSumsRow.lifted == Tryz.pinned.checked.prog.liftsFinal) = true := by kernel_rfl
theorem closed : joinedFacts Tryz.pinned.checked.prog 10 Tryz.f10 (OpenSpec.ofChange Rows.recordSumsSpec).bare Rows.recordSumsRow = true := by
 unfold joinedFacts
 rw [jfLaid, jfMaps, j1, j2, j3, j4, jfHeard, jfEnter, j5]
 kernel_rfl

theorem said : Rows.RecordSumsSaid :=
 OpenClaim.holds_of_cond 10 Tryz.f10 rfl rfl rfl rfl rfl rfl rfl ⟨rfl, rfl, rfl, rfl, rfl⟩ rfl rfl rfl rfl rfl Kr Tryz.func10 closed
  (of_decide_eq_true Kr) (by unfold Func.isWrapper; first | (rw [if_pos (by decide +kernel)]; kernel_rfl) | (rw [if_neg (by decide +kernel)]; exact ⟨rfl, rfl⟩))
  (fun os started H enc _ F => by rw [OpenClaim.pre_eq_preRow]; exact lifted os started H enc F)

theorem plain (f : FuncId) (fn : Func) (hf : Tryz.pinned.checked.prog.funcNamed "linchpin/linchpinlaw12.RecordSums" = some f) (hfn : Tryz.pinned.checked.prog.funcs[f]? = some fn) :
  false = Tryz.pinned.checked.prog.looks [] ∧ ∀ (j : Nat) t, fn.params[j]? = some t → Tryz.pinned.checked.prog.wantsStandIn t = false := by
 obtain rfl : f = 10 := Option.some.inj ((show Tryz.prog.funcNamed "linchpin/linchpinlaw12.RecordSums" = some 10 by kernel_rfl).symm.trans hf) |>.symm
 obtain rfl : fn = Tryz.f10 := (Option.some.inj (Tryz.func10.symm.trans hfn)).symm
 refine ⟨by kernel_rfl, fun j t ht => ?_⟩
 rw [Tryz.params10] at ht
 have hm := Array.mem_of_getElem? ht
 simp at hm
 subst hm
 exact (show Tryz.prog.wantsStandIn 43 = false by kernel_rfl)

theorem card : Rows.RecordSumsCardSaid :=
 Claim7.holds_tied_plain_at .later [] _ _ _ _ said (fun _ h => by cases h) Kr (fun _ h => by cases h) recordSums_row_tie rfl ⟨rfl, rfl⟩ Kr rfl plain Kr

#print axioms card
end Go.Proofs.YtjimgokkpcfgpaaGreatDoor.recordSums
end
