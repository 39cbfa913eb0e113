/-
 RecordLines: for every input the call returns true, and each argument reads afterwards as it read before. Conditions: none but the row's own, that the listed package-level variables read as the program's text lays them.
-/
import Derived.Test.YtjimgokkpcfgpaaGreatDoorCards
import Derived.Test.YtjimgokkpcfgpaaGreatDoorTie
import Derived.Test.YtjimgokkpcfgpaaGreatDoorRL7

section
/-
 Chapter 12: a text whose lines are cut anywhere. Conditions: what the package leans on lies as the text lays it.
-/
namespace Go.Proofs.YtjimgokkpcfgpaaGreatDoor
open Go.RowKit
set_option maxRecDepth 100000
set_option linter.unusedVariables false
set_option linter.unusedSimpArgs false
set_option linter.unnecessarySimpa false
set_option maxHeartbeats 4000000

def cntL (s : List UInt8) (i : Nat) : Nat := ((s.take i).filter (· == 10)).length
theorem cntL_succ {s : List UInt8} {i : Nat} (h : i < s.length) : cntL s (i + 1) = cntL s i + if s[i] = 10 then 1 else 0 := by
 unfold cntL
 rw [← List.take_append_getElem h, List.filter_append, List.length_append]
 congr 1
 by_cases h10 : s[i] = 10
 ·simp [h10]
 ·simp [h10]
theorem cntL_le (s : List UInt8) (i : Nat) : cntL s i ≤ s.length := by
 unfold cntL
 exact Nat.le_trans (List.length_filter_le _ _) (by rw [List.length_take]; omega)
theorem byte_ten {b : UInt8} : ((b.toNat : Int) = 10) ↔ b = 10 := by
 constructor
 ·intro h; exact UInt8.toNat.inj (by show b.toNat = 10; omega)
 ·intro h; rw [h]; rfl
theorem recordLines.law (v : Value) (l : List Int) (at_ : Int) (W : World) (hv : ReadsI W W.heap.size v l) (hl : l.length ≤ 9223372036854775807) (hK : RecLib W) (hL : LyAt W) : YC 9 #[v, YI at_] W (YR (.bool true) W) := by
 refine zS Tryz.func9 (qO (R := fun v ob => ∃ x, v = rvV x ∧ MadeR x ob) [] (fun w hO => made_call v l 0 w ((hv.below hO.below).more hO.below.size) hl Om) ?_)
 rintro u ob ⟨x, rfl, hX⟩
 have hlen := hX.len
 have hpos : 0 < (kF x.rt).length := by
  unfold kF dW; simp [txPack]
 have hcut := fun k hk => read_cut (r := x.rt) (by rw [hX.chk]) (k := k) hk
 refine zE (v := .tuple #[.string (mkS (kF x.rt)), YI 0]) [] (fun w hO => made_print hX (hO.past 0 ob) (fun b hb => hb) (hK.on hO.below)) ?_
 generalize kF x.rt = s at *
 obtain ⟨k, hk, hks⟩ : ∃ k : Nat, plc at_ s.length = (k : Int) ∧ k < s.length := xH at_ s.length hpos
 have hplace : ∀ w, YC 24 #[YI at_, YI (s.length : Int)] w (YR (YI (k : Int)) w) := fun w => (mY at_ s.length w Om Om).mono fun e w' ⟨q1, q2⟩ => ⟨hk ▸ q1, q2 ▸ Below.refl _ _⟩
 refine zW 25 [] ((s.length : Int) = 0) (fun h => absurd h Om) (fun _ => zE (v := YI (k : Int)) [] (fun w hO => hplace w) (gY (α := Nat) (fun i => [(5, .string (mkS s)), (7, YI (k : Int)), (8, YI ((cntL s i + 1 : Nat) : Int)), (9, YI (i : Int))]) (fun _ => ob) (fun i m => i ≤ k ∧ m = k - i) 0 k [] ⟨Nat.zero_le _, rfl⟩ ?_))
 rintro i mm g kk ⟨hi, hmm⟩ nx hkk
 subst hkk
 refine zW 33 [] ((i : Int) < (k : Int)) (fun h33 => ?_) (fun h33 => ?_)
 ·have his : i < s.length := by omega
  obtain ⟨b, hb⟩ : ∃ b, s[i] = b := ⟨_, rfl⟩
  have hc := cntL_succ his
  have hcl := cntL_le s i
  rw [hb] at hc
  refine x_sidx 38 [] s i his b hb (zW 39 [] ((b.toNat : Int) = 10) (fun h39 => ?_) (fun h39 => ?_))
  ·rw [if_pos (byte_ten.1 h39)] at hc
   exact x_i 41 [] (((cntL s i + 1 : Nat) : Int) + 1) (x_i 35 [] ((i + 1 : Nat) : Int) (jK 8 [] (YI (((cntL s i + 1 : Nat) : Int) + 1)) (YI ((cntL s (i + 1) + 1 : Nat) : Int)) (by rw [hc]; rfl) (nx (i + 1) (k - (i + 1)) [] Om ⟨by omega, rfl⟩ Kr Kr)))
  ·rw [if_neg (fun q => h39 (byte_ten.2 q)), Nat.add_zero] at hc
   exact x_i 35 [] ((i + 1 : Nat) : Int) (jK 8 [] (YI ((cntL s i + 1 : Nat) : Int)) (YI ((cntL s (i + 1) + 1 : Nat) : Int)) (by rw [hc]) (nx (i + 1) (k - (i + 1)) [] Om ⟨by omega, rfl⟩ Kr Kr))
 obtain rfl : i = k := by omega
 have hcu := hcut i hks
 obtain ⟨t, ht⟩ : ∃ t, s.take i = t := ⟨_, rfl⟩
 have htl : t.length ≤ 1000000 := by rw [← ht, List.length_take]; omega
 have hcn : (t.filter (· == 10)).length = cntL s i := by rw [← ht]; rfl
 have hgl : 0 < i → t.getLast? = s[i - 1]? := fun h0 => by
  rw [← ht, List.getLast?_take, if_neg Om]
  simp [List.getElem?_eq_getElem (show i - 1 < s.length by omega)]
 rw [ht, hcn] at hcu
 obtain ⟨z1, hz1⟩ : ∃ z, (g0 t).2.1 = z := ⟨_, rfl⟩
 obtain ⟨z2, hz2⟩ : ∃ z, (g0 t).2.2 = z := ⟨_, rfl⟩
 have hpa : ∀ w, Below W.heap.size W w → YC 20 #[.string (mkS t)] w fun e w' => ∃ v ob, e = .returned v ∧ (∃ y, v = .tuple #[rvV y, YI z1, YI z2]) ∧ Own [] w w' ob := fun w hb => by
  refine (parse_call t w htl (hK.on hb) (hL.on hb)).mono fun e w' ⟨v, ob, q1, ⟨y, q2, _⟩, q5⟩ => ⟨v, ob, q1, ⟨y, ?_⟩, q5⟩
  rw [q2, hz1, hz2]
 refine x_shi 45 [] s (i : Int) Om Om (.string (mkS t)) (by rw [Int.toNat_natCast, ht]) (qO (R := fun v ob => ∃ y, v = .tuple #[rvV y, YI z1, YI z2]) [] (fun w hO => hpa w hO.below) ?_)
 rintro u2 ob2 ⟨y, rfl⟩
 have haw := fun w (hb : Below W.heap.size W w) => awake12_any w (hK.on hb) (hL.on hb)
 have hpair : (g0 t).2 = (z1, z2) := by rw [← hz1, ← hz2]
 rw [hz1, hz2, hpair] at hcu
 refine zV [] fun b10 => zW 51 [0] ((i : Int) > 0) (fun h51 => ?_) (fun h51 => ?_)
 ·have hi1 : i - 1 < s.length := by omega
  obtain ⟨b, hb⟩ : ∃ b, s[i - 1] = b := ⟨_, rfl⟩
  have hg := hgl Om
  rw [List.getElem?_eq_getElem hi1, hb] at hg
  refine jK 55 [] (YI (IntKind.i64.wrap ((i : Int) - 1))) (YI ((i - 1 : Nat) : Int)) (by rw [IntWalk.i64_in _ (by omega), show (i : Int) - 1 = ((i - 1 : Nat) : Int) by omega]) (x_sidx 56 [] s (i - 1) hi1 b hb (zW 57 [] ((b.toNat : Int) = 10) (fun h57 => ?_) (fun h57 => ?_)))
  ·rcases hcu with ⟨_, q1, q2⟩ | ⟨q, _⟩
   rotate_left
   ·exact absurd ⟨by omega, by rw [hg, byte_ten.1 h57]⟩ q
   refine zE (v := .bool true) [] (fun w hO => haw w hO.below) (x_bn 77 [] (z1 = 2) (fun h => absurd h q1) (fun _ => zW 80 [] (z2 = 0) (fun _ => ?_) (fun h => absurd q2 h)))
   exact zF [] Z4 fun w hO => ⟨rfl, hO.below⟩
  ·rcases hcu with ⟨q, _⟩ | ⟨_, q⟩
   ·exact absurd (by have := q.2; rw [hg] at this; exact byte_ten.2 (Option.some.inj this)) h57
   simp only [Prod.mk.injEq] at q
   refine zE (v := .bool true) [] (fun w hO => haw w hO.below) (zW 64 [] (z1 = 2) (fun _ => zW 68 [] (z2 = ((cntL s i + 1 : Nat) : Int)) (fun _ => ?_) (fun h => absurd q.2 h)) (fun h => absurd q.1 h))
   exact zF [] Z4 fun w hO => ⟨rfl, hO.below⟩
 ·rcases hcu with ⟨q, _⟩ | ⟨_, q⟩
  ·exact absurd q.1 Om
  simp only [Prod.mk.injEq] at q
  refine zE (v := .bool true) [] (fun w hO => haw w hO.below) (zW 64 [] (z1 = 2) (fun _ => zW 68 [] (z2 = ((cntL s i + 1 : Nat) : Int)) (fun _ => ?_) (fun h => absurd q.2 h)) (fun h => absurd q.1 h))
  exact zF [] Z4 fun w hO => ⟨rfl, hO.below⟩
end Go.Proofs.YtjimgokkpcfgpaaGreatDoor
end

section
/-
 RecordLines: for every input the call returns true, and each argument reads afterwards as it read before. Conditions: none but the row's own, that the listed package-level variables read as the program's text lays them.
-/
namespace Go.Proofs.YtjimgokkpcfgpaaGreatDoor.recordLines
open Go.ChangeShapes Go.WideShapes Go.ChangeAt Go.RowKit
open Go.ChangeMaps (open_string shut_string)
set_option linter.unusedVariables false

set_option maxRecDepth 100000 in
theorem contract (H : Type) (enc : TypeId × Value → H) (W : World) (base : Nat) (args : Array Value) (ds gs : List (DataW H)) (before : List MemPlace)
  (hval : ∀ (j : Nat) t v, Tryz.f9.params[j]? = some t → args[j]? = some v → Value.okWide Tryz.prog W .any base t v)
  (hW : DataW.Whole enc Tryz.prog Tryz.f9.params.toList Rows.recordLinesSpec.vars false W args.toList ds gs before) (hL : laidMetH Tryz.prog Rows.recordLinesRow.laid W) (hS : W.ShapedOpen Tryz.prog) :
  YC 9 args W fun e W' => ∃ v, e = .returned v ∧ Rows.recordLinesSpec.post enc Tryz.prog Tryz.f9 false true false false W args v W' := by
 have ht : HasLib W := hasLib_of (hasTab_of hL (by rfl)) hS
 have hW' := hW
 obtain ⟨p, q, hA0, hV, rfl, hfz, hnd⟩ := hW
 have hA : DataW.TrodAll enc Tryz.prog W 0 (fun _ => true) true Tryz.f9.params.toList args.toList ds p := hA0
 rw [Tryz.params9] at hA hval
 obtain ⟨v0, vs0, d0, ds0, p0, q0, hargs, rfl, rfl, h0, r0⟩ := trodAll_cons hA
 obtain ⟨v1, vs1, d1, ds1, p1, q1, rfl, rfl, rfl, h1, r1⟩ := trodAll_cons r0
 obtain ⟨rfl, rfl, rfl⟩ := trodAll_nil r1
 obtain rfl : args = #[v0, v1] := by cases args; simp_all
 obtain ⟨rfl, rfl⟩ := trodVars_none hV
 obtain ⟨at_, rfl, rfl, rfl, w1⟩ := open_int Tryz.underlying3 (hval 1 3 v1 rfl rfl) h1
 clear hA0
 obtain ⟨l, l_reads, l_len⟩ := open_nums (hval 0 43 v0 rfl rfl) h0
 refine (recordLines.law v0 l at_ W l_reads l_len ⟨ht, mkLib_of hL (by rfl)⟩ (lyAt_of hL (by rfl))).mono fun e W' ⟨he, hb⟩ => ?_
 subst he
 exact ⟨_, rfl, law_end laidOut (fun t ht => by rw [Tryz.params9] at ht; simp at ht; rcases ht with rfl | rfl <;> exact ⟨by kernel_rfl, of_decide_eq_true Kr⟩) rfl rfl Tryz.underlying4 hW' (by rfl) hb⟩

noncomputable def laidWorld (os : Os) : World :=
 { World.holding Tryz.prog os ⟨#[], #[], []⟩ with heap := layAt (layAt (layAt (layAt (layAt (layAt (layAt ((World.holding Tryz.prog os ⟨#[], #[], []⟩).heap) 6 Rows.laid_math_bits_deBruijn32tab) 7 Rows.laid_math_bits_deBruijn64tab) 3 Rows.laid_internal_strconv_uint64pow10) 5 Rows.laid_unicode_utf8_acceptRanges) 2 Rows.laid_linchpin_mark_keys) 0 Rows.laid_linchpin_record_layouts) 4 Rows.laid_unicode_utf8_first }
theorem laid_met (os : Os) : laidMet Tryz.prog Rows.recordLinesRow.laid ((laidWorld os).forCall (fun _ _ => 0) ⟨#[], #[.slice none 0 0, YI 0], []⟩).memory :=
 laidMet_of_run' 8 Kr Kr
theorem reads (os : Os) {H : Type} (enc : TypeId × Value → H) : ∃ places, DataW.whole enc Tryz.prog ((laidWorld os).forCall (fun _ _ => 0) ⟨#[], #[.slice none 0 0, .int .i64 0], []⟩).memory Tryz.f9.params.toList Rows.recordLinesSpec.vars false (#[.slice none 0 0, .int .i64 0] : Array Value).toList 8 = some ([.nil, .lit (.int .i64 0)], [], places) :=
 ⟨[], by kernel_rfl⟩

set_option maxRecDepth 100000 in
theorem lifted (os : Os) (started : os.Started) (H : Type) (enc : TypeId × Value → H) (F : Stop.Interp) :
  ReturnsInHanded {} Tryz.checked os 9 .any ((OpenSpec.ofChange Rows.recordLinesSpec).preRow enc Tryz.prog Tryz.f9 Rows.recordLinesRow.domain false Rows.recordLinesRow.laid) (((OpenSpec.ofChange Rows.recordLinesSpec).at F).post enc Tryz.prog Tryz.f9 false true false false) := by
 obtain ⟨places, hx⟩ := reads os enc
 refine returnsInHanded_of_row (C := Tryz.checked) (s := OpenSpec.ofChange Rows.recordLinesSpec) own started Kr Tryz.func9
  (witness_row_at (enc := enc) (C := Tryz.checked) false (laidWorld os) #[.slice none 0 0, YI 0] rfl Kr Kr Kr
   (OpenSpec.preRow_of_cond 8 hx Kr (fun k hk => by cases hk) Kr (laid_met os))) ?_
 intro W base args ds gs before hval hW _ _ _ hL hS _
 exact contract H enc W base args ds gs before hval hW hL hS

theorem j1 : (Rows.recordLinesRow.inPlace == Tryz.pinned.checked.prog.inPlace 9) = true := by kernel_rfl
theorem j2 : (Rows.recordLinesRow.unfollowed == Tryz.pinned.checked.prog.unfollowed 9) = true := by kernel_rfl
theorem j3 : (Rows.recordLinesRow.recurses == Tryz.pinned.checked.prog.recurses 9) = true := by kernel_rfl
theorem j4 : (Rows.recordLinesRow.named == Tryz.pinned.checked.prog.varsNamed 9) = true := by kernel_rfl
theorem j5 : (Rows.recordLinesRow.lifted == Tryz.pinned.checked.prog.liftsFinal) = true := by kernel_rfl
theorem closed : joinedFacts Tryz.pinned.checked.prog 9 Tryz.f9 (OpenSpec.ofChange Rows.recordLinesSpec).bare Rows.recordLinesRow = true := by
 unfold joinedFacts
 rw [jfLaid, jfMaps, j1, j2, j3, j4, jfHeard, jfEnter, j5]
 kernel_rfl

theorem said : Rows.RecordLinesSaid :=
 OpenClaim.holds_of_cond 9 Tryz.f9 rfl rfl rfl rfl rfl rfl rfl ⟨rfl, rfl, rfl, rfl, rfl⟩ rfl rfl rfl rfl rfl Kr Tryz.func9 closed
  (of_decide_eq_true Kr) (by unfold Func.isWrapper; first | (rw [if_pos (by decide +kernel)]; kernel_rfl) | (rw [if_neg (by decide +kernel)]; exact ⟨rfl, rfl⟩))
  (fun os started H enc _ F => by rw [OpenClaim.pre_eq_preRow]; exact lifted os started H enc F)

theorem plain (f : FuncId) (fn : Func) (hf : Tryz.pinned.checked.prog.funcNamed "linchpin/linchpinlaw12.RecordLines" = some f) (hfn : Tryz.pinned.checked.prog.funcs[f]? = some fn) :
  false = Tryz.pinned.checked.prog.looks [] ∧ ∀ (j : Nat) t, fn.params[j]? = some t → Tryz.pinned.checked.prog.wantsStandIn t = false := by
 obtain rfl : f = 9 := Option.some.inj ((show Tryz.prog.funcNamed "linchpin/linchpinlaw12.RecordLines" = some 9 by kernel_rfl).symm.trans hf) |>.symm
 obtain rfl : fn = Tryz.f9 := (Option.some.inj (Tryz.func9.symm.trans hfn)).symm
 refine ⟨by kernel_rfl, fun j t ht => ?_⟩
 rw [Tryz.params9] at ht
 have hm := Array.mem_of_getElem? ht
 simp at hm
 rcases hm with rfl | rfl
 ·exact (show Tryz.prog.wantsStandIn 43 = false by kernel_rfl)
 ·exact (show Tryz.prog.wantsStandIn 3 = false by kernel_rfl)

theorem card : Rows.RecordLinesCardSaid :=
 Claim7.holds_tied_plain_at .later [] _ _ _ _ said (fun _ h => by cases h) Kr (fun _ h => by cases h) recordLines_row_tie rfl ⟨rfl, rfl⟩ Kr rfl plain Kr

#print axioms card
end Go.Proofs.YtjimgokkpcfgpaaGreatDoor.recordLines
end
