/-
 ManifestChecks: where what comes in holds at most 1048576 values and letters, the call returns true, and each argument reads afterwards as it read before. Conditions: that bound, and the row's own, that the listed package-level variables read as the program's text lays them.
-/
import Derived.Test.YtobimfnmnkegdaaGreatDoorCards
import Derived.Test.YtobimfnmnkegdaaGreatDoorTie
import Derived.Test.YtobimfnmnkegdaaGreatDoorMC8

section
/-
 Chapter 16: any manifest of bounded bulk: Check and Print answer as the reference does (ManifestChecks, the second form). Conditions: the bound; what the package leans on lies as the text lays it.
-/
namespace Go.Proofs.YtobimfnmnkegdaaGreatDoor
open Go.RowKit
set_option maxRecDepth 100000
set_option linter.unusedVariables false
set_option linter.unusedSimpArgs false
set_option linter.unnecessarySimpa false
set_option maxHeartbeats 4000000

theorem manifestChecks.law (x:Mv)(W:World)(hx:MnIn W W.heap.size x)(hK:RecLib W)(hL:LyAt W):YC 5 #[mvV x] W (YR (.bool true) W):=by
 have haw:=λw (hb:YB W w)=>awake16_any w (hK.on hb) (hL.on hb)
 have hfw:∀ w,YB W w->YC 17 #[mvV x] w (AnyB w):=λw hb=>few16_any x w (hx.on hb hb.size)
 refine zD Tryz.func5 (yK [] λb1=>x_callE (k:=17) (args:= #[mvV x]) (R:=λv=>∃ b,v= .bool b) [0] (λw hO=>hfw w hO.below) ?_)
 rintro _ ⟨bb,rfl⟩
 refine zP 12 bb (λ_=> ?_) (λ_=> ?_)
 rotate_left
 ·exact z8 (v:= .bool true) [] (λw hO=>haw w hO.below) (z7 [] Z4 λw hO=>⟨rfl,hO.below⟩)
 have c1:∀ w,YB W w->YC 19 #[mvV x] w (YR (.tuple #[YI (yJ x.mt).1,YI (yJ x.mt).2]) w):=λw hb=>mCheck_any x w (hx.on hb hb.size) (hK.on hb)
 have c2:∀ w,YB W w->YC 20 #[mvV x] w (YR (.tuple #[YI (yJ x.mt).1,YI (yJ x.mt).2]) w):=λw hb=>r16Check_any x w (hx.on hb hb.size)
 have c3:∀ w,YB W w->YC 21 #[mvV x] w (YR (.tuple #[.string (mkS (prMn x.mt)),YI (yJ x.mt).1]) w):=λw hb=>mPrint_any x w (hx.on hb hb.size) (hK.on hb)
 have c4:∀ w,YB W w->YC 22 #[mvV x] w (YR (.tuple #[.string (mkS (prMn x.mt)),YI (yJ x.mt).1]) w):=λw hb=>r16Print_any x w (hx.on hb hb.size)
 clear hfw
 generalize (yJ x.mt).1=e at*
 generalize (yJ x.mt).2=k at*
 generalize prMn x.mt=t at*
 refine z8 (v:= .tuple #[YI e,YI k]) [0] (λw hO=>c1 w hO.below) (z8 (v:= .tuple #[YI e,YI k]) [0] (λw hO=>c2 w hO.below) (z8 (v:= .tuple #[.string (mkS t),YI e]) [0] (λw hO=>c3 w hO.below) (z8 (v:= .tuple #[.string (mkS t),YI e]) [0] (λw hO=>c4 w hO.below) (z8 (v:= .bool true) [] (λw hO=>haw w hO.below) ?_))))
 exact x_yes 39 [] (e=e) rfl (x_yes 44 [] (k=k) rfl (x4 49 [] t t (λ_=>x_yes 54 [] (e=e) rfl (z7 [] Z4 λw hO=>⟨rfl,hO.below⟩)) (λh=>absurd rfl h)))
end Go.Proofs.YtobimfnmnkegdaaGreatDoor
end

section
/-
 ManifestChecks: where what comes in holds at most 1048576 values and letters, the call returns true, and each argument reads afterwards as it read before. Conditions: that bound, and the row's own, that the listed package-level variables read as the program's text lays them.
-/
namespace Go.Proofs.YtobimfnmnkegdaaGreatDoor.manifestChecks
open Go.ChangeShapes Go.WideShapes Go.ChangeAt Go.RowKit
open Go.ChangeMaps (open_string shut_string)
set_option linter.unusedVariables false

set_option maxRecDepth 100000 in
theorem contract (H:Type)(enc:TypeId×Value->H)(W:World)(base:Nat)(args:Array Value)(ds gs:List (DataW H))(before:List MemPlace)
  (hval:∀ (j:Nat) t v,Tryz.f5.params[j]?=some t->args[j]?=some v->Value.okWide YP W .any base t v)
  (hW:DataW.Whole enc YP Tryz.f5.params.toList Rows.manifestChecksSpec.vars false W args.toList ds gs before) (hL:laidMetH YP Rows.manifestChecksUptoRow.laid W) (hS:W.ShapedOpen YP) (hU:Rows.uptoSmall H (ds++gs)=true):
  YC 5 args W λe W'=>∃ v,e= .returned v/\Rows.manifestChecksSpec.post enc YP Tryz.f5 false true false false W args v W':=by
 have ht:HasLib W:=hasLib_of (hasTab_of hL (by rfl)) hS
 have hW':=hW
 obtain ⟨p,q,hA0,hV,rfl,hfz,hnd⟩:=hW
 have hA:DataW.TrodAll enc YP W 0 (λ_=>true) true Tryz.f5.params.toList args.toList ds p:=hA0
 rw [Tryz.params5] at hA hval
 obtain ⟨v0,vs0,d0,ds0,p0,q0,hargs,rfl,rfl,h0,r0⟩:=trodAll_cons hA
 obtain ⟨rfl,rfl,rfl⟩:=trodAll_nil r0
 obtain rfl:args= #[v0]:=by cases args;simp_all
 obtain ⟨rfl,rfl⟩:=trodVars_none hV
 clear hA0
 obtain ⟨x,rfl,x_r⟩:=open_manB (hval 0 44 v0 rfl rfl) h0 (bulk_le hU (by simp))
 refine (manifestChecks.law x W x_r ⟨ht,mkLib_of hL (by rfl)⟩ (lyAt_of hL (by rfl))).mono λe W' ⟨he,hb⟩=> ?_
 subst he
 exact ⟨_,rfl,law_end laidOut (λt ht=>by rw [Tryz.params5] at ht;simp at ht;subst ht;exact ⟨by kernel_rfl,of_decide_eq_true Kr⟩) rfl rfl Tryz.underlying4 hW' (by rfl) hb⟩

noncomputable def laidWorld (os:Os):World:=
 {World.holding YP os ⟨#[], #[],[]⟩ with heap:=layAt (layAt (layAt (layAt (layAt (layAt (layAt ((World.holding YP os ⟨#[], #[],[]⟩).heap) 6 Rows.laid_math_bits_deBruijn32tab) 7 Rows.laid_math_bits_deBruijn64tab) 5 Rows.laid_internal_strconv_uint64pow10) 4 Rows.laid_unicode_utf8_acceptRanges) 2 Rows.laid_linchpin_mark_keys) 0 Rows.laid_linchpin_record_layouts) 3 Rows.laid_unicode_utf8_first}
theorem laid_met (os:Os):laidMet YP Rows.manifestChecksUptoRow.laid ((laidWorld os).forCall (λ_ _=>0) ⟨#[], #[.agg ZE],[]⟩).memory:=
 laidMet_of_run' 8 Kr Kr
theorem reads (os:Os){H:Type}(enc:TypeId×Value->H):∃ places,DataW.whole enc YP ((laidWorld os).forCall (λ_ _=>0) ⟨#[], #[.agg ZE],[]⟩).memory Tryz.f5.params.toList Rows.manifestChecksSpec.vars false (#[.agg ZE]:Array Value).toList 8=some ([.agg [.agg [.lit (.string []),.agg [.lit (.int .i64 0),.lit (.int .i64 0),.lit (.int .i64 0),.lit (.string []),.lit (.string [])],.nil,.nil,.nil],.nil,.nil]],[],places):=
 ⟨[],by kernel_rfl⟩

set_option maxRecDepth 100000 in
theorem lifted (os:Os)(started:os.Started)(H:Type)(enc:TypeId×Value->H)(F:Stop.Interp):
  ReturnsInHanded {} Tryz.checked os 5 .any ((Rows.OpenSpec.upto Rows.manifestChecksSpec).preRow enc YP Tryz.f5 Rows.manifestChecksUptoRow.domain false Rows.manifestChecksUptoRow.laid) (((Rows.OpenSpec.upto Rows.manifestChecksSpec).at F).post enc YP Tryz.f5 false true false false):=by
 obtain ⟨places,hx⟩:=reads os enc
 refine returnsInHanded_of_row (C:=Tryz.checked) (s:=Rows.OpenSpec.upto Rows.manifestChecksSpec) own started Kr Tryz.func5
  (witness_row_at (enc:=enc) (C:=Tryz.checked) false (laidWorld os) #[.agg ZE] rfl Kr Kr Kr
   (OpenSpec.preRow_of_cond 8 hx Kr (λk hk=>by cases hk;kernel_rfl) Kr (laid_met os))) ?_
 intro W base args ds gs before hval hW _ hC _ hL hS _
 exact contract H enc W base args ds gs before hval hW hL hS (hC _ rfl)

theorem j1:(Rows.manifestChecksUptoRow.inPlace==Tryz.pinned.checked.prog.inPlace 5)=true:=by kernel_rfl
theorem j2:(Rows.manifestChecksUptoRow.unfollowed==Tryz.pinned.checked.prog.unfollowed 5)=true:=by kernel_rfl
theorem j3:(Rows.manifestChecksUptoRow.recurses==Tryz.pinned.checked.prog.recurses 5)=true:=by kernel_rfl
theorem j4:(Rows.manifestChecksUptoRow.named==Tryz.pinned.checked.prog.varsNamed 5)=true:=by kernel_rfl
theorem j5:(Rows.manifestChecksUptoRow.lifted==Tryz.pinned.checked.prog.liftsFinal)=true:=by kernel_rfl
theorem closed:joinedFacts Tryz.pinned.checked.prog 5 Tryz.f5 (Rows.OpenSpec.upto Rows.manifestChecksSpec).bare Rows.manifestChecksUptoRow=true:=by
 unfold joinedFacts
 rw [jfLaid,jfMaps,j1,j2,j3,j4,jfHeard,jfEnter,j5]
 kernel_rfl

theorem said:Rows.ManifestChecksUptoSaid:=
 OpenClaim.holds_of_cond 5 Tryz.f5 rfl rfl rfl rfl rfl rfl rfl ⟨rfl,rfl,rfl,rfl,rfl⟩ rfl rfl rfl rfl rfl Kr Tryz.func5 closed
  (of_decide_eq_true Kr) (by unfold Func.isWrapper;first|(rw [if_pos (by decide+kernel)];kernel_rfl)|(rw [if_neg (by decide+kernel)];exact ⟨rfl,rfl⟩))
  (λos started H enc _ F=>by rw [OpenClaim.pre_eq_preRow];exact lifted os started H enc F)

theorem plain (f : FuncId) (fn : Func) (hf : Tryz.pinned.checked.prog.funcNamed "linchpin/linchpinlaw16.ManifestChecks" = some f) (hfn : Tryz.pinned.checked.prog.funcs[f]? = some fn) :
  false=Tryz.pinned.checked.prog.looks []∧∀ (j:Nat) t,fn.params[j]?=some t->Tryz.pinned.checked.prog.wantsStandIn t=false:=by
 obtain rfl : f = 5 := Option.some.inj ((show Tryz.prog.funcNamed "linchpin/linchpinlaw16.ManifestChecks" = some 5 by kernel_rfl).symm.trans hf) |>.symm
 obtain rfl:fn=Tryz.f5:=(Option.some.inj (Tryz.func5.symm.trans hfn)).symm
 refine ⟨by kernel_rfl,λj t ht=> ?_⟩
 rw [Tryz.params5] at ht
 have hm:=Array.mem_of_getElem? ht
 simp at hm
 subst hm
 exact (show Tryz.prog.wantsStandIn 44=false by kernel_rfl)

theorem goes:false=Rows.manifestChecksUptoRow.goesBy Tryz.pinned.checked.prog:=by kernel_rfl
theorem card:Rows.ManifestChecksUptoCardSaid:=
 Claim7.holds_tied_plain_at .later [] _ _ _ _ said (λ_ h=>by cases h) Kr (λ_ h=>by cases h) manifestChecksUpto_row_tie rfl ⟨rfl,rfl⟩ Kr rfl plain goes

#print axioms card
end Go.Proofs.YtobimfnmnkegdaaGreatDoor.manifestChecks
end
