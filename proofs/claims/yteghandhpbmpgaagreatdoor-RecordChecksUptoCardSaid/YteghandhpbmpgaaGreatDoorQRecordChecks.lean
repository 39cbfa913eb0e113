/-
 RecordChecks: where what comes in holds at most 1048576 values and letters, the call returns true, and each argument reads afterwards as it read before. Conditions: that bound, and the row's own, that the listed package-level variables read as the program's text lays them.
-/
import Derived.Test.YteghandhpbmpgaaGreatDoorCards
import Derived.Test.YteghandhpbmpgaaGreatDoorTie
import Derived.Test.YteghandhpbmpgaaGreatDoorRC7

section
/-
 Chapter 12: any record whose strings are of bounded length: Check, Print and Sum answer as the reference does (RecordChecks, the second form). Conditions: the bound; what the package leans on lies as the text lays it.
-/
namespace Go.Proofs.YteghandhpbmpgaaGreatDoor
open Go.RowKit
set_option maxRecDepth 100000
set_option linter.unusedVariables false
set_option linter.unusedSimpArgs false
set_option linter.unnecessarySimpa false
set_option maxHeartbeats 4000000

theorem ShR.inn {w:World}{B:Nat}{x:Rv}(h:ShR x)(hr:RcRd w B x)(hk:RcBk 1048576 x):RcIn w B x:=by
 have hm:=h.sm hr
 have hs:=h.sum
 have k1:=hk.name;have k2:=hk.pre;have k3:=hk.bld
 rw [IntWalk.i64_in ((x.name.length:Int)+(x.pre.length:Int)) Om,IntWalk.i64_in _ Om] at hs
 refine ⟨hm.needs,hm.any,hm.wfs,hm.bars,hm.fts,hm.nn,hm.na,hm.nf,hm.nb,⟨by omega,by omega,by omega⟩,λn hn=> ?_,λn hn u hu=> ?_,λb hb=> ?_⟩
 ·have h1:=(h.needs n hn).1.2
  have h2:=hk.needs n hn
  rw [IntWalk.i64_in _ Om] at h1
  omega
 ·have h1:=(h.needs n hn).2 u hu
  exact ⟨by have:=h1.1;omega,by have:=h1.2.1;omega,λs hs=>by have:=h1.2.2.2 s hs;omega⟩
 ·have h1:=h.bars b hb
  unfold ShB at h1;omega
theorem recordChecks.law (x:Rv)(W:World)(hx:RcRd W W.heap.size x)(hk:RcBk 1048576 x)(hK:RecLib W)(hL:LyAt W):YC 3 #[rvV x] W (YR (.bool true) W):=by
 have haw:=λw (hb:Below W.heap.size W w)=>awake12_any w (hK.on hb) (hL.on hb)
 have hsx:∀ w,Below W.heap.size W w->YC 14 #[rvV x] w λe w'=>∃ v,e= .returned v/\YesB (ShR x) v/\Below w.heap.size w w':=λw hb=>short12_any x w (hx.on hb hb.size)
 refine zE Tryz.func3 (yN [] λb1=>x_callE (R:=YesB (ShR x)) [0] (λw hO=>hsx w hO.below) ?_)
 rintro v ⟨ba,rfl,hba⟩
 refine zU 16 ba (λe1=> ?_) (λe1=> ?_)
 rotate_left
 ·exact z8 (v:= .bool true) [] (λw hO=>haw w hO.below) (z7 [] Z4 λw hO=>⟨rfl,hO.below⟩)
 have hX:=(hba e1).inn hx hk
 have c1:∀ w,Below W.heap.size W w->YC 16 #[rvV x] w (YR (.tuple #[YI (zT x.rt).1,YI (zT x.rt).2]) w):=λw hb=>qCheck_any x w (hX.on hb hb.size) (hK.on hb)
 have c2:∀ w,Below W.heap.size W w->YC 17 #[rvV x] w (YR (.tuple #[YI (zT x.rt).1,YI (zT x.rt).2]) w):=λw hb=>r12Check_any x w (hX.on hb hb.size)
 have c3:∀ w,Below W.heap.size W w->YC 18 #[rvV x] w (YR (.tuple #[.string (mkS (jX x.rt)),YI (zT x.rt).1]) w):=λw hb=>qPrint_any x w (hX.on hb hb.size) (hK.on hb)
 have c4:∀ w,Below W.heap.size W w->YC 19 #[rvV x] w (YR (.tuple #[.string (mkS (jX x.rt)),YI (zT x.rt).1]) w):=λw hb=>r12Print_any x w (hX.on hb hb.size)
 have c5:∀ w,Below W.heap.size W w->YC 20 #[rvV x] w (YR (.tuple #[.int .u64 (sumR x.rt),YI (zT x.rt).1]) w):=λw hb=>qSum_any x w (hX.on hb hb.size) (hK.on hb)
 have c6:∀ w,Below W.heap.size W w->YC 21 #[rvV x] w (YR (.tuple #[.int .u64 (sumR x.rt),YI (zT x.rt).1]) w):=λw hb=>r12Sum_any x w (hX.on hb hb.size)
 clear hsx hba hX
 generalize (zT x.rt).1=e at*
 generalize (zT x.rt).2=k at*
 generalize jX x.rt=t at*
 generalize sumR x.rt=n at*
 refine z8 (v:= .tuple #[YI e,YI k]) [0] (λw hO=>c1 w hO.below) (z8 (v:= .tuple #[YI e,YI k]) [0] (λw hO=>c2 w hO.below) (z8 (v:= .tuple #[.string (mkS t),YI e]) [0] (λw hO=>c3 w hO.below) (z8 (v:= .tuple #[.string (mkS t),YI e]) [0] (λw hO=>c4 w hO.below) (z8 (v:= .tuple #[.int .u64 n,YI e]) [0] (λw hO=>c5 w hO.below) (z8 (v:= .tuple #[.int .u64 n,YI e]) [0] (λw hO=>c6 w hO.below) (z8 (v:= .bool true) [] (λw hO=>haw w hO.below) ?_))))))
 exact x_yes 53 [] (e=e) rfl (x_yes 58 [] (k=k) rfl (x2 63 [] t t (λ_=>x_yes 68 [] (e=e) rfl (x_yes 73 [] (n=n) rfl (x_yes 78 [] (e=e) rfl (z7 [] Z4 λw hO=>⟨rfl,hO.below⟩)))) (λh=>absurd rfl h)))
end Go.Proofs.YteghandhpbmpgaaGreatDoor
end

section
/-
 RecordChecks: where what comes in holds at most 1048576 values and letters, the call returns true, and each argument reads afterwards as it read before. Conditions: that bound, and the row's own, that the listed package-level variables read as the program's text lays them.
-/
namespace Go.Proofs.YteghandhpbmpgaaGreatDoor.recordChecks
open Go.ChangeShapes Go.WideShapes Go.ChangeAt Go.RowKit
open Go.ChangeMaps (open_string shut_string)
set_option linter.unusedVariables false

set_option maxRecDepth 100000 in
theorem contract (H:Type)(enc:TypeId×Value->H)(W:World)(base:Nat)(args:Array Value)(ds gs:List (DataW H))(before:List MemPlace)
  (hval:∀ (j:Nat) t v,Tryz.f3.params[j]?=some t->args[j]?=some v->Value.okWide Tryz.prog W .any base t v)
  (hW:DataW.Whole enc Tryz.prog Tryz.f3.params.toList Rows.recordChecksSpec.vars false W args.toList ds gs before) (hL:laidMetH Tryz.prog Rows.recordChecksUptoRow.laid W) (hS:W.ShapedOpen Tryz.prog) (hU:Rows.uptoSmall H (ds++gs)=true):
  YC 3 args W λe W'=>∃ v,e= .returned v/\Rows.recordChecksSpec.post enc Tryz.prog Tryz.f3 false true false false W args v W':=by
 have ht:HasLib W:=hasLib_of (hasTab_of hL (by rfl)) hS
 have hW':=hW
 obtain ⟨p,q,hA0,hV,rfl,hfz,hnd⟩:=hW
 have hA:DataW.TrodAll enc Tryz.prog W 0 (λ_=>true) true Tryz.f3.params.toList args.toList ds p:=hA0
 rw [Tryz.params3] at hA hval
 obtain ⟨v0,vs0,d0,ds0,p0,q0,hargs,rfl,rfl,h0,r0⟩:=trodAll_cons hA
 obtain ⟨rfl,rfl,rfl⟩:=trodAll_nil r0
 obtain rfl:args= #[v0]:=by cases args;simp_all
 obtain ⟨rfl,rfl⟩:=trodVars_none hV
 clear hA0
 obtain ⟨x,rfl,x_r,x_b⟩:=open_recB (hval 0 28 v0 rfl rfl) h0 (bulk_le hU (by simp))
 refine (recordChecks.law x W x_r x_b ⟨ht,mkLib_of hL (by rfl)⟩ (lyAt_of hL (by rfl))).mono λe W' ⟨he,hb⟩=> ?_
 subst he
 exact ⟨_,rfl,law_end laidOut (λt ht=>by rw [Tryz.params3] at ht;simp at ht;subst ht;exact ⟨by kernel_rfl,of_decide_eq_true Kr⟩) rfl rfl Tryz.underlying4 hW' (by rfl) hb⟩

noncomputable def laidWorld (os:Os):World:=
 {World.holding Tryz.prog os ⟨#[], #[],[]⟩ with heap:=layAt (layAt (layAt (layAt (layAt (layAt (layAt ((World.holding Tryz.prog os ⟨#[], #[],[]⟩).heap) 6 Rows.laid_math_bits_deBruijn32tab) 7 Rows.laid_math_bits_deBruijn64tab) 3 Rows.laid_internal_strconv_uint64pow10) 5 Rows.laid_unicode_utf8_acceptRanges) 2 Rows.laid_linchpin_mark_keys) 0 Rows.laid_linchpin_record_layouts) 4 Rows.laid_unicode_utf8_first}
theorem laid_met (os:Os):laidMet Tryz.prog Rows.recordChecksUptoRow.laid ((laidWorld os).forCall (λ_ _=>0) ⟨#[], #[.agg ZM],[]⟩).memory:=
 laidMet_of_run' 8 Kr Kr
theorem reads (os:Os){H:Type}(enc:TypeId×Value->H):∃ places,DataW.whole enc Tryz.prog ((laidWorld os).forCall (λ_ _=>0) ⟨#[], #[.agg ZM],[]⟩).memory Tryz.f3.params.toList Rows.recordChecksSpec.vars false (#[.agg ZM]:Array Value).toList 8=some ([.agg [.lit (.string []),.agg [.lit (.int .i64 0),.lit (.int .i64 0),.lit (.int .i64 0),.lit (.string []),.lit (.string [])],.nil,.nil,.nil]],[],places):=
 ⟨[],by kernel_rfl⟩

set_option maxRecDepth 100000 in
theorem lifted (os:Os)(started:os.Started)(H:Type)(enc:TypeId×Value->H)(F:Stop.Interp):
  ReturnsInHanded {} Tryz.checked os 3 .any ((Rows.OpenSpec.upto Rows.recordChecksSpec).preRow enc Tryz.prog Tryz.f3 Rows.recordChecksUptoRow.domain false Rows.recordChecksUptoRow.laid) (((Rows.OpenSpec.upto Rows.recordChecksSpec).at F).post enc Tryz.prog Tryz.f3 false true false false):=by
 obtain ⟨places,hx⟩:=reads os enc
 refine returnsInHanded_of_row (C:=Tryz.checked) (s:=Rows.OpenSpec.upto Rows.recordChecksSpec) own started Kr Tryz.func3
  (witness_row_at (enc:=enc) (C:=Tryz.checked) false (laidWorld os) #[.agg ZM] rfl Kr Kr Kr
   (OpenSpec.preRow_of_cond 8 hx Kr (λk hk=>by cases hk;kernel_rfl) Kr (laid_met os))) ?_
 intro W base args ds gs before hval hW _ hC _ hL hS _
 exact contract H enc W base args ds gs before hval hW hL hS (hC _ rfl)

theorem j1:(Rows.recordChecksUptoRow.inPlace==Tryz.pinned.checked.prog.inPlace 3)=true:=by kernel_rfl
theorem j2:(Rows.recordChecksUptoRow.unfollowed==Tryz.pinned.checked.prog.unfollowed 3)=true:=by kernel_rfl
theorem j3:(Rows.recordChecksUptoRow.recurses==Tryz.pinned.checked.prog.recurses 3)=true:=by kernel_rfl
theorem j4:(Rows.recordChecksUptoRow.named==Tryz.pinned.checked.prog.varsNamed 3)=true:=by kernel_rfl
theorem j5:(Rows.recordChecksUptoRow.lifted==Tryz.pinned.checked.prog.liftsFinal)=true:=by kernel_rfl
theorem closed:joinedFacts Tryz.pinned.checked.prog 3 Tryz.f3 (Rows.OpenSpec.upto Rows.recordChecksSpec).bare Rows.recordChecksUptoRow=true:=by
 unfold joinedFacts
 rw [jfLaid,jfMaps,j1,j2,j3,j4,jfHeard,jfEnter,j5]
 kernel_rfl

theorem said:Rows.RecordChecksUptoSaid:=
 OpenClaim.holds_of_cond 3 Tryz.f3 rfl rfl rfl rfl rfl rfl rfl ⟨rfl,rfl,rfl,rfl,rfl⟩ rfl rfl rfl rfl rfl Kr Tryz.func3 closed
  (of_decide_eq_true Kr) (by unfold Func.isWrapper;first|(rw [if_pos (by decide+kernel)];kernel_rfl)|(rw [if_neg (by decide+kernel)];exact ⟨rfl,rfl⟩))
  (λos started H enc _ F=>by rw [OpenClaim.pre_eq_preRow];exact lifted os started H enc F)

theorem plain (f : FuncId) (fn : Func) (hf : Tryz.pinned.checked.prog.funcNamed "linchpin/linchpinlaw12.RecordChecks" = some f) (hfn : Tryz.pinned.checked.prog.funcs[f]? = some fn) :
  false=Tryz.pinned.checked.prog.looks []∧∀ (j:Nat) t,fn.params[j]?=some t->Tryz.pinned.checked.prog.wantsStandIn t=false:=by
 obtain rfl : f = 3 := Option.some.inj ((show Tryz.prog.funcNamed "linchpin/linchpinlaw12.RecordChecks" = some 3 by kernel_rfl).symm.trans hf) |>.symm
 obtain rfl:fn=Tryz.f3:=(Option.some.inj (Tryz.func3.symm.trans hfn)).symm
 refine ⟨by kernel_rfl,λj t ht=> ?_⟩
 rw [Tryz.params3] at ht
 have hm:=Array.mem_of_getElem? ht
 simp at hm
 subst hm
 exact (show Tryz.prog.wantsStandIn 28=false by kernel_rfl)

theorem goes:false=Rows.recordChecksUptoRow.goesBy Tryz.pinned.checked.prog:=by kernel_rfl
theorem card:Rows.RecordChecksUptoCardSaid:=
 Claim7.holds_tied_plain_at .later [] _ _ _ _ said (λ_ h=>by cases h) Kr (λ_ h=>by cases h) recordChecksUpto_row_tie rfl ⟨rfl,rfl⟩ Kr rfl plain goes

#print axioms card
end Go.Proofs.YteghandhpbmpgaaGreatDoor.recordChecks
end
