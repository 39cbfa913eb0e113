/-
 ManifestBack: for every input the call returns true, and each argument reads afterwards as it read before. Conditions: none but the row's own, that the listed package-level variables read as the program's text lays them.
-/
import Derived.Test.YtobimfnmnkegdaaGreatDoorCards
import Derived.Test.YtobimfnmnkegdaaGreatDoorTie
import Derived.Test.YtobimfnmnkegdaaGreatDoorMA16

section
/-
 Chapter 16: a manifest is read back from its text; without pins and holds its text is its record's (ManifestBack). Condition: what the package leans on lies as the text lays it.
-/
namespace Go.Proofs.YtobimfnmnkegdaaGreatDoor
open Go.RowKit
set_option maxRecDepth 100000
set_option linter.unusedVariables false
set_option linter.unusedSimpArgs false
set_option linter.unnecessarySimpa false
set_option maxHeartbeats 4000000

theorem bnd_rec {r:Rt}(h:(zM r).1=0):(yV r).length<=4096->j9 (yV r)=0->fY (recA (yV r)):=λhs hb=>by
 have h1:=read_back h
 rw [parse_is hs,if_neg (λq=>q hb)] at h1
 by_cases q:(zM (recA (yV r))).1=0
 ·exact (chk_bnd q).1
 ·rw [if_pos q] at h1
  exact absurd (congrArg (λz:Rt×Int×Int=>z.2.1) h1) q
theorem unL_few:∀ l:List YL,l.length<=(unL l).length
 | []=>Nat.zero_le _
 |x::l=>by
  have:=unL_few l
  rw [bR,List.length_append,List.length_append,List.length_cons,List.length_singleton];omega
theorem manifestBack.law (v:Value)(l:List Int)(W:World)(hv:ReadsI W W.heap.size v l)(hl:l.length<=9223372036854775807)(hK:RecLib W)(hL:LyAt W):YC 8 #[v] W (YR (.bool true) W):=by
 obtain ⟨q,hq,hq5⟩:=yO (atL l 90) 5 (by decide)
 have f0:=xG hv hl 90 5 (by decide) (by decide) (by decide) hq
 refine zF Tryz.func8 (z7 [] (λw hO=>f0 w hO.below) (k7 (k:=26) (args:= #[v,YI 0,YI (q:Int)]) (R:=λv' ob=>∃ x o1 o2 o3,v'=mvV x/\ob=o1++(o2++o3)/\MadeM x o1 o2 o3) [] (λw hO=>man_gen v l 0 q w ((hv.below hO.below).more hO.below.size) hl (by decide) Om) ?_))
 rintro _ _ ⟨x,o1,o2,o3,rfl,rfl,hM⟩
 have hck:=tT hM
 have hck1:(x5 x.mt).1=0:=by rw [hck]
 have hg:=(dN hck1).2
 have hin:∀ w L,Own [] W w L->(∀ b∈o1++(o2++o3),b∈L)->MnIn w w.heap.size x:=λw L hO hs=>hM.inn hO hs
 have hM0:MadeM ⟨x.rec',none,0,[],none,0,[]⟩ o1 [] []:=⟨⟨hM.own.rc,Sl.nil _ _,Sl.nil _ _⟩,hM.rc,.inl rfl,.inl rfl⟩
 have hck0:=tT hM0
 have hin0:∀ w L,Own [] W w L->(∀ b∈o1,b∈L)->MnIn w w.heap.size ⟨x.rec',none,0,[],none,0,[]⟩:=λw L hO hs=>hM0.inn hO λb hb=>hs b (by simpa using hb)
 have hrc:∀ w L,Own [] W w L->(∀ b∈o1,b∈L)->RcIn w w.heap.size x.rec':=λw L hO hs=>hM.rc.inn hO hs
 have hrk:(zM x.rec'.rt).1=0:=by rw [hM.rc.chk]
 have hml:=manT_len hg
 have hrl:=(gN hrk).2.2.2.2.2
 have hrd:=man_read hg
 have hhd:=man_head hg
 have hbk:=man_back hck1
 have hmt:x.mt.rc=x.rec'.rt:=rfl
 have hfew:yB (yL [] (bH x.mt))<=5000:=by
  have h2:=unL_few (jV x.rec'.rt)
  rw [mB] at h2
  rw [hhd.1,hmt];omega
 have hbn:=bnd_rec hrk
 clear hM hM0
 have cC:∀ w,Own [] W w (o1++(o2++o3))->YC 19 #[mvV x] w (YR (.tuple #[YI 0,YI 0]) w):=λw hO=>by
  have h:=mG x w (hin w _ hO λb h=>h) (hK.on hO.below)
  rw [hck] at h;exact h
 have cP:∀ w,Own [] W w (o1++(o2++o3))->YC 21 #[mvV x] w (YR (.tuple #[.string (mkS (bH x.mt)),YI 0]) w):=λw hO=>by
  have h:=tU x w (hin w _ hO λb h=>h) (hK.on hO.below)
  rw [show prMn x.mt=bH x.mt from if_pos hck1,hck] at h;exact h
 have cR:∀ w,Own [] W w []->YC 23 #[.string (mkS (bH x.mt))] w λe w'=>∃ v ob,e= .returned v/\(∃ (y:Mv) (p1 p2 p3:List Blk),v= .tuple #[mvV y,YI 0,YI 0]/\y.mt=x.mt/\ob=p1++(p2++p3)/\MnO y p1 p2 p3/\fY y.rec'.rt/\FewR y.rec'.rt 4096)/\Own [] w w' ob:=λw hO=>
  (tV (bH x.mt) w Om (hK.on hO.below) (hL.on hO.below) hfew (by rw [hhd.1,hhd.2.1];exact hbn) (λ_ y hy=>by rw [hrd] at hy;exact dX (wG (hg.hold y hy).2))).mono λe w' ⟨v,ob,h1,⟨y,p1,p2,p3,h2,h3,h4,h5,h6,h7⟩,h8⟩=>⟨v,ob,h1,⟨y,p1,p2,p3,by rw [h2,hbk],by rw [h3,hbk],h4,h5,h6,h7⟩,h8⟩
 have cQ:∀ w,Own [] W w (o1++(o2++o3))->YC 21 #[mvV ⟨x.rec',none,0,[],none,0,[]⟩] w (YR (.tuple #[.string (mkS (yV x.rec'.rt)),YI 0]) w):=λw hO=>by
  have h:=tU _ w (hin0 w _ hO λb h=>List.mem_append_left _ h) (hK.on hO.below)
  have e:prMn (Mv.mt ⟨x.rec',none,0,[],none,0,[]⟩)=yV x.rec'.rt:=by
   have h1:prMn (Mv.mt ⟨x.rec',none,0,[],none,0,[]⟩)=bH (Mv.mt ⟨x.rec',none,0,[],none,0,[]⟩):=if_pos (by rw [hck0])
   rw [h1]
   show yV x.rec'.rt++[]++[]=_
   rw [List.append_nil,List.append_nil]
  rw [e,hck0] at h;exact h
 have cZ:∀ w,Own [] W w (o1++(o2++o3))->YC 14 #[rvV x.rec'] w (YR (.tuple #[.string (mkS (yV x.rec'.rt)),YI 0]) w):=λw hO=>by
  have h:=r12Print_any x.rec' w (hrc w _ hO λb h=>List.mem_append_left _ h)
  rw [show nM x.rec'.rt=yV x.rec'.rt from if_pos hrk,hrk] at h;exact h
 have hshx:p5 x.mt 1048576:=⟨λp hp=>⟨Nat.le_trans (kR (hg.pin p hp).1) (by decide),Nat.le_trans (kR (hg.pin p hp).2) (by decide)⟩,λp hp=>⟨Nat.le_trans (kR (hg.hold p hp).1) (by decide),Nat.le_trans (nN (hg.hold p hp).2) (by decide)⟩⟩
 have hgh:=hg.hold
 have hgn:=hg.np
 have hgm:=hg.nh
 clear hck hck1 hin0 hck0 hrc hml hrd hhd hbk hfew hbn
 generalize bH x.mt=T at*
 generalize yV x.rec'.rt=R at*
 refine zQ [] λb3=>z7 (v:= .tuple #[YI 0,YI 0]) [0,0] (λw hO=>cC w (hO.past 1 (o1++(o2++o3)))) (z7 (v:= .tuple #[.string (mkS T),YI 0]) [0] (λw hO=>cP w (hO.past 1 (o1++(o2++o3)))) (k7 (k:=23) (args:= #[.string (mkS T)]) [] (λw hO=>cR w hO.no) ?_))
 rintro _ _ ⟨y,p1,p2,p3,rfl,hyx,rfl,hMy,hB,hF⟩
 refine zQ [] λb8=>z7 (k:=21) (args:= #[mvV ⟨x.rec',none,0,[],none,0,[]⟩]) (v:= .tuple #[.string (mkS R),YI 0]) [0,1] (λw hO=> ?_) (z7 (k:=14) (args:= #[rvV x.rec']) (v:= .tuple #[.string (mkS R),YI 0]) [1] (λw hO=> ?_) (z7 (v:= .bool true) [] (λw hO=>dP w (hK.on hO.below) (hL.on hO.below)) (z7 (k:=25) (args:= #[mvV y,mvV x]) (v:= .bool true) [0,1] (λw hO=> ?_) (qF 81 [] R R (λ_=> ?_) (λh=>absurd rfl h)))))
 ·have h1:=hO.past 2 ((o1++(o2++o3))++(p1++(p2++p3)))
  clear hO
  exact cQ w (h1.sublist (List.sublist_append_left _ _))
 ·have h1:=hO.past 2 ((o1++(o2++o3))++(p1++(p2++p3)))
  clear hO
  exact cZ w (h1.sublist (List.sublist_append_left _ _))
 ·have h1:=hO.past 2 ((o1++(o2++o3))++(p1++(p2++p3)))
  clear hO
  have hy:MnIn w w.heap.size y:=hMy.inn h1 (λb hb=>List.mem_append_right _ hb) hB hF (hyx▸hshx) (by
   have e1:y.pins=x.mt.pins:=congrArg Mt.pins hyx
   have e2:y.holds=x.mt.holds:=congrArg Mt.holds hyx
   rw [e1,e2];omega) (λz hz=>dX (wG (hgh z (by
   have e2:y.holds=x.mt.holds:=congrArg Mt.holds hyx
   rw [←e2];exact hz)).2))
  have h:=r16Same_any y x w hy.sm (hin w _ h1 λb hb=>List.mem_append_left _ hb).sm
  rw [decide_eq_true hyx] at h;exact h
 ·exact z8 [] Z4 λw hO=>⟨rfl,hO.below⟩
end Go.Proofs.YtobimfnmnkegdaaGreatDoor
end

section
/-
 ManifestBack: for every input the call returns true, and each argument reads afterwards as it read before. Conditions: none but the row's own, that the listed package-level variables read as the program's text lays them.
-/
namespace Go.Proofs.YtobimfnmnkegdaaGreatDoor.manifestBack
open Go.ChangeShapes Go.WideShapes Go.ChangeAt Go.RowKit
open Go.ChangeMaps (open_string shut_string)
set_option linter.unusedVariables false

set_option maxRecDepth 100000 in
theorem contract (H:Type)(enc:TypeId×Value->H)(W:World)(base:Nat)(args:Array Value)(ds gs:List (DataW H))(before:List MemPlace)
  (hval:∀ (j:Nat) t v,Tryz.f8.params[j]?=some t->args[j]?=some v->Value.okWide YP W .any base t v)
  (hW:DataW.Whole enc YP Tryz.f8.params.toList Rows.manifestBackSpec.vars false W args.toList ds gs before) (hL:laidMetH YP Rows.manifestBackRow.laid W) (hS:W.ShapedOpen YP):
  YC 8 args W λe W'=>∃ v,e= .returned v/\Rows.manifestBackSpec.post enc YP Tryz.f8 false true false false W args v W':=by
 have ht:HasLib W:=hasLib_of (hasTab_of hL (by rfl)) hS
 have hW':=hW
 obtain ⟨p,q,hA0,hV,rfl,hfz,hnd⟩:=hW
 have hA:DataW.TrodAll enc YP W 0 (λ_=>true) true Tryz.f8.params.toList args.toList ds p:=hA0
 rw [Tryz.params8] at hA hval
 obtain ⟨v0,vs0,d0,ds0,p0,q0,hargs,rfl,rfl,h0,r0⟩:=trodAll_cons hA
 obtain ⟨rfl,rfl,rfl⟩:=trodAll_nil r0
 obtain rfl:args= #[v0]:=by cases args;simp_all
 obtain ⟨rfl,rfl⟩:=trodVars_none hV
 clear hA0
 obtain ⟨l,l_reads,l_len⟩:=open_nums (hval 0 35 v0 rfl rfl) h0
 refine (manifestBack.law v0 l W l_reads l_len ⟨ht,mkLib_of hL (by rfl)⟩ (lyAt_of hL (by rfl))).mono λe W' ⟨he,hb⟩=> ?_
 subst he
 exact ⟨_,rfl,law_end laidOut (λt ht=>by rw [Tryz.params8] at ht;simp at ht;subst ht;exact ⟨by kernel_rfl,of_decide_eq_true Kr⟩) rfl rfl Tryz.underlying4 hW' (by rfl) hb⟩

noncomputable def wC (os:Os):World:=
 {World.holding YP os ⟨#[], #[],[]⟩ with heap:=dJ (dJ (dJ (dJ (dJ (dJ (dJ ((World.holding YP os ⟨#[], #[],[]⟩).heap) 6 Rows.laid_math_bits_deBruijn32tab) 7 Rows.laid_math_bits_deBruijn64tab) 5 Rows.laid_internal_strconv_uint64pow10) 4 Rows.laid_unicode_utf8_acceptRanges) 2 Rows.laid_linchpin_mark_keys) 0 Rows.laid_linchpin_record_layouts) 3 Rows.laid_unicode_utf8_first}
theorem laid_met (os:Os):laidMet YP Rows.manifestBackRow.laid ((wC os).forCall (λ_ _=>0) ⟨#[], #[.slice none 0 0],[]⟩).memory:=
 laidMet_of_run' 8 Kr Kr
theorem reads (os:Os){H:Type}(enc:TypeId×Value->H):∃ places,DataW.whole enc YP ((wC os).forCall (λ_ _=>0) ⟨#[], #[.slice none 0 0],[]⟩).memory Tryz.f8.params.toList Rows.manifestBackSpec.vars false (#[.slice none 0 0]:Array Value).toList 8=some ([.nil],[],places):=
 ⟨[],by kernel_rfl⟩

set_option maxRecDepth 100000 in
theorem lifted (os:Os)(started:os.Started)(H:Type)(enc:TypeId×Value->H)(F:Stop.Interp):
  ReturnsInHanded {} Tryz.checked os 8 .any ((OpenSpec.ofChange Rows.manifestBackSpec).preRow enc YP Tryz.f8 Rows.manifestBackRow.domain false Rows.manifestBackRow.laid) (((OpenSpec.ofChange Rows.manifestBackSpec).at F).post enc YP Tryz.f8 false true false false):=by
 obtain ⟨places,hx⟩:=reads os enc
 refine returnsInHanded_of_row (C:=Tryz.checked) (s:=OpenSpec.ofChange Rows.manifestBackSpec) own started Kr Tryz.func8
  (witness_row_at (enc:=enc) (C:=Tryz.checked) false (wC os) #[.slice none 0 0] rfl Kr Kr Kr
   (OpenSpec.preRow_of_cond 8 hx Kr (λk hk=>by cases hk) Kr (laid_met os))) ?_
 intro W base args ds gs before hval hW _ _ _ hL hS _
 exact contract H enc W base args ds gs before hval hW hL hS

theorem j1:(Rows.manifestBackRow.inPlace==Tryz.pinned.checked.prog.inPlace 8)=true:=by kernel_rfl
theorem j2:(Rows.manifestBackRow.unfollowed==Tryz.pinned.checked.prog.unfollowed 8)=true:=by kernel_rfl
theorem j3:(Rows.manifestBackRow.recurses==Tryz.pinned.checked.prog.recurses 8)=true:=by kernel_rfl
theorem j4:(Rows.manifestBackRow.named==Tryz.pinned.checked.prog.varsNamed 8)=true:=by kernel_rfl
theorem j5:(Rows.manifestBackRow.lifted==Tryz.pinned.checked.prog.liftsFinal)=true:=by kernel_rfl
theorem closed:joinedFacts Tryz.pinned.checked.prog 8 Tryz.f8 (OpenSpec.ofChange Rows.manifestBackSpec).bare Rows.manifestBackRow=true:=by
 unfold joinedFacts
 rw [jfLaid,jfMaps,j1,j2,j3,j4,jfHeard,jfEnter,j5]
 kernel_rfl

theorem said:Rows.ManifestBackSaid:=
 OpenClaim.holds_of_cond 8 Tryz.f8 rfl rfl rfl rfl rfl rfl rfl ⟨rfl,rfl,rfl,rfl,rfl⟩ rfl rfl rfl rfl rfl Kr Tryz.func8 closed
  (of_decide_eq_true Kr) (by unfold Func.isWrapper;first|(rw [if_pos (by decide+kernel)];kernel_rfl)|(rw [if_neg (by decide+kernel)];exact ⟨rfl,rfl⟩))
  (λos started H enc _ F=>by rw [OpenClaim.pre_eq_preRow];exact lifted os started H enc F)

theorem jF (f : FuncId) (fn : Func) (hf : Tryz.pinned.checked.prog.funcNamed "linchpin/linchpinlaw16.ManifestBack" = some f) (hfn : Tryz.pinned.checked.prog.funcs[f]? = some fn) :
  false=Tryz.pinned.checked.prog.looks []∧∀ (j:Nat) t,fn.params[j]?=some t->Tryz.pinned.checked.prog.wantsStandIn t=false:=by
 obtain rfl : f = 8 := Option.some.inj ((show Tryz.prog.funcNamed "linchpin/linchpinlaw16.ManifestBack" = some 8 by kernel_rfl).symm.trans hf) |>.symm
 obtain rfl:fn=Tryz.f8:=(Option.some.inj (Tryz.func8.symm.trans hfn)).symm
 refine ⟨by kernel_rfl,λj t ht=> ?_⟩
 rw [Tryz.params8] at ht
 have hm:=Array.mem_of_getElem? ht
 simp at hm
 subst hm
 exact (show Tryz.prog.wantsStandIn 35=false by kernel_rfl)

theorem goes:false=Rows.manifestBackRow.goesBy Tryz.pinned.checked.prog:=by kernel_rfl
theorem card:Rows.ManifestBackCardSaid:=
 Claim7.holds_tied_plain_at .later [] _ _ _ _ said (λ_ h=>by cases h) Kr (λ_ h=>by cases h) manifestBack_row_tie rfl ⟨rfl,rfl⟩ Kr rfl jF goes

#print axioms card
end Go.Proofs.YtobimfnmnkegdaaGreatDoor.manifestBack
end
