/-
 ManifestRises: for every input the call returns true, and each argument reads afterwards as it read before. Conditions: none but the row's own, that the listed package-level variables read as the program's text lays them.
-/
import Derived.Test.YtobimfnmnkegdaaGreatDoorCards
import Derived.Test.YtobimfnmnkegdaaGreatDoorTie
import Derived.Test.YtobimfnmnkegdaaGreatDoorMA16

section
/-
 Chapter 16: pins, and holds, that do not rise (ManifestRises). Condition: what the package leans on lies as the text lays it.
-/
namespace Go.Proofs.YtobimfnmnkegdaaGreatDoor
open Go.RowKit
set_option maxRecDepth 100000
set_option linter.unusedVariables false
set_option linter.unusedSimpArgs false
set_option linter.unnecessarySimpa false
set_option maxHeartbeats 4000000

theorem sl_lit {T sz g n:Nat}{cs:Array Value}{xs:List Value}(h:cs.toList=xs)(hn:xs.length=n*sz)(hm:n<=1000):Sl T sz (.slice (some ⟨g,0,none⟩) n n) n xs [⟨g,cs,T⟩]:=
 ⟨hn,.inr ⟨g,n,cs,rfl,rfl,Nat.le_refl _,by unfold maxLen;omega,by rw [←Array.length_toList,h,hn],by rw [h,←hn,List.take_length]⟩⟩
def riP (nm:YL):List Pn:=[⟨[98],[111,110,101]⟩,⟨nm,[116,119,111]⟩]
def riH (nm:YL):List Ho:=[⟨[98],[42]⟩,⟨[99],[42]⟩,⟨nm,[60,49]⟩]
def riZ (nm:YL):Int×Int:=if badP (riP nm)<(riP nm).length then (15,(badP (riP nm):Int)) else dE (riH nm)
theorem riZ_is:∀ k,k<5->(Op.bytesLess [98] (zN k)=false->riZ (zN k)=(15,1))/\(Op.bytesLess [98] (zN k)=true->Op.bytesLess [99] (zN k)=false->riZ (zN k)=(4,2))/\(Op.bytesLess [99] (zN k)=true->riZ (zN k)=(0,0)):=by decide+kernel
theorem manifestRises.law (v:Value)(l:List Int)(own:Int)(W:World)(hv:ReadsI W W.heap.size v l)(hl:l.length<=9223372036854775807)(hK:RecLib W)(hL:LyAt W):YC 9 #[v,YI own] W (YR (.bool true) W):=by
 obtain ⟨k,hk5,cN⟩:=nameT_any own
 obtain ⟨hz1,hz2,hz3⟩:=riZ_is k hk5
 have hnl:(zN k).length<=1048576:=Nat.le_trans (kR (wP k)) (by decide)
 have hg1:GqR [60,49]:=dX (wG (by decide+kernel))
 have hg2:GqR [42]:=dX (wG (by decide+kernel))
 generalize zN k=nm at*
 refine zF Tryz.func9 (k7 (k:=26) (args:= #[v,YI 0,YI 0]) (R:=λv' ob=>∃ x o1 o2 o3,v'=mvV x/\ob=o1++(o2++o3)/\MadeM x o1 o2 o3) [] (λw hO=>man_gen v l 0 0 w ((hv.below hO.below).more hO.below.size) hl (by decide) (by decide)) ?_)
 rintro _ _ ⟨x,o1,o2,o3,rfl,rfl,hM⟩
 have hrc:=hM.rc
 clear hM
 refine zQ [] λb5=>z7 (v:= .string (mkS nm)) [0] (λw hO=>cN w) (jT [] 2 57 #[.string (mkS [98]),.string (mkS [111,110,101]),.string (mkS nm),.string (mkS [116,119,111])] λg1=>(jT [1] 3 59 #[.string (mkS [98]),.string (mkS [42]),.string (mkS [99]),.string (mkS [42]),.string (mkS nm),.string (mkS [60,49])] λg2=> ?_))
 have hS1:Sl 57 2 (.slice (some ⟨g1,0,none⟩) 2 2) 2 ((riP nm).flatMap pmC) [⟨g1, #[.string (mkS [98]),.string (mkS [111,110,101]),.string (mkS nm),.string (mkS [116,119,111])],57⟩]:=sl_lit rfl rfl (by decide)
 have hS2:Sl 59 2 (.slice (some ⟨g2,0,none⟩) 3 3) 3 ((riH nm).flatMap hoC) [⟨g2, #[.string (mkS [98]),.string (mkS [42]),.string (mkS [99]),.string (mkS [42]),.string (mkS nm),.string (mkS [60,49])],59⟩]:=sl_lit rfl rfl (by decide)
 have cC:∀ w,Own [] W w ([⟨g2, #[.string (mkS [98]),.string (mkS [42]),.string (mkS [99]),.string (mkS [42]),.string (mkS nm),.string (mkS [60,49])],59⟩,⟨g1, #[.string (mkS [98]),.string (mkS [111,110,101]),.string (mkS nm),.string (mkS [116,119,111])],57⟩,mvB b5 ⟨x.rec',some ⟨g1,0,none⟩,2,riP nm,some ⟨g2,0,none⟩,3,riH nm⟩]++(o1++(o2++o3)))->YC 19 #[mvV ⟨x.rec',some ⟨g1,0,none⟩,2,riP nm,some ⟨g2,0,none⟩,3,riH nm⟩] w (YR (.tuple #[YI (riZ nm).1,YI (riZ nm).2]) w):=λw hO=>by
  have hin:MnIn w w.heap.size ⟨x.rec',some ⟨g1,0,none⟩,2,riP nm,some ⟨g2,0,none⟩,3,riH nm⟩:=⟨hrc.inn hO (λb hb=>List.mem_append_right _ (List.mem_append_left _ hb)),⟨Sl.reads hS1 rfl hO (λb hb=>List.mem_append_left _ (by rw [List.mem_singleton.1 hb];simp)),(λp hp=>by
   simp only [riP,List.mem_cons,List.not_mem_nil,or_false] at hp
   rcases hp with rfl|rfl
   ·decide
   ·exact ⟨hnl,show 3<=1048576 by decide⟩),(show 2<=1048576 by decide)⟩,⟨Sl.reads hS2 rfl hO (λb hb=>List.mem_append_left _ (by rw [List.mem_singleton.1 hb];simp)),(λp hp=>by
   simp only [riH,List.mem_cons,List.not_mem_nil,or_false] at hp
   rcases hp with rfl|rfl|rfl
   ·exact ⟨by decide,hg2⟩
   ·exact ⟨by decide,hg2⟩
   ·exact ⟨hnl,hg1⟩),(show 3<=1048576 by decide)⟩⟩
  have h:=mG _ w hin (hK.on hO.below)
  have e:x5 (Mv.mt ⟨x.rec',some ⟨g1,0,none⟩,2,riP nm,some ⟨g2,0,none⟩,3,riH nm⟩)=riZ nm:=by
   show (if (zM x.rec'.rt).1≠0 then zM x.rec'.rt else if 8<(riP nm).length\/8<(riH nm).length then (3,0) else riZ nm)=riZ nm
   rw [hrc.chk,if_neg (λq=>q rfl),if_neg (show ¬ (8<(riP nm).length\/8<(riH nm).length) from by show ¬ (8<2\/8<3);decide)]
  rw [e] at h;exact h
 generalize riZ nm=z at*
 refine z7 (v:= .tuple #[YI z.1,YI z.2]) [2,2] (λw hO=>cC w (hO.past 0 ([⟨g2, #[.string (mkS [98]),.string (mkS [42]),.string (mkS [99]),.string (mkS [42]),.string (mkS nm),.string (mkS [60,49])],59⟩,⟨g1, #[.string (mkS [98]),.string (mkS [111,110,101]),.string (mkS nm),.string (mkS [116,119,111])],57⟩,mvB b5 ⟨x.rec',some ⟨g1,0,none⟩,2,riP nm,some ⟨g2,0,none⟩,3,riH nm⟩]++(o1++(o2++o3))))) ?_
 have hfin:∀ w,YB W w->(Ending.returned (.bool true)= .returned (.bool true))/\YB W w:=λw h=>⟨rfl,h⟩
 clear cC hS1 hS2
 refine x_sle 30 [] nm [98] (zS 30 (!Op.bytesLess [98] nm) (λh30=> ?_) (λh30=> ?_))
 ·obtain rfl:=hz1 (by simpa using h30)
  exact z7 (v:= .bool true) [] (λw hO=>dP w (hK.on hO.below) (hL.on hO.below)) (z8 [] Z4 λw hO=>hfin w hO.below)
 have h30':Op.bytesLess [98] nm=true:=by simpa using h30
 refine x_sle 41 [] nm [99] (zS 41 (!Op.bytesLess [99] nm) (λh41=> ?_) (λh41=> ?_))
 ·obtain rfl:=hz2 h30' (by simpa using h41)
  exact z7 (v:= .bool true) [] (λw hO=>dP w (hK.on hO.below) (hL.on hO.below)) (z8 [] Z4 λw hO=>hfin w hO.below)
 ·obtain rfl:=hz3 (by simpa using h41)
  exact z7 (v:= .bool true) [] (λw hO=>dP w (hK.on hO.below) (hL.on hO.below)) (z8 [] Z4 λw hO=>hfin w hO.below)
end Go.Proofs.YtobimfnmnkegdaaGreatDoor
end

section
/-
 ManifestRises: for every input the call returns true, and each argument reads afterwards as it read before. Conditions: none but the row's own, that the listed package-level variables read as the program's text lays them.
-/
namespace Go.Proofs.YtobimfnmnkegdaaGreatDoor.manifestRises
open Go.ChangeShapes Go.WideShapes Go.ChangeAt Go.RowKit
open Go.ChangeMaps (open_string shut_string)
set_option linter.unusedVariables false

set_option maxRecDepth 100000 in
theorem contract (H:Type)(enc:TypeId×Value->H)(W:World)(base:Nat)(args:Array Value)(ds gs:List (DataW H))(before:List MemPlace)
  (hval:∀ (j:Nat) t v,Tryz.f9.params[j]?=some t->args[j]?=some v->Value.okWide YP W .any base t v)
  (hW:DataW.Whole enc YP Tryz.f9.params.toList Rows.manifestRisesSpec.vars false W args.toList ds gs before) (hL:laidMetH YP Rows.manifestRisesRow.laid W) (hS:W.ShapedOpen YP):
  YC 9 args W λe W'=>∃ v,e= .returned v/\Rows.manifestRisesSpec.post enc YP Tryz.f9 false true false false W args v W':=by
 have ht:HasLib W:=hasLib_of (hasTab_of hL (by rfl)) hS
 have hW':=hW
 obtain ⟨p,q,hA0,hV,rfl,hfz,hnd⟩:=hW
 have hA:DataW.TrodAll enc YP W 0 (λ_=>true) true Tryz.f9.params.toList args.toList ds p:=hA0
 rw [Tryz.params9] at hA hval
 obtain ⟨v0,vs0,d0,ds0,p0,q0,hargs,rfl,rfl,h0,r0⟩:=trodAll_cons hA
 obtain ⟨v1,vs1,d1,ds1,p1,q1,rfl,rfl,rfl,h1,r1⟩:=trodAll_cons r0
 obtain ⟨rfl,rfl,rfl⟩:=trodAll_nil r1
 obtain rfl:args= #[v0,v1]:=by cases args;simp_all
 obtain ⟨rfl,rfl⟩:=trodVars_none hV
 obtain ⟨own,rfl,rfl,rfl,w1⟩:=open_int Tryz.underlying3 (hval 1 3 v1 rfl rfl) h1
 clear hA0
 obtain ⟨l,l_reads,l_len⟩:=open_nums (hval 0 35 v0 rfl rfl) h0
 refine (manifestRises.law v0 l own W l_reads l_len ⟨ht,mkLib_of hL (by rfl)⟩ (lyAt_of hL (by rfl))).mono λe W' ⟨he,hb⟩=> ?_
 subst he
 exact ⟨_,rfl,law_end laidOut (λt ht=>by rw [Tryz.params9] at ht;simp at ht;rcases ht with rfl|rfl<;>exact ⟨by kernel_rfl,of_decide_eq_true Kr⟩) rfl rfl Tryz.underlying4 hW' (by rfl) hb⟩

noncomputable def wC (os:Os):World:=
 {World.holding YP os ⟨#[], #[],[]⟩ with heap:=dJ (dJ (dJ (dJ (dJ (dJ (dJ ((World.holding YP os ⟨#[], #[],[]⟩).heap) 6 Rows.laid_math_bits_deBruijn32tab) 7 Rows.laid_math_bits_deBruijn64tab) 5 Rows.laid_internal_strconv_uint64pow10) 4 Rows.laid_unicode_utf8_acceptRanges) 2 Rows.laid_linchpin_mark_keys) 0 Rows.laid_linchpin_record_layouts) 3 Rows.laid_unicode_utf8_first}
theorem laid_met (os:Os):laidMet YP Rows.manifestRisesRow.laid ((wC os).forCall (λ_ _=>0) ⟨#[], #[.slice none 0 0,YI 0],[]⟩).memory:=
 laidMet_of_run' 8 Kr Kr
theorem reads (os:Os){H:Type}(enc:TypeId×Value->H):∃ places,DataW.whole enc YP ((wC os).forCall (λ_ _=>0) ⟨#[], #[.slice none 0 0,.int .i64 0],[]⟩).memory Tryz.f9.params.toList Rows.manifestRisesSpec.vars false (#[.slice none 0 0,.int .i64 0]:Array Value).toList 8=some ([.nil,.lit (.int .i64 0)],[],places):=
 ⟨[],by kernel_rfl⟩

set_option maxRecDepth 100000 in
theorem lifted (os:Os)(started:os.Started)(H:Type)(enc:TypeId×Value->H)(F:Stop.Interp):
  ReturnsInHanded {} Tryz.checked os 9 .any ((OpenSpec.ofChange Rows.manifestRisesSpec).preRow enc YP Tryz.f9 Rows.manifestRisesRow.domain false Rows.manifestRisesRow.laid) (((OpenSpec.ofChange Rows.manifestRisesSpec).at F).post enc YP Tryz.f9 false true false false):=by
 obtain ⟨places,hx⟩:=reads os enc
 refine returnsInHanded_of_row (C:=Tryz.checked) (s:=OpenSpec.ofChange Rows.manifestRisesSpec) own started Kr Tryz.func9
  (witness_row_at (enc:=enc) (C:=Tryz.checked) false (wC os) #[.slice none 0 0,YI 0] rfl Kr Kr Kr
   (OpenSpec.preRow_of_cond 8 hx Kr (λk hk=>by cases hk) Kr (laid_met os))) ?_
 intro W base args ds gs before hval hW _ _ _ hL hS _
 exact contract H enc W base args ds gs before hval hW hL hS

theorem j1:(Rows.manifestRisesRow.inPlace==Tryz.pinned.checked.prog.inPlace 9)=true:=by kernel_rfl
theorem j2:(Rows.manifestRisesRow.unfollowed==Tryz.pinned.checked.prog.unfollowed 9)=true:=by kernel_rfl
theorem j3:(Rows.manifestRisesRow.recurses==Tryz.pinned.checked.prog.recurses 9)=true:=by kernel_rfl
theorem j4:(Rows.manifestRisesRow.named==Tryz.pinned.checked.prog.varsNamed 9)=true:=by kernel_rfl
theorem j5:(Rows.manifestRisesRow.lifted==Tryz.pinned.checked.prog.liftsFinal)=true:=by kernel_rfl
theorem closed:joinedFacts Tryz.pinned.checked.prog 9 Tryz.f9 (OpenSpec.ofChange Rows.manifestRisesSpec).bare Rows.manifestRisesRow=true:=by
 unfold joinedFacts
 rw [jfLaid,jfMaps,j1,j2,j3,j4,jfHeard,jfEnter,j5]
 kernel_rfl

theorem said:Rows.ManifestRisesSaid:=
 OpenClaim.holds_of_cond 9 Tryz.f9 rfl rfl rfl rfl rfl rfl rfl ⟨rfl,rfl,rfl,rfl,rfl⟩ rfl rfl rfl rfl rfl Kr Tryz.func9 closed
  (of_decide_eq_true Kr) (by unfold Func.isWrapper;first|(rw [if_pos (by decide+kernel)];kernel_rfl)|(rw [if_neg (by decide+kernel)];exact ⟨rfl,rfl⟩))
  (λos started H enc _ F=>by rw [OpenClaim.pre_eq_preRow];exact lifted os started H enc F)

theorem jF (f : FuncId) (fn : Func) (hf : Tryz.pinned.checked.prog.funcNamed "linchpin/linchpinlaw16.ManifestRises" = some f) (hfn : Tryz.pinned.checked.prog.funcs[f]? = some fn) :
  false=Tryz.pinned.checked.prog.looks []∧∀ (j:Nat) t,fn.params[j]?=some t->Tryz.pinned.checked.prog.wantsStandIn t=false:=by
 obtain rfl : f = 9 := Option.some.inj ((show Tryz.prog.funcNamed "linchpin/linchpinlaw16.ManifestRises" = some 9 by kernel_rfl).symm.trans hf) |>.symm
 obtain rfl:fn=Tryz.f9:=(Option.some.inj (Tryz.func9.symm.trans hfn)).symm
 refine ⟨by kernel_rfl,λj t ht=> ?_⟩
 rw [Tryz.params9] at ht
 have hm:=Array.mem_of_getElem? ht
 simp at hm
 rcases hm with rfl|rfl
 ·exact (show Tryz.prog.wantsStandIn 35=false by kernel_rfl)
 ·exact (show Tryz.prog.wantsStandIn 3=false by kernel_rfl)

theorem goes:false=Rows.manifestRisesRow.goesBy Tryz.pinned.checked.prog:=by kernel_rfl
theorem card:Rows.ManifestRisesCardSaid:=
 Claim7.holds_tied_plain_at .later [] _ _ _ _ said (λ_ h=>by cases h) Kr (λ_ h=>by cases h) manifestRises_row_tie rfl ⟨rfl,rfl⟩ Kr rfl jF goes

#print axioms card
end Go.Proofs.YtobimfnmnkegdaaGreatDoor.manifestRises
end
