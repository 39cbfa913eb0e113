/-
 ShelfSums: for every input the call returns true, and each argument reads afterwards as it read before. Conditions: none but the row's own, that the listed package-level variables read as the program's text lays them.
-/
import Derived.Test.YtdafengdngglpaaGreatDoorCards
import Derived.Test.YtdafengdngglpaaGreatDoorTie
import Derived.Test.YtdafengdngglpaaGreatDoorSU8

section
/-
 Chapter 13: the sum goes on from entry to entry (ShelfSums). Condition: what the package leans on lies as the text lays it.
-/
namespace Go.Proofs.YtdafengdngglpaaGreatDoor
open Go.RowKit
set_option maxRecDepth 100000
set_option linter.unusedVariables false
set_option linter.unusedSimpArgs false
set_option linter.unnecessarySimpa false
set_option maxHeartbeats 8000000

theorem mark_last:∀ (l:List Et) (e:Et) (on:Bool),bN (l++[e]) l.length on=l++[{e with yk:=on}]
 | [],e,on=>rfl
 |a::l,e,on=>congrArg (a::·) (mark_last l e on)
theorem pair_lit (a b:UInt64)(z:Int)(hz:(b.toNat:Int)=z)(W:World):YC 42 #[.int .u64 (a.toNat:Int),.int .u64 z] W (YR (.int .u64 ((kL a b).toNat:Int)) W):=by
 have h:=r9Pair_any a b W
 rw [hz] at h;exact h
theorem shelfSums.law (v:Value)(l:List Int)(vm:Value)(m:List Int)(W:World)(hv:ReadsI W W.heap.size v l)(hl:l.length<=9223372036854775807)(hvm:ReadsI W W.heap.size vm m)(hlm:m.length<=9223372036854775807)(hK:RecLib W):YC 8 #[v,vm] W (YR (.bool true) W):=by
 refine z8 Tryz.func8 (yC (k:=40) (args:= #[v,YI 0,.string ⟨#[111,110,101]⟩,YI ((4:Nat):Int)]) (R:=λv ob=>∃ y o1 o2,v=hvV y/\ob=o1++o2/\MadeS y o1 o2/\y.es.length<=4) [] (λw hO=>shelf_gen v l 4 w ((hv.below hO.below).more hO.below.size) hl (by decide)) ?_)
 rintro _ _ ⟨y,o1,o2,rfl,rfl,hS,hy4⟩
 obtain ⟨ob,hob⟩:∃ ob,o1++o2=ob:=⟨_,rfl⟩
 have hyO:=hS.sho
 rw [hob] at hyO ⊢
 have hM:=hS.may
 have hxl:y.sh.es.length=y.es.length:=by simp [Hv.sh]
 refine yC (k:=20) (args:= #[vm,YI ((0:Nat):Int),YI ((4:Nat):Int)]) (R:=λv ob=>∃ x,v=rvV x/\MadeR x ob) [] (λw hO=>(record_gen vm m 0 4 w ((hvm.below hO.below).more hO.below.size) hlm Om Om).mono λe w' ⟨x,ob,q1,⟨q2,q3⟩,q4⟩=>⟨_,ob,q1,⟨x,rfl,made_of q2 q3⟩,q4⟩) ?_
 rintro _ obp ⟨p,rfl,hP⟩
 have hc1:(zP p.rt).1=0:=by rw [hP.chk]
 have hput:=put_is (r:=p.rt) hM hc1 Om
 obtain ⟨e1,he1⟩:∃ s,(fE y.sh p.rt).2=s:=⟨_,rfl⟩
 obtain ⟨s1,hs1⟩:∃ s,(fE y.sh p.rt).1=s:=⟨_,rfl⟩
 have n1:yT s1\/s1=w9:=hs1▸put_or (.inl hM)
 refine zB [] λb5=>zB [] λb6=>yC (k:=33) (args:= #[hvV y,rvV p]) (R:=λv o=>∃ z,v= .tuple #[hvV z,YI e1]/\z.sh=s1/\ShO z o) [1,0,1,0] (λw hO=> ?_) ?_
 ·have hO':=hO.past 2 (ob++obp)
  clear hO
  have h:=sPut_any y p w (hyO.inn hO' (λb h=>List.mem_append_left _ h) hM) (hP.inn hO' (λb h=>List.mem_append_right _ h)) (hK.on hO'.below)
  rw [he1,hs1] at h;exact h
 rintro _ oa ⟨a,rfl,ha,haO⟩
 have cY:∀ w L,Own [] W w L->(∀ b∈ob,b∈L)->YC 24 #[hvV y] w (YR (.tuple #[.int .u64 ((t8 y.sh).toNat:Int),YI 0]) w):=λw L hO h=>sSum_any y w (hyO.inn hO h hM) hM (hK.on hO.below)
 refine zB [] λb7=>z6 (v:= .tuple #[.int .u64 ((t8 y.sh).toNat:Int),YI 0]) [0,2] (λw hO=>cY w _ (hO.past 3 (ob++obp++oa)) λb h=>List.mem_append_left _ (List.mem_append_left _ h)) ?_
 by_cases hz:zR y.sh.es p.rt.name p.rt.ver= -1
 rotate_left
 ·rw [if_neg hz] at hput
  have h1:e1=8:=by rw [←he1,hput]
  have h2:s1=w9:=by rw [←hs1,hput]
  subst h1
  have cN:∀ w L,Own [] W w L->(∀ b∈oa,b∈L)->YC 24 #[hvV a] w (YR (.tuple #[.int .u64 0,YI 1]) w):=λw L hO h=>sSumN_any a w (haO.innN hO h (ha▸n1)) (by rw [ha,h2];exact nil_not) (hK.on hO.below)
  exact z6 (v:= .tuple #[.int .u64 0,YI 1]) [0] (λw hO=>cN w _ (hO.past 3 (ob++obp++oa)) λb h=>List.mem_append_right _ h) (z6 (v:= .bool true) [] (λw hO=>awake13_any w (hK.on hO.below)) (z7 [] Z4 λw hO=>⟨rfl,hO.below⟩))
 rw [if_pos hz] at hput
 have h1:e1=0:=by rw [←he1,hput]
 have h2:s1=⟨y.sh.name,y.sh.es++[etP p.rt]⟩:=by rw [←hs1,hput];rfl
 subst h1
 have aM:yT a.sh:=by rw [ha,h2];exact put_may hM hc1 hz Om
 have ases:a.sh.es=y.sh.es++[etP p.rt]:=by rw [ha,h2]
 have asn:a.sh.name=y.sh.name:=by rw [ha,h2]
 have ok1:okE (etP p.rt):=⟨hc1,rfl⟩
 have hnu:yZ p.rt=((n9 (etP p.rt)).toNat:Int):=sumU_ok ok1
 have ap:zR a.sh.es p.name p.ver=((y.sh.es.length:Nat):Int):=by
  have h:=place_own aM (i:=y.sh.es.length) (by rw [ases];simp)
  have e:a.sh.es[y.sh.es.length]'(by rw [ases];simp)=etP p.rt:=by simp [ases]
  rw [e] at h;exact h
 have hsum:∀ (s:Sh) (k:Bool),s.name=y.sh.name->s.es=y.sh.es++[{etP p.rt with yk:=k}]->t8 s=kL (kL (t8 y.sh) (n9 (etP p.rt))) (if k then 1 else 0):=λs k hn he=>by
  unfold t8
  rw [he,root_two]
  have:jA s y.sh.es=jA y.sh y.sh.es:=by unfold jA;rw [hn]
  rw [this];rfl
 have sa:t8 a.sh=kL (kL (t8 y.sh) (n9 (etP p.rt))) 0:=hsum a.sh false asn ases
 have c1:∀ w L,Own [] W w L->(∀ b∈oa,b∈L)->YC 24 #[hvV a] w (YR (.tuple #[.int .u64 ((kL (kL (t8 y.sh) (n9 (etP p.rt))) 0).toNat:Int),YI 0]) w):=λw L hO h=>by
  have h:=sSum_any a w (haO.inn hO h aM) aM (hK.on hO.below)
  rw [sa] at h;exact h
 have c2:∀ w L,Own [] W w L->(∀ b∈obp,b∈L)->YC 41 #[rvV p] w (YR (.tuple #[.int .u64 ((n9 (etP p.rt)).toNat:Int),YI 0]) w):=λw L hO h=>by
  have h:=r12Sum_any p w (hP.inn hO h)
  rw [hnu,hc1] at h;exact h
 refine z6 (v:= .tuple #[.int .u64 ((kL (kL (t8 y.sh) (n9 (etP p.rt))) 0).toNat:Int),YI 0]) [0] (λw hO=>c1 w _ (hO.past 3 (ob++obp++oa)) λb h=>List.mem_append_right _ h) (z6 (v:= .tuple #[.int .u64 ((n9 (etP p.rt)).toNat:Int),YI 0]) [1] (λw hO=>c2 w _ (hO.past 3 (ob++obp++oa)) λb h=>List.mem_append_left _ (List.mem_append_right _ h)) (yC (R:=λv o=>∃ z:Hv,v= .tuple #[hvV z,YI 0]/\z.sh=⟨a.name,bN a.sh.es y.sh.es.length true⟩/\ShO z o) [0,1,1] (λw hO=>yank_own true (hO.past 3 (ob++obp++oa)) (λb h=>List.mem_append_right _ h) haO aM ap hP.bnd.pre hP.bnd.bld (hK.on hO.below)) ?_))
 rintro _ ou ⟨u,rfl,hu,huO⟩
 have uM:yT u.sh:=hu▸mark_may (s:=a.sh) aM
 have ues:u.sh.es=y.sh.es++[{etP p.rt with yk:=true}]:=by rw [hu];show bN a.sh.es _ _=_;rw [ases,mark_last]
 have usn:u.sh.name=y.sh.name:=by rw [hu];exact asn
 have up:zR u.sh.es p.name p.ver=((y.sh.es.length:Nat):Int):=by
  have:u.sh.es.map p5=a.sh.es.map p5:=by rw [hu];exact mark_core _ _ _
  rw [place_core this];exact ap
 have su:=hsum u.sh true usn ues
 have c3:∀ w L,Own [] W w L->(∀ b∈ou,b∈L)->YC 24 #[hvV u] w (YR (.tuple #[.int .u64 ((kL (kL (t8 y.sh) (n9 (etP p.rt))) 1).toNat:Int),YI 0]) w):=λw L hO h=>by
  have h:=sSum_any u w (huO.inn hO h uM) uM (hK.on hO.below)
  rw [su] at h;exact h
 refine zB [] λb15=>z6 (v:= .tuple #[.int .u64 ((kL (kL (t8 y.sh) (n9 (etP p.rt))) 1).toNat:Int),YI 0]) [0,0] (λw hO=>c3 w _ (hO.past 4 (ob++obp++oa++ou)) λb h=>List.mem_append_right _ h) (yC (R:=λv o=>∃ z:Hv,v= .tuple #[hvV z,YI 0]/\z.sh=⟨u.name,bN u.sh.es y.sh.es.length false⟩/\ShO z o) [0,2,2] (λw hO=>yank_own false (hO.past 4 (ob++obp++oa++ou)) (λb h=>List.mem_append_right _ h) huO uM up hP.bnd.pre hP.bnd.bld (hK.on hO.below)) ?_)
 rintro _ ow ⟨d,rfl,hd,hdO⟩
 have dM:yT d.sh:=hd▸mark_may (s:=u.sh) uM
 have des:d.sh.es=y.sh.es++[{etP p.rt with yk:=false}]:=by rw [hd];show bN u.sh.es _ _=_;rw [ues,mark_last]
 have dsn:d.sh.name=y.sh.name:=by rw [hd];exact usn
 have sd:=hsum d.sh false dsn des
 have c4:∀ w L,Own [] W w L->(∀ b∈ow,b∈L)->YC 24 #[hvV d] w (YR (.tuple #[.int .u64 ((kL (kL (t8 y.sh) (n9 (etP p.rt))) 0).toNat:Int),YI 0]) w):=λw L hO h=>by
  have h:=sSum_any d w (hdO.inn hO h dM) dM (hK.on hO.below)
  rw [sd] at h;exact h
 refine zB [] λb19=>z6 (v:= .tuple #[.int .u64 ((kL (kL (t8 y.sh) (n9 (etP p.rt))) 0).toNat:Int),YI 0]) [0,0] (λw hO=>c4 w _ (hO.past 5 (ob++obp++oa++ou++ow)) λb h=>List.mem_append_right _ h) ?_
 generalize t8 y.sh=sy at*
 generalize n9 (etP p.rt)=sp at*
 refine z6 (v:= .int .u64 ((kL sy sp).toNat:Int)) [] (λw hO=>r9Pair_any sy sp w) (z6 (v:= .bool true) [] (λw hO=>awake13_any w (hK.on hO.below)) ?_)
 generalize kL sy sp=one at*
 refine z6 (v:= .int .u64 ((kL one 0).toNat:Int)) [] (λw hO=>pair_lit one 0 0 rfl w) (x_yes 122 [] (((kL one 0).toNat:Int)=((kL one 0).toNat:Int)) rfl ?_)
 refine z6 (v:= .int .u64 ((kL one 1).toNat:Int)) [] (λw hO=>pair_lit one 1 1 rfl w) (x_yes 128 [] (((kL one 1).toNat:Int)=((kL one 1).toNat:Int)) rfl ?_)
 exact x_yes 133 [] (((kL one 0).toNat:Int)=((kL one 0).toNat:Int)) rfl (z7 [] Z4 λw hO=>⟨rfl,hO.below⟩)
end Go.Proofs.YtdafengdngglpaaGreatDoor
end

section
/-
 ShelfSums: for every input the call returns true, and each argument reads afterwards as it read before. Conditions: none but the row's own, that the listed package-level variables read as the program's text lays them.
-/
namespace Go.Proofs.YtdafengdngglpaaGreatDoor.shelfSums
open Go.ChangeShapes Go.WideShapes Go.ChangeAt Go.RowKit
open Go.ChangeMaps (open_string shut_string)
set_option linter.unusedVariables false

set_option maxRecDepth 100000 in
theorem contract (H:Type)(enc:TypeId×Value->H)(W:World)(base:Nat)(args:Array Value)(ds gs:List (DataW H))(before:List MemPlace)
  (hval:∀ (j:Nat) t v,Tryz.f8.params[j]?=some t->args[j]?=some v->Value.okWide YP W .any base t v)
  (hW:DataW.Whole enc YP Tryz.f8.params.toList Rows.shelfSumsSpec.vars false W args.toList ds gs before) (hL:laidMetH YP Rows.shelfSumsRow.laid W) (hS:W.ShapedOpen YP):
  YC 8 args W λe W'=>∃ v,e= .returned v/\Rows.shelfSumsSpec.post enc YP Tryz.f8 false true false false W args v W':=by
 have ht:HasLib W:=hasLib_of (hasTab_of hL (by rfl)) hS
 have hW':=hW
 obtain ⟨p,q,hA0,hV,rfl,hfz,hnd⟩:=hW
 have hA:DataW.TrodAll enc YP W 0 (λ_=>true) true Tryz.f8.params.toList args.toList ds p:=hA0
 rw [Tryz.params8] at hA hval
 obtain ⟨v0,vs0,d0,ds0,p0,q0,hargs,rfl,rfl,h0,r0⟩:=trodAll_cons hA
 obtain ⟨v1,vs1,d1,ds1,p1,q1,rfl,rfl,rfl,h1,r1⟩:=trodAll_cons r0
 obtain ⟨rfl,rfl,rfl⟩:=trodAll_nil r1
 obtain rfl:args= #[v0,v1]:=by cases args;simp_all
 obtain ⟨rfl,rfl⟩:=trodVars_none hV
 clear hA0
 obtain ⟨l,l_reads,l_len⟩:=open_nums (hval 0 35 v0 rfl rfl) h0
 obtain ⟨m,m_reads,m_len⟩:=open_nums (hval 1 35 v1 rfl rfl) h1
 refine (shelfSums.law v0 l v1 m W l_reads l_len m_reads m_len ⟨ht,mkLib_of hL (by rfl)⟩).mono λe W' ⟨he,hb⟩=> ?_
 subst he
 exact ⟨_,rfl,law_end laidOut (λt ht=>by rw [Tryz.params8] at ht;simp at ht;subst ht;exact ⟨by kernel_rfl,of_decide_eq_true Kr⟩) rfl rfl Tryz.underlying4 hW' (by rfl) hb⟩

noncomputable def laidWorld (os:Os):World:=
 {World.holding YP os ⟨#[], #[],[]⟩ with heap:=layAt (layAt (layAt (layAt (layAt (layAt ((World.holding YP os ⟨#[], #[],[]⟩).heap) 6 Rows.laid_math_bits_deBruijn32tab) 7 Rows.laid_math_bits_deBruijn64tab) 5 Rows.laid_internal_strconv_uint64pow10) 4 Rows.laid_unicode_utf8_acceptRanges) 2 Rows.laid_linchpin_mark_keys) 3 Rows.laid_unicode_utf8_first}
theorem laid_met (os:Os):laidMet YP Rows.shelfSumsRow.laid ((laidWorld os).forCall (λ_ _=>0) ⟨#[], #[.slice none 0 0,.slice none 0 0],[]⟩).memory:=
 laidMet_of_run' 8 Kr Kr
theorem reads (os:Os){H:Type}(enc:TypeId×Value->H):∃ places,DataW.whole enc YP ((laidWorld os).forCall (λ_ _=>0) ⟨#[], #[.slice none 0 0,.slice none 0 0],[]⟩).memory Tryz.f8.params.toList Rows.shelfSumsSpec.vars false (#[.slice none 0 0,.slice none 0 0]:Array Value).toList 8=some ([.nil,.nil],[],places):=
 ⟨[],by kernel_rfl⟩

set_option maxRecDepth 100000 in
theorem lifted (os:Os)(started:os.Started)(H:Type)(enc:TypeId×Value->H)(F:Stop.Interp):
  ReturnsInHanded {} Tryz.checked os 8 .any ((OpenSpec.ofChange Rows.shelfSumsSpec).preRow enc YP Tryz.f8 Rows.shelfSumsRow.domain false Rows.shelfSumsRow.laid) (((OpenSpec.ofChange Rows.shelfSumsSpec).at F).post enc YP Tryz.f8 false true false false):=by
 obtain ⟨places,hx⟩:=reads os enc
 refine returnsInHanded_of_row (C:=Tryz.checked) (s:=OpenSpec.ofChange Rows.shelfSumsSpec) own started Kr Tryz.func8
  (witness_row_at (enc:=enc) (C:=Tryz.checked) false (laidWorld os) #[.slice none 0 0,.slice none 0 0] rfl Kr Kr Kr
   (OpenSpec.preRow_of_cond 8 hx Kr (λk hk=>by cases hk) Kr (laid_met os))) ?_
 intro W base args ds gs before hval hW _ _ _ hL hS _
 exact contract H enc W base args ds gs before hval hW hL hS

theorem j1:(Rows.shelfSumsRow.inPlace==Tryz.pinned.checked.prog.inPlace 8)=true:=by kernel_rfl
theorem j2:(Rows.shelfSumsRow.unfollowed==Tryz.pinned.checked.prog.unfollowed 8)=true:=by kernel_rfl
theorem j3:(Rows.shelfSumsRow.recurses==Tryz.pinned.checked.prog.recurses 8)=true:=by kernel_rfl
theorem j4:(Rows.shelfSumsRow.named==Tryz.pinned.checked.prog.varsNamed 8)=true:=by kernel_rfl
theorem j5:(Rows.shelfSumsRow.lifted==Tryz.pinned.checked.prog.liftsFinal)=true:=by kernel_rfl
theorem closed:joinedFacts Tryz.pinned.checked.prog 8 Tryz.f8 (OpenSpec.ofChange Rows.shelfSumsSpec).bare Rows.shelfSumsRow=true:=by
 unfold joinedFacts
 rw [jfLaid,jfMaps,j1,j2,j3,j4,jfHeard,jfEnter,j5]
 kernel_rfl

theorem said:Rows.ShelfSumsSaid:=
 OpenClaim.holds_of_cond 8 Tryz.f8 rfl rfl rfl rfl rfl rfl rfl ⟨rfl,rfl,rfl,rfl,rfl⟩ rfl rfl rfl rfl rfl Kr Tryz.func8 closed
  (of_decide_eq_true Kr) (by unfold Func.isWrapper;first|(rw [if_pos (by decide+kernel)];kernel_rfl)|(rw [if_neg (by decide+kernel)];exact ⟨rfl,rfl⟩))
  (λos started H enc _ F=>by rw [OpenClaim.pre_eq_preRow];exact lifted os started H enc F)

theorem plain (f : FuncId) (fn : Func) (hf : Tryz.pinned.checked.prog.funcNamed "linchpin/linchpinlaw13.ShelfSums" = some f) (hfn : Tryz.pinned.checked.prog.funcs[f]? = some fn) :
  false=Tryz.pinned.checked.prog.looks []∧∀ (j:Nat) t,fn.params[j]?=some t->Tryz.pinned.checked.prog.wantsStandIn t=false:=by
 obtain rfl : f = 8 := Option.some.inj ((show Tryz.prog.funcNamed "linchpin/linchpinlaw13.ShelfSums" = some 8 by kernel_rfl).symm.trans hf) |>.symm
 obtain rfl:fn=Tryz.f8:=(Option.some.inj (Tryz.func8.symm.trans hfn)).symm
 refine ⟨by kernel_rfl,λj t ht=> ?_⟩
 rw [Tryz.params8] at ht
 have hm:=Array.mem_of_getElem? ht
 simp at hm
 subst hm
 exact (show Tryz.prog.wantsStandIn 35=false by kernel_rfl)

theorem goes:false=Rows.shelfSumsRow.goesBy Tryz.pinned.checked.prog:=by kernel_rfl
theorem card:Rows.ShelfSumsCardSaid:=
 Claim7.holds_tied_plain_at .later [] _ _ _ _ said (λ_ h=>by cases h) Kr (λ_ h=>by cases h) shelfSums_row_tie rfl ⟨rfl,rfl⟩ Kr rfl plain goes

#print axioms card
end Go.Proofs.YtdafengdngglpaaGreatDoor.shelfSums
end
