/-
 IndexBack: for every input the call returns true, and each argument reads afterwards as it read before. Conditions: none but the row's own, that the listed package-level variables read as the program's text lays them.
-/
import Derived.Test.YtflhcaljcoekpaaGreatDoorCards
import Derived.Test.YtflhcaljcoekpaaGreatDoorTie
import Derived.Test.YtflhcaljcoekpaaGreatDoorIG17

section
/-
 Chapter 14: a made shelf is read back from its text; with an entry told twice that is told where it stands (IndexBack). Condition: what the package leans on lies as the text lays it.
-/
namespace Go.Proofs.YtflhcaljcoekpaaGreatDoor
open Go.RowKit
set_option maxRecDepth 100000
set_option linter.unusedVariables false
set_option linter.unusedSimpArgs false
set_option linter.unnecessarySimpa false
set_option maxHeartbeats 8000000

def cntT (s:YL)(i:Nat):Nat:=((s.take i).filter (·==10)).length
theorem cntT_succ {s:YL}{i:Nat}(h:i<s.length):cntT s (i+1)=cntT s i+if s[i]=10 then 1 else 0:=by
 unfold cntT
 rw [List.take_succ_eq_append_getElem h,List.filter_append,List.length_append]
 congr 1
 by_cases hc:s[i]=10
 ·simp [hc]
 ·simp [hc]
theorem cntT_le (s:YL)(i:Nat):cntT s i<=s.length:=by
 unfold cntT
 exact Nat.le_trans (List.length_filter_le ..) (by rw [List.length_take];exact Nat.min_le_right ..)
theorem unL_cnt:∀ l:List YL,(∀ x∈l,(10:UInt8)∉x)->((unL l).filter (·==10)).length=l.length
 | [],_=>rfl
 |x::l,h=>by
  have h1:x.filter (·==10)=[]:=List.filter_eq_nil_iff.2 λc hc=>by
   intro q
   exact h x (List.mem_cons_self ..) (by rw [←(by simpa using q:c=10)];exact hc)
  rw [qB,List.filter_append,List.filter_append,h1,List.length_append,List.length_append,unL_cnt l λy hy=>h y (List.mem_cons_of_mem _ hy),List.length_cons]
  show 0+1+l.length=_
  omega
theorem sh_cnt {s:Sh}(h:x3 s):cntT (shT s) (shT s).length=(s.es.flatMap kL).length+1:=by
 unfold cntT
 rw [List.take_length,shT_is,unL_cnt _ (sh_free h),List.length_cons]
theorem indexBack.law (v:Value)(l:List Int)(W:World)(hv:ReadsI W W.heap.size v l)(hl:l.length<=9223372036854775807)(hK:RecLib W)(hL:LyAt W):YC 4 #[v] W (YR (.bool true) W):=by
 refine zD Tryz.func4 (yB (k:=15) (args:= #[v,YI 0,.string ⟨#[111,110,101]⟩,YI ((6:Nat):Int)]) (R:=λv ob=>∃ y o1 o2,v=hvV y/\ob=o1++o2/\MadeS y o1 o2/\y.es.length<=6) [] (λw hO=>shelf_gen v l 6 w ((hv.below hO.below).more hO.below.size) hl (by decide)) ?_)
 rintro _ _ ⟨y,o1,o2,rfl,rfl,hS,hy6⟩
 have hyO:=hS.sho
 have hM:=hS.may
 have hnm:y.name=oneN:=hS.name
 have hblk:0<y.es.length→∃ g,y.A=some ⟨g,0,none⟩:=λh=>by
  obtain ⟨g,cur,e1,_⟩:=Sl.block hS.own.top h
  exact ⟨g,e1⟩
 have hcap:y.es.length<=y.cap:=by
  rcases hS.own.top.2 with ⟨e,_,_⟩|⟨g,cap,cur,e,_,h3,_⟩
  ·injection e with _ e2 _;omega
  ·injection e with _ _ e3;omega
 clear hS
 generalize o1++o2=ob at*
 have hyl:y.sh.es.length=y.es.length:=by simp [Hv.sh]
 have hlen:=sh_len hM
 have iy:∀ w,Own [] W w ob->ShIn w w.heap.size y:=λw hO=>hyO.inn hO (λb h=>h) hM
 have hTt:y.sh=⟨oneN,y.es.map Ev.et⟩:=by show (⟨y.name,_⟩:Sh)=_;rw [hnm]
 have cPy:∀ w,Own [] W w ob->YC 13 #[hvV y] w (YR (.tuple #[.string (mkS (shT y.sh)),YI 0]) w):=λw hO=>by
  have h:=j6 y w (iy w hO) (hK.on hO.below)
  rw [if_pos hM,if_pos hM] at h;exact h
 have cQ:∀ w,YB W w->YC 16 #[.string (mkS (shT y.sh))] w λe w'=>∃ v ob,e= .returned v/\(∃ u:Hv,v= .tuple #[hvV u,YI 0,YI 0]/\u.sh=y.sh/\ShO u ob)/\Own [] w w' ob:=λw hb=>(fT (shT y.sh) w Om (hK.on hb) (hL.on hb) (by have h:=sh_rd (n:=y.sh.name) (es:=y.sh.es) hM.name hM.ok;exact h)).mono λe w' ⟨v,ob,q1,⟨u,q2,q3,q4⟩,q5⟩=>by
  rw [shelf_back hM Om] at q2 q3
  exact ⟨v,ob,q1,⟨u,q2,q3,q4⟩,q5⟩
 refine zH [] λb3=>z7 (k:=13) (args:= #[hvV y]) (v:= .tuple #[.string (mkS (shT y.sh)),YI 0]) [0,0] (λw hO=>by
  have h1:=hO.past 1 ob
  clear hO
  exact cPy w h1) ?_
 refine yB (k:=16) (args:= #[.string (mkS (shT y.sh))]) (R:=λv ob=>∃ u:Hv,v= .tuple #[hvV u,YI 0,YI 0]/\u.sh=y.sh/\ShO u ob) [] (λw hO=>cQ w hO.below) ?_
 rintro _ ob1 ⟨u,rfl,hu,huO⟩
 have cS:∀ w,Own [] W w (ob++ob1)->YC 17 #[hvV y,hvV u] w (YR (.bool true) w):=λw hO=>by
  have h:=r13Same_any y u w (iy w (hO.sublist (List.sublist_append_left _ _))) (huO.inn hO (λb hb=>List.mem_append_right _ hb) (hu▸hM))
  rw [decide_eq_true hu.symm] at h;exact h
 refine zH [] λb6=>z7 (k:=17) (args:= #[hvV y,hvV u]) (v:= .bool true) [0,1,0] (λw hO=>by
  have h1:=hO.past 2 (ob++ob1)
  clear hO
  exact cS w h1) (zG 49 [1] ((y.es.length:Int)=0) (λh49=> ?_) (λh49=> ?_))
 ·refine z7 (v:= .bool true) [] (λw hO=>kD w (hK.on hO.below) (hL.on hO.below)) (z7 (k:=17) (args:= #[hvV y,hvV u]) (v:= .bool true) [1,0] (λw hO=>by
   have h1:=hO.past 2 (ob++ob1)
   clear hO
   exact cS w h1) ?_)
  exact z8 [] Z4 λw hO=>⟨rfl,hO.below⟩
 have hn0:0<y.es.length:=by omega
 obtain ⟨gA,hA⟩:=hblk hn0
 have hcn:=sh_cnt hM
 -- the first entry alone
 obtain ⟨e0,he0,hT1⟩:∃ e0,e0∈y.sh.es/\(y.sh.es.take 1)=[e0]:=by
  obtain ⟨e0,r,e⟩:∃ e0 r,y.sh.es=e0::r:=by
   cases h:y.sh.es with
   |nil=>rw [h] at hyl;simp at hyl;omega
   |cons a r=>exact ⟨a,r,rfl⟩
  exact ⟨e0,by rw [e];exact List.mem_cons_self ..,by rw [e];rfl⟩
 have hM1:x3 ⟨oneN,[e0]⟩:=by have h:=may_pre1 hM 1;rw [hT1] at h;rw [hTt] at h;exact h
 have cP1:∀ w,Own [] W w ob->YC 13 #[.agg #[.string ⟨#[111,110,101]⟩,.slice (some ⟨gA,0,none⟩) 1 y.cap]] w (YR (.tuple #[.string (mkS (shT ⟨oneN,[e0]⟩)),YI 0]) w):=λw hO=>by
  have hI:=iy w hO
  have hl1:(y.es.take 1).length=1:=by rw [List.length_take];omega
  have hsh:(⟨oneN,some ⟨gA,0,none⟩,y.cap,y.es.take 1⟩:Hv).sh=⟨oneN,[e0]⟩:=by
   show (⟨oneN,(y.es.take 1).map Ev.et⟩:Sh)=_
   rw [List.map_take,←hT1];rfl
  have h:=j6 ⟨oneN,some ⟨gA,0,none⟩,y.cap,y.es.take 1⟩ w ⟨hA▸hI.es.fst 1,by show (y.es.take 1).length<=y.cap;rw [hl1];omega,by show oneN.length<=_;decide⟩ (hK.on hO.below)
  rw [hsh,if_pos hM1,if_pos hM1] at h
  have hV:∀ k,k=1->(Value.agg #[.string (mkS oneN),.slice (some ⟨gA,0,none⟩) k y.cap])= .agg #[.string ⟨#[111,110,101]⟩,.slice (some ⟨gA,0,none⟩) 1 y.cap]:=λk hk=>by rw [hk];rfl
  have hE:hvV ⟨oneN,some ⟨gA,0,none⟩,y.cap,y.es.take 1⟩= .agg #[.string ⟨#[111,110,101]⟩,.slice (some ⟨gA,0,none⟩) 1 y.cap]:=hV _ hl1
  rw [hE] at h;exact h
 have hOne:shT ⟨oneN,[e0]⟩=[115,104,101,108,102,32,111,110,101,10]++vT e0:=by
  show (shH oneN++[10])++[e0].flatMap vT=_
  rw [List.flatMap_singleton];rfl
 have hel:=entT_len (hM.ok e0 he0)
 have hTw:shT y.sh++vT e0=shT ⟨y.sh.name,y.sh.es++[e0]⟩:=by
  show (shH y.sh.name++[10])++y.sh.es.flatMap vT++vT e0=(shH y.sh.name++[10])++(y.sh.es++[e0]).flatMap vT
  rw [List.flatMap_append,List.flatMap_singleton,List.append_assoc]
 have cT:∀ w,YB W w->YC 16 #[.string (mkS (shT y.sh++vT e0))] w λe w'=>∃ v ob,e= .returned v/\(∃ u:Hv,v= .tuple #[hvV u,YI 8,YI ((y.sh.es.flatMap kL).length+2:Int)])/\Own [] w w' ob:=λw hb=>(fT (shT y.sh++vT e0) w (by rw [List.length_append];omega) (hK.on hb) (hL.on hb) (by
  rw [hTw]
  exact sh_rd hM.name λe he=>by
   rcases List.mem_append.1 he with he|he
   ·exact hM.ok e he
   ·rw [List.mem_singleton.1 he];exact hM.ok e0 he0)).mono λe w' ⟨v,ob,q1,⟨u,q2,q3,q4⟩,q5⟩=>by
  rw [shelf_twice hM he0 (by rw [List.length_append];omega)] at q2
  exact ⟨v,ob,q1,⟨u,q2⟩,q5⟩
 have hcl:=cntT_le (shT y.sh)
 rw [hOne] at cP1
 generalize (y.sh.es.flatMap kL).length=N at*
 generalize shT y.sh=t at*
 generalize vT e0=te at*
 refine zT (α:=Nat) (λi=>[(3,Zp b3 0),(4,.string (mkS t)),(9,YI ((1+cntT t i:Nat):Int)),(10,YI (i:Int))]) (λ_=>[hvB b6 u,hvB b3 y]++(ob++ob1)) (λi m=>i<=t.length/\m=t.length-i) 0 t.length [] ⟨Nat.zero_le _,rfl⟩ ?_
 rintro i mm g kk ⟨hi,hmm⟩ nx hkk
 subst hkk
 refine zG 68 [] ((i:Int)<(t.length:Int)) (λh68=> ?_) (λh68=> ?_)
 ·have hj:i<t.length:=by omega
  have hc:=cntT_succ hj
  have hcli:=hcl i
  obtain ⟨b,hb⟩:∃ b,t[i]=b:=⟨_,rfl⟩
  rw [hb] at hc
  refine nO 73 [] t i hj b hb (zG 74 [] ((b.toNat:Int)=10) (λh74=> ?_) (λh74=> ?_))
  ·have hb10:b=10:=UInt8.toNat_inj.1 (by show b.toNat=10;omega)
   rw [if_pos hb10] at hc
   exact x_i 76 [] (((1+cntT t i:Nat):Int)+1) (x_i 70 [] ((i+1:Nat):Int) (xY 9 [] (YI (((1+cntT t i:Nat):Int)+1)) (YI ((1+cntT t (i+1):Nat):Int)) (by rw [hc];rfl) (nx (i+1) (t.length-(i+1)) [] Om ⟨hj,rfl⟩ Kr Kr)))
  ·have hb10:¬ b=10:=λq=>h74 (by rw [q];rfl)
   rw [if_neg hb10] at hc
   exact x_i 70 [] ((i+1:Nat):Int) (xY 9 [] (YI ((1+cntT t i:Nat):Int)) (YI ((1+cntT t (i+1):Nat):Int)) (by rw [hc];rfl) (nx (i+1) (t.length-(i+1)) [] Om ⟨hj,rfl⟩ Kr Kr))
 obtain rfl:i=t.length:=by omega
 refine x_slhi 80 [1] hA y.es.length y.cap 11 1 (by decide) Om (.slice (some ⟨gA,0,none⟩) 1 y.cap) rfl ?_
 refine z7 (k:=13) (args:= #[.agg #[.string ⟨#[111,110,101]⟩,.slice (some ⟨gA,0,none⟩) 1 y.cap]]) (v:= .tuple #[.string (mkS ([115,104,101,108,102,32,111,110,101,10]++te)),YI 0]) [] (λw hO=>by
  have h1:=(hO.past 2 (ob++ob1)).sublist (List.sublist_append_left _ _)
  clear hO
  exact cP1 w h1) ?_
 have h10:([115,104,101,108,102,32,111,110,101,10]++te:YL).length=10+te.length:=by rw [List.length_append];rfl
 have hdr:([115,104,101,108,102,32,111,110,101,10]++te:YL).drop 10=te:=List.drop_left' rfl
 generalize ([115,104,101,108,102,32,111,110,101,10]++te:YL)=on at*
 refine zG 90 [] ((on.length:Int)<10) (λh=>absurd h Om) (λ_=>x_slo 95 [] on 10 (by decide) Om (.string (mkS te)) (by rw [show (10:Int).toNat=10 from rfl,hdr]) (gD 96 [] t te ?_ Om))
 refine yB (k:=16) (args:= #[.string (mkS (t++te))]) (R:=λv ob=>∃ u:Hv,v= .tuple #[hvV u,YI 8,YI (N+2:Int)]) [] (λw hO=>cT w hO.below) ?_
 rintro _ ob2 ⟨z,rfl⟩
 refine zH [] λb13=>z7 (v:= .bool true) [0] (λw hO=>kD w (hK.on hO.below) (hL.on hO.below)) (zG 109 [] ((N+2:Int)=((1+cntT t t.length:Nat):Int)) (λ_=> ?_) (λh=>absurd (by rw [hcn];omega) h))
 exact z8 [] Z4 λw hO=>⟨rfl,hO.below⟩
end Go.Proofs.YtflhcaljcoekpaaGreatDoor
end

section
/-
 IndexBack: for every input the call returns true, and each argument reads afterwards as it read before. Conditions: none but the row's own, that the listed package-level variables read as the program's text lays them.
-/
namespace Go.Proofs.YtflhcaljcoekpaaGreatDoor.indexBack
open Go.ChangeShapes Go.WideShapes Go.ChangeAt Go.RowKit
open Go.ChangeMaps (open_string shut_string)
set_option linter.unusedVariables false

set_option maxRecDepth 100000 in
theorem tL (H:Type)(enc:TypeId×Value->H)(W:World)(base:Nat)(args:Array Value)(ds gs:List (DataW H))(before:List MemPlace)
  (hval:∀ (j:Nat) t v,Tryz.f4.params[j]?=some t->args[j]?=some v->Value.okWide YP W .any base t v)
  (hW:DataW.Whole enc YP Tryz.f4.params.toList Rows.indexBackSpec.vars false W args.toList ds gs before) (hL:laidMetH YP Rows.indexBackRow.laid W) (hS:W.ShapedOpen YP):
  YC 4 args W λe W'=>∃ v,e= .returned v/\Rows.indexBackSpec.post enc YP Tryz.f4 false true false false W args v W':=by
 have ht:HasLib W:=hasLib_of (hasTab_of hL (by rfl)) hS
 have hW':=hW
 obtain ⟨p,q,hA0,hV,rfl,hfz,hnd⟩:=hW
 have hA:DataW.TrodAll enc YP W 0 (λ_=>true) true Tryz.f4.params.toList args.toList ds p:=hA0
 rw [Tryz.params4] at hA hval
 obtain ⟨v0,vs0,d0,ds0,p0,q0,hargs,rfl,rfl,h0,r0⟩:=trodAll_cons hA
 obtain ⟨rfl,rfl,rfl⟩:=trodAll_nil r0
 obtain rfl:args= #[v0]:=by cases args;simp_all
 obtain ⟨rfl,rfl⟩:=trodVars_none hV
 clear hA0
 obtain ⟨l,l_reads,l_len⟩:=tW (hval 0 30 v0 rfl rfl) h0
 refine (indexBack.law v0 l W l_reads l_len ⟨ht,mkLib_of hL (by rfl)⟩ (lyAt_of hL (by rfl))).mono λe W' ⟨he,hb⟩=> ?_
 subst he
 exact ⟨_,rfl,law_end laidOut (λt ht=>by rw [Tryz.params4] at ht;simp at ht;subst ht;exact ⟨by kernel_rfl,of_decide_eq_true Kr⟩) rfl rfl Tryz.underlying4 hW' (by rfl) hb⟩

noncomputable def qY (os:Os):World:=
 {World.holding YP os ⟨#[], #[],[]⟩ with heap:=jW (jW (jW (jW (jW (jW (jW ((World.holding YP os ⟨#[], #[],[]⟩).heap) 6 Rows.laid_math_bits_deBruijn32tab) 7 Rows.laid_math_bits_deBruijn64tab) 3 Rows.laid_internal_strconv_uint64pow10) 5 Rows.laid_unicode_utf8_acceptRanges) 2 Rows.laid_linchpin_mark_keys) 1 Rows.laid_linchpin_record_layouts) 4 Rows.laid_unicode_utf8_first}
theorem tG (os:Os):laidMet YP Rows.indexBackRow.laid ((qY os).forCall (λ_ _=>0) ⟨#[], #[.slice none 0 0],[]⟩).memory:=
 laidMet_of_run' 8 Kr Kr
theorem reads (os:Os){H:Type}(enc:TypeId×Value->H):∃ places,DataW.whole enc YP ((qY os).forCall (λ_ _=>0) ⟨#[], #[.slice none 0 0],[]⟩).memory Tryz.f4.params.toList Rows.indexBackSpec.vars false (#[.slice none 0 0]:Array Value).toList 8=some ([.nil],[],places):=
 ⟨[],by kernel_rfl⟩

set_option maxRecDepth 100000 in
theorem lifted (os:Os)(started:os.Started)(H:Type)(enc:TypeId×Value->H)(F:Stop.Interp):
  ReturnsInHanded {} Tryz.checked os 4 .any ((OpenSpec.ofChange Rows.indexBackSpec).preRow enc YP Tryz.f4 Rows.indexBackRow.domain false Rows.indexBackRow.laid) (((OpenSpec.ofChange Rows.indexBackSpec).at F).post enc YP Tryz.f4 false true false false):=by
 obtain ⟨places,hx⟩:=reads os enc
 refine returnsInHanded_of_row (C:=Tryz.checked) (s:=OpenSpec.ofChange Rows.indexBackSpec) own started Kr Tryz.func4
  (witness_row_at (enc:=enc) (C:=Tryz.checked) false (qY os) #[.slice none 0 0] rfl Kr Kr Kr
   (OpenSpec.preRow_of_cond 8 hx Kr (λk hk=>by cases hk) Kr (tG os))) ?_
 intro W base args ds gs before hval hW _ _ _ hL hS _
 exact tL H enc W base args ds gs before hval hW hL hS

theorem j1:(Rows.indexBackRow.inPlace==Tryz.pinned.checked.prog.inPlace 4)=true:=by kernel_rfl
theorem j2:(Rows.indexBackRow.unfollowed==Tryz.pinned.checked.prog.unfollowed 4)=true:=by kernel_rfl
theorem j3:(Rows.indexBackRow.recurses==Tryz.pinned.checked.prog.recurses 4)=true:=by kernel_rfl
theorem j4:(Rows.indexBackRow.named==Tryz.pinned.checked.prog.varsNamed 4)=true:=by kernel_rfl
theorem j5:(Rows.indexBackRow.lifted==Tryz.pinned.checked.prog.liftsFinal)=true:=by kernel_rfl
theorem closed:joinedFacts Tryz.pinned.checked.prog 4 Tryz.f4 (OpenSpec.ofChange Rows.indexBackSpec).bare Rows.indexBackRow=true:=by
 unfold joinedFacts
 rw [jfLaid,jfMaps,j1,j2,j3,j4,jfHeard,jfEnter,j5]
 kernel_rfl

theorem said:Rows.IndexBackSaid:=
 OpenClaim.holds_of_cond 4 Tryz.f4 rfl rfl rfl rfl rfl rfl rfl ⟨rfl,rfl,rfl,rfl,rfl⟩ rfl rfl rfl rfl rfl Kr Tryz.func4 closed
  (of_decide_eq_true Kr) (by unfold Func.isWrapper;first|(rw [if_pos (by decide+kernel)];kernel_rfl)|(rw [if_neg (by decide+kernel)];exact ⟨rfl,rfl⟩))
  (λos started H enc _ F=>by rw [OpenClaim.pre_eq_preRow];exact lifted os started H enc F)

theorem jM (f : FuncId) (fn : Func) (hf : Tryz.pinned.checked.prog.funcNamed "linchpin/linchpinlaw14.IndexBack" = some f) (hfn : Tryz.pinned.checked.prog.funcs[f]? = some fn) :
  false=Tryz.pinned.checked.prog.looks []∧∀ (j:Nat) t,fn.params[j]?=some t->Tryz.pinned.checked.prog.wantsStandIn t=false:=by
 obtain rfl : f = 4 := Option.some.inj ((show Tryz.prog.funcNamed "linchpin/linchpinlaw14.IndexBack" = some 4 by kernel_rfl).symm.trans hf) |>.symm
 obtain rfl:fn=Tryz.f4:=(Option.some.inj (Tryz.func4.symm.trans hfn)).symm
 refine ⟨by kernel_rfl,λj t ht=> ?_⟩
 rw [Tryz.params4] at ht
 have hm:=Array.mem_of_getElem? ht
 simp at hm
 subst hm
 exact (show Tryz.prog.wantsStandIn 30=false by kernel_rfl)

theorem goes:false=Rows.indexBackRow.goesBy Tryz.pinned.checked.prog:=by kernel_rfl
theorem card:Rows.IndexBackCardSaid:=
 Claim7.holds_tied_plain_at .later [] _ _ _ _ said (λ_ h=>by cases h) Kr (λ_ h=>by cases h) indexBack_row_tie rfl ⟨rfl,rfl⟩ Kr rfl jM goes

#print axioms card
end Go.Proofs.YtflhcaljcoekpaaGreatDoor.indexBack
end
