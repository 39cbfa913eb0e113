import Derived.Shelf.SlSortCmp.Whole1
import Derived.Shelf.SlSortCmp.NoneTotal
import Derived.Test.YteghandhpbmpgaaGreatDoorProg
import Derived.Sort.OwnSortedInts
import Derived.Below
import Derived.ChangeSame
import Derived.ProofKit
import Derived.OpenShut
import Derived.LaidSub
import Derived.Carry
import Derived.SliceStrings
import Derived.Lib.LaidTab
import Derived.Deep.DeepHandedRow
import Derived.ChangeSlices
import Derived.Test.YteghandhpbmpgaaGreatDoorTO7
set_option maxRecDepth 1000000
set_option maxHeartbeats 8000000
set_option linter.unusedVariables false
set_option linter.unusedSimpArgs false
set_option linter.unnecessarySimpa false
namespace Go.Proofs.YteghandhpbmpgaaGreatDoor
open Go.RowKit

section
theorem check_is {r:Rt}(h1:nmL r.name=true)(h2:r.ver.may=true)(h3:r.needs.length<=8)(h4:r.bars.length<=8)(h5:∀ n∈r.needs,g6 r.name n=0)(h6:∀ b∈r.bars,jX r.name b=0)(h7:bE r.fts=true)(h8:∀ f∈r.fts,yS (xK r.needs) f.of=0)(h9:(kA r).length<=4096):zM r=(0,0):=by
 have hp:kY r=(0,0):=by
  unfold kY
  rw [gT h5,if_neg (by simp),gT h6,if_neg (by simp),if_neg (by simp [h7]),gT h8]
 unfold zM
 rw [if_neg (by simp [h1]),if_neg (by simp [h2]),if_neg Om,hp,if_neg (by simp),if_neg Om]
theorem few_all12:∀ op∈[(7:Int),6,3,1,2],∀ a:Nat,a<3→∀ b:Nat,b<2->xR (Co.print ⟨op,3,⟨(a:Int),(b:Int),0,[],[]⟩⟩)=true:=by decide+kernel
theorem few_plain {t:YL}(h:FewT t):xR t=true:=by
 rcases h with rfl|⟨c,hc,rfl⟩
 ·decide+kernel
 ·obtain ⟨a,b,ha,hb,hv⟩:=hc.v
  have e:c=⟨c.op,3,⟨(a:Int),(b:Int),0,[],[]⟩⟩:=by rw [←hv,←hc.parts]
  rw [e]
  refine few_all12 c.op ?_ a ha b hb
  rcases hc.op with e|e|e|e|e<;>rw [e]<;>decide
theorem when_all:∀ k:Nat,k<3→∀ c:Nat,c<2→∀ j:Nat,j<4->yX (yT k++sepT c++vG j)=true:=by decide+kernel
theorem when_plain {t:YL}(h:WhenT t):yX t=true:=by
 rcases h with rfl|⟨k,c,j,hk,rfl⟩
 ·decide+kernel
 ·have hj:∃ i,i<4/\vG j=vG i:=by
   by_cases h:j<4
   ·exact ⟨j,h,rfl⟩
   ·exact ⟨3,by decide,by unfold vG;rw [if_neg Om,if_neg Om,if_neg Om];rfl⟩
  have hc:∃ i,i<2/\sepT c=sepT i:=by
   by_cases h:c<2
   ·exact ⟨c,h,rfl⟩
   ·exact ⟨1,by decide,by unfold sepT;rw [if_neg Om];rfl⟩
  obtain ⟨i,hi,e⟩:=hj
  obtain ⟨d,hd,e2⟩:=hc
  rw [e,e2];exact when_all k hk d hd i hi
theorem nameT_apart:∀ a:Nat,a<5→∀ b:Nat,b<5->a≠b->yR a≠yR b:=by decide
theorem kind_opt:∀ j:Nat,j<4->zO ([63]++vG j)=(2,vG j,[]):=by decide+kernel
theorem kind_pull:∀ j:Nat,j<5->zO (yR j++[47]++[120])=(3,yR j,[120]):=by decide+kernel
theorem verG_all:∀ a:Nat,a<3→∀ b:Nat,b<2→∀ q∈[(([]:YL),([]:YL)),([114,99,46,49],[]),([],[55])],(Ver.mk a b 0 q.1 q.2).may=true/\(Ver.mk a b 0 q.1 q.2).print.length<=20:=by decide+kernel
theorem wishG_zero {own:Nat}{al:Bool}{u:Wv}(h:WishG own al u):gL (yR (own % 5)) u.wt al=0:=by
 obtain ⟨k,hk,e⟩:=h.name
 have hne:u.name≠yR (own % 5):=by rw [e];exact nameT_apart _ Om _ Om Om
 have hf:wU u.fs al=true:=by
  rcases h.fs with e|⟨ha,e|e⟩
  ·rw [e];cases al<;>decide
  ·rw [e,ha];decide
  ·rw [e,ha];decide
 unfold gL
 rw [if_neg (show ¬ nmL u.wt.name=false by rw [show u.wt.name=u.name from rfl,e,nameT_ok];simp),if_neg (show ¬ u.wt.name=_ from hne),if_neg (show ¬ xR u.wt.rng=false by rw [show u.wt.rng=u.rng from rfl,few_plain h.rng];simp),if_neg (show ¬ wU u.wt.fs al=false by rw [show u.wt.fs=u.fs from rfl,hf];simp)]
theorem need_zero {own:YL}{n:Nt}(h1:n.any≠[])(h2:n.any.length<=3)(h3:∀ x∈n.any,gL own x (decide (n.any.length=1))=0)(h4:yX n.wh=true)(h5:n.opt=[]\/wdL n.opt=true):g6 own n=0:=by
 unfold g6
 rw [if_neg h1,if_neg Om,if_neg (by rw [jU h3];simp),if_neg (by simp [h4]),if_neg (λh=>by
  rcases h5 with e|e
  ·exact h.1 e
  ·rw [e] at h;exact absurd h.2 (by simp))]
theorem needG_zero {own:Nat}{n:Nv}(h:NeedG own n):g6 (yR (own % 5)) n.nt=0:=by
 have hop:n.nt.opt=[]\/wdL n.nt.opt=true:=by
  rcases h.opt with e|⟨j,_,e⟩
  ·exact .inl e
  ·exact .inr (by rw [show n.nt.opt=n.opt from rfl,e];exact wordT_ok j)
 rcases h.any with ⟨w,e,hw⟩|⟨w,u,e,hw,hu⟩
 ·have e':n.nt.any=[w.wt]:=by unfold Nv.nt;rw [e];rfl
  refine need_zero (by rw [e'];simp) (by rw [e'];simp) (λx hx=> ?_) (when_plain h.wh) hop
  rw [e'] at hx ⊢
  rw [List.mem_singleton.1 hx];exact wishG_zero hw
 ·have e':n.nt.any=[w.wt,u.wt]:=by unfold Nv.nt;rw [e];rfl
  refine need_zero (by rw [e'];simp) (by rw [e'];simp) (λx hx=> ?_) (when_plain h.wh) hop
  rw [e'] at hx ⊢
  simp only [List.mem_cons,List.not_mem_nil,or_false] at hx
  rcases hx with rfl|rfl
  ·exact wishG_zero hw
  ·exact wishG_zero hu
theorem barG_zero {own:Nat}{b:Bv}(h:BarG own b):jX (yR (own % 5)) b.bt=0:=by
 obtain ⟨k,hk,e⟩:=h.name
 have hne:b.name≠yR (own % 5):=by rw [e];exact nameT_apart _ Om _ Om Om
 unfold jX
 rw [if_neg (show ¬ nmL b.bt.name=false by rw [show b.bt.name=b.name from rfl,e,nameT_ok];simp),if_neg (show ¬ b.bt.name=_ from hne),if_neg (show ¬ xR b.bt.rng=false by rw [show b.bt.rng=b.rng from rfl,few_plain h.rng];simp),if_neg (show ¬ yX b.bt.wh=false by rw [show b.bt.wh=b.wh from rfl,when_plain h.wh];simp)]
theorem item_zero {own:Nat}{keep:Nat->Bool}{x:Rv}(h:RecG own keep x){s:YL}(hs:ItemG x.needs keep s):xK x.rt.needs s=0/\s.length<=7:=by
 unfold xK wordOf
 rcases hs with ⟨m,hm,hne,rfl⟩|⟨m,hm,w,hw,rfl⟩|⟨j,hj,hk,rfl⟩
 ·rcases (h.needs m hm).opt with e|⟨j,hj,e⟩
  ·exact absurd e hne
  ·have ho:optR x.rt.needs m.opt=true:=by
    unfold optR
    exact List.any_eq_true.2 ⟨m.nt,List.mem_map_of_mem hm,decide_eq_true rfl⟩
   have h4:=wordT_four j
   rw [e] at ho ⊢
   rw [kind_opt j hj]
   refine ⟨?_,by rw [List.length_append];simp only [List.length_cons,List.length_nil];omega⟩
   rw [if_neg (λq=>by rw [ho] at q;exact absurd q.2 (by simp)),if_neg (λq=>absurd (show (2:Int)=3 from q.1) (by decide))]
 ·have key:∃ a,WishG own a w:=by
   rcases (h.needs m hm).any with ⟨u,e,hu⟩|⟨u,z,e,_,_⟩
   ·rw [hw] at e;injection e with e1 _;exact ⟨true,e1▸hu⟩
   ·rw [hw] at e;simp at e
  obtain ⟨a,hu⟩:=key
  obtain ⟨k,hk,e⟩:=hu.name
  have hp:pulR x.rt.needs w.name=true:=by
   unfold pulR
   refine List.any_eq_true.2 ⟨m.nt,List.mem_map_of_mem hm, ?_⟩
   unfold pulN Nv.nt
   rw [hw]
   exact decide_eq_true rfl
  have h4:=nameT_len ((own+1+k) % 5)
  rw [e] at hp ⊢
  rw [kind_pull _ Om]
  refine ⟨?_,by simp only [List.length_append,List.length_cons,List.length_nil];omega⟩
  rw [if_neg (λq=>absurd (show (3:Int)=2 from q.1) (by decide)),if_neg (λq=>by rw [hp] at q;exact absurd q.2 (by simp))]
 ·obtain ⟨_,k1,_⟩:=nmF_word j hj
  rw [k1]
  refine ⟨by rw [if_neg (λq=>absurd q.1 (by decide)),if_neg (λq=>absurd q.1 (by decide))], ?_⟩
  unfold nmF dfl
  repeat' split
  all_goals simp
theorem rec_good {own:Nat}{keep:Nat->Bool}{x:Rv}(h:RecG own keep x):zM x.rt=(0,0)/\(kA x.rt).length<=3000:=by
 have hn:nmL x.rt.name=true:=by rw [show x.rt.name=x.name from rfl,h.name];exact nameT_ok _
 obtain ⟨a,b,ha,hb,e1,e2,e3⟩:=h.ver
 have hv:x.rt.ver.may=true/\x.rt.ver.print.length<=20:=by
  have e:x.rt.ver=Ver.mk a b 0 x.pre x.bld:=by show Ver.mk x.maj x.min x.pat x.pre x.bld=_;rw [e1,e2,e3]
  rw [e]
  refine verG_all a ha b hb (x.pre,x.bld) ?_
  rcases h.pb with ⟨e,e'⟩|⟨e,e'⟩|⟨e,e'⟩<;>rw [e,e']<;>simp
 have hN:∀ n∈x.rt.needs,g6 x.rt.name n=0:=λn hn=>by
  obtain ⟨m,hm,rfl⟩:=List.mem_map.1 hn
  rw [show x.rt.name=x.name from rfl,h.name];exact needG_zero (h.needs m hm)
 have hB:∀ n∈x.rt.bars,jX x.rt.name n=0:=λn hn=>by
  obtain ⟨m,hm,rfl⟩:=List.mem_map.1 hn
  rw [show x.rt.name=x.name from rfl,h.name];exact barG_zero (h.bars m hm)
 have hF:∀ f∈x.rt.fts,yS (xK x.rt.needs) f.of=0/\(gE f).length<=57:=λf hf=>by
  obtain ⟨y,hy,rfl⟩:=List.mem_map.1 hf
  have hg:=h.fts.each y hy
  refine ⟨jU λs hs=>(item_zero h (hg.all s hs)).1, ?_⟩
  have hnm:y.name.length<=7:=by
   have:y.name∈x.fts.map Fv.name:=List.mem_map_of_mem hy
   rw [h.fts.names] at this
   obtain ⟨j,hj,e⟩:=List.mem_map.1 this
   rw [←e]
   unfold nmF dfl
   repeat' split
   all_goals simp
  have:=jn_most 32 7 (l:=kN::y.name::y.of) λs hs=>by
   rcases List.mem_cons.1 hs with rfl|hs
   ·decide
   ·rcases List.mem_cons.1 hs with rfl|hs
    ·exact hnm
    ·exact (item_zero h (hg.all s hs)).2
  have hl:=hg.len
  show (zG 32 (kN::y.name::y.of)++[10]).length<=57
  simp only [List.length_append,List.length_cons,List.length_nil] at this ⊢
  omega
 have l1:x.rt.needs.length<=2:=by rw [show x.rt.needs.length=x.needs.length from List.length_map ..];exact h.nlen
 have l2:x.rt.bars.length<=1:=by rw [show x.rt.bars.length=x.bars.length from List.length_map ..];exact h.blen
 have l3:x.rt.fts.length<=4:=by
  have e:=congrArg List.length h.fts.names
  rw [List.length_map,List.length_map] at e
  have:=List.length_filter_le keep (List.range 4)
  rw [List.length_range] at this
  rw [show x.rt.fts.length=x.fts.length from List.length_map ..];omega
 have hT:(kA x.rt).length<=3000:=by
  have k1:=mH kW 900 (l:=x.rt.needs) λn hx=>needT_short (hN n hx)
  have k2:=mH wJ 300 (l:=x.rt.bars) λn hx=>barT_short (hB n hx)
  have k3:=mH gE 57 (l:=x.rt.fts) λf hx=>(hF f hx).2
  have k4:=fS hn
  unfold kA jB
  simp only [List.length_append,txPack,List.length_cons,List.length_nil];omega
 exact ⟨check_is hn hv.1 Om Om hN hB (feats_may h) (λf hf=>(hF f hf).1) Om,hT⟩
end
section
def moreV (r:Rt):Rt:={r with ver:={r.ver with maj:=r.ver.maj+1}}
def bareR12 (r:Rt):Rt:={r with fts:=[]}
def zoo:Bt:=⟨[122,111,111],[42],[]⟩
end
section
set_option linter.unnecessarySimpa false
structure MadeR (x:Rv)(ob:List Blk):Prop where
 mem:RecO x ob
 gen:∃ own keep,RecG own keep x
 chk:zM x.rt=(0,0)
 len:(kA x.rt).length<=3000
 bnd:BndR x.rt
 few:FewR x.rt 4096
theorem made_of {x:Rv}{ob:List Blk}{own:Nat}{keep:Nat->Bool}(h:RecG own keep x)(hR:RecO x ob):MadeR x ob:=by
 obtain ⟨g1,g2⟩:=rec_good h
 have hb:=chk_bnd (r:=x.rt) (by rw [g1])
 exact ⟨hR,⟨own,keep,h⟩,g1,g2,hb.1,hb.2⟩
theorem MadeR.inn {x:Rv}{ob L:List Blk}{M:List Nat}{W w:World}(h:MadeR x ob)(hO:Own M W w L)(hs:∀ b∈ob,b∈L):RcIn w w.heap.size x:=h.mem.inn hO hs h.bnd h.few
end
section
set_option linter.unnecessarySimpa false
structure MadeS (y:Hv)(o1 o2:List Blk):Prop where
 may:yE y.sh
 name:y.name=oneN
 own:LsO 57 11 evC esO y.A y.cap y.es o1 o2
 gen:∀ e∈y.es,∃ own keep,RecG own keep e.rec'
theorem MadeS.sho {y:Hv}{o1 o2:List Blk}(h:MadeS y o1 o2):ShO y (o1++o2):=⟨o1,o2,rfl,h.own⟩
theorem LsO.more {A A':Option Addr}{c c':Nat}{xs:List Ev}{o1 o1' o2 ob:List Blk}{x:Ev}(h:LsO 57 11 evC esO A c xs o1 o2)(ht:Sl 57 11 (.slice A' (xs.length+1) c') (xs.length+1) ((xs++[x]).flatMap evC) o1')(hx:esO x ob):LsO 57 11 evC esO A' c' (xs++[x]) o1' (o2++ob):=
 h.add (by rw [List.flatMap_append,List.flatMap_singleton] at ht;exact ht) hx
theorem shelf_gen (v:Value)(l:List Int)(most:Nat)(W:World)(hv:ReadsI W W.heap.size v l)(hl:l.length<=9223372036854775807)(hm:most<=8):YC 46 #[v,YI 0,.string ⟨#[111,110,101]⟩,YI (most:Int)] W λe w'=>∃ v' ob,e= .returned v'/\(∃ y o1 o2,v'=hvV y/\ob=o1++o2/\MadeS y o1 o2/\y.es.length<=most)/\Own [] W w' ob:=by
 obtain ⟨n,hn,hnm⟩:=xH (atL l 0) (most+1) Om
 have f0:=gB hv hl 0 ((most+1:Nat):Int) Om Om Om hn
 refine z8 Tryz.func46 (zB [] λb8=>zB [] λb9=> ?_)
 refine zL (α:=Nat×Hv×List Blk×List Blk) (λ(k,y,o1,o2)=>[(0,v),(1,YI 0),(3,YI (most:Int)),(8,Zp b8 0),(9,Zp b9 0),(10,YI (k:Int))]) (λ(k,y,o1,o2)=>[hvB b9 y,⟨b8,ZM,49⟩]++(o1++o2)) (λ(k,y,o1,o2) m=>(k<=most/\MadeS y o1 o2/\y.es.length<=k)/\m=most-k) (0,s0v,[],[]) most [0] ⟨⟨Nat.zero_le _,⟨may0,rfl,LsO.nil,λe h=>by cases h⟩,Nat.le_refl _⟩,rfl⟩ ?_
 rintro ⟨k,y,o1,o2⟩ mm g kk ⟨⟨hk,hM,hlen⟩,hmm⟩ nx hkk
 subst hkk
 have hfin:∀ w,Own [] W w (o1++o2)→∃ v' ob,Ending.returned (hvV y)= .returned v'/\(∃ y o1 o2,v'=hvV y/\ob=o1++o2/\MadeS y o1 o2/\y.es.length<=most)/\Own [] W w ob:=λw hO=>⟨_,_,rfl,⟨y,o1,o2,rfl,rfl,hM,by omega⟩,hO⟩
 refine zA 18 [] ((k:Int)<(most:Int)) (λh18=>x_i 24 [] ((most+1:Nat):Int) (z6 [] (λw hO=>f0 w hO.below) (zA 26 [] ((k:Int)<(n:Int)) (λh26=> ?_) (λh26=> ?_)))) (λh18=> ?_)
 rotate_left
 ·exact qL [0,1] 1 (hvV y) λw hO=>hfin w (hO.past 2 _)
 ·exact qL [0,1] 1 (hvV y) λw hO=>hfin w (hO.past 2 _)
 obtain ⟨q,hq,hq4⟩:=xH (atL l (1+82*k+80)) 4 (by decide)
 obtain ⟨r9,hr9,_⟩:=xH (atL l (1+82*k+81)) 9 (by decide)
 have f1:=gB hv hl (1+82*k+80) 4 Om (by decide) (by decide) hq
 have f2:=gB hv hl (1+82*k+81) 9 Om (by decide) (by decide) hr9
 refine x_i 32 [] 1 (x_i 34 [] ((82*k:Nat):Int) (x_i 35 [] ((1+82*k:Nat):Int) (x_i 38 [] 1 (x_i 40 [] ((82*k:Nat):Int) (x_i 41 [] ((1+82*k:Nat):Int) (x_i 42 [] ((1+82*k+80:Nat):Int) (z6 [] (λw hO=>f1 w hO.below) (x_i 44 [] ((1+q:Nat):Int) (y7 (R:=λv ob=>∃ x,v=rvV x/\(∃ own keep,RecG own keep x)/\MadeR x ob) [] (λw hO=>(record_gen v l (1+82*k) (1+q) w ((hv.below hO.below).more hO.below.size) hl Om Om).mono λe w' ⟨x,ob,q1,⟨q2,q3⟩,q4⟩=>⟨_,ob,q1,⟨x,rfl,⟨_,_,q2⟩,made_of q2 q3⟩,q4⟩) ?_)))))))))
 rintro _ obr ⟨x,rfl,hG,hX⟩
 have hc0:(zM x.rt).1=0:=by rw [hX.chk]
 have hyl:y.sh.es.length=y.es.length:=by simp [Hv.sh]
 have hpz:=put_is hM.may hc0 Om
 refine zB [] λb11=>y7 (k:=39) (args:= #[hvV y,rvV x]) (R:=PutR13 y x) [0,1,0] (λw hO=> ?_) ?_
 ·have hO':=hO.past 3 ((o1++o2)++obr)
  clear hO
  exact r13Put_any y x w (hM.sho.inn hO' (λb hb=>List.mem_append_left _ hb) hM.may) (hX.inn hO' (λb hb=>List.mem_append_right _ hb))
 rintro v3 o3 hP
 rcases hP with ⟨hp0,A,c,rfl,hS⟩|⟨hp0,rfl,rfl⟩
 rotate_left
 ·generalize (g8 y.sh x.rt).2=p at*
  refine zB [] λb12=>zA 53 [0] (p=0) (λh=>absurd h hp0) (λ_=>x_i 29 [] ((k+1:Nat):Int) (zK [] ([hvB b9 y,⟨b8,ZM,49⟩]++(o1++o2)) (λw hO=>own_cnt obr (hO.past 2 ([hvB b9 y,⟨b8,ZM,49⟩]++(o1++o2)++obr++[])) λf=>by simp only [List.countP_append,List.countP_cons,List.countP_nil,List.cons_append,List.nil_append];omega) (nx (k+1,y,o1,o2) (most-(k+1)) [] Om ⟨⟨by omega,hM,by omega⟩,rfl⟩ Kr Kr)))
 have hle1:(y.es++[(⟨x,yV x.rt,false⟩:Ev)]).length=y.es.length+1:=by simp
 obtain ⟨ga,cur,rfl,rfl,_⟩:=Sl.block hS Om
 rw [hle1] at hS
 obtain ⟨hS2,hfit⟩:=Sl.putLast gQ hS ⟨x,yV x.rt,decide ((r9:Int)=1)⟩ 10 #[.bool (decide ((r9:Int)=1))] (by show 10+1<=11;omega) rfl
 have hpl:zR y.sh.es x.rt.name x.rt.ver= -1:=by
  apply Classical.byContradiction
  intro h
  rw [hpz,if_neg h] at hp0
  exact absurd hp0 (by decide)
 have hMay:yE (⟨y.name,some ⟨ga,0,none⟩,c,y.es++[⟨x,yV x.rt,decide ((r9:Int)=1)⟩]⟩:Hv).sh:=by
  refine may_core (s:=⟨y.sh.name,y.sh.es++[⟨x.rt,yV x.rt,false⟩]⟩) rfl ?_ (put_may hM.may hc0 hpl Om)
  simp [Hv.sh,Ev.et,pR]
 have hNew:MadeS ⟨y.name,some ⟨ga,0,none⟩,c,y.es++[⟨x,yV x.rt,decide ((r9:Int)=1)⟩]⟩ [⟨ga,xB cur (y.es.length*11+10) #[.bool (decide ((r9:Int)=1))],57⟩] (o2++obr):=⟨hMay,hM.name,hM.own.more hS2 hX.mem,λe he=>by
  rcases List.mem_append.1 he with he|he
  ·exact hM.gen e he
  ·rw [List.mem_singleton.1 he];exact hG⟩
 refine zB [] λb12=>zK [0,0,2] ([⟨ga,cur,57⟩,⟨b9, #[YS y.name,.slice (some ⟨ga,0,none⟩) (y.es++[(⟨x,yV x.rt,false⟩:Ev)]).length c],49⟩,⟨b8,ZM,49⟩]++(o2++obr)) (λw hO=> ?_) ?_
 ·have hO':=hO.past 0 ([⟨b12, #[YS y.name,.slice (some ⟨ga,0,none⟩) (y.es++[(⟨x,yV x.rt,false⟩:Ev)]).length c],49⟩,rvB b11 x,⟨b9, #[YS y.name,.slice (some ⟨ga,0,none⟩) (y.es++[(⟨x,yV x.rt,false⟩:Ev)]).length c],49⟩,⟨b8,ZM,49⟩]++(o1++o2)++obr++[⟨ga,cur,57⟩])
  clear hO
  exact own_cnt (⟨b12, #[YS y.name,.slice (some ⟨ga,0,none⟩) (y.es++[(⟨x,yV x.rt,false⟩:Ev)]).length c],49⟩::rvB b11 x::o1) hO' λp=>by simp only [List.countP_append,List.countP_cons,List.countP_nil,List.cons_append,List.nil_append];omega
 refine x5 16 [] [⟨b9, #[YS y.name,.slice (some ⟨ga,0,none⟩) (y.es++[(⟨x,yV x.rt,false⟩:Ev)]).length c],49⟩] (λw hO=>hO.nth 1 _) (j6 60 [0,0] (YI (IntKind.i64.wrap (((y.es++[(⟨x,yV x.rt,false⟩:Ev)]).length:Int) -1))) (YI ((y.es.length:Nat):Int)) (by rw [hle1,IntWalk.i64_in _ Om];congr 1;omega) (x_i 63 [] 1 (x_i 65 [] ((82*k:Nat):Int) (x_i 66 [] ((1+82*k:Nat):Int) (x_i 67 [] ((1+82*k+81:Nat):Int) (zW [] 13 (z6 [] (λw hO=>f2 w hO.below) (fI 50070 [] 15 (b:=ga) (off:=0) rfl (y.es++[(⟨x,yV x.rt,false⟩:Ev)]).length c y.es.length 11 Om ?_))))))))
 refine j6 71 [] (Zp ga (0+(y.es.length:Int).toNat*11+10)) (Zp ga (y.es.length*11+10)) (by rw [Int.toNat_natCast,Nat.zero_add]) (x_sto 0 ⟨ga,cur,57⟩ (y.es.length*11+10) 1 (.bool (decide ((r9:Int)=1))) ([⟨ga,cur,57⟩,⟨b9, #[YS y.name,.slice (some ⟨ga,0,none⟩) (y.es++[(⟨x,yV x.rt,false⟩:Ev)]).length c],49⟩,⟨b8,ZM,49⟩]++(o2++obr)) hfit ?_)
 refine x_i 29 [] ((k+1:Nat):Int) (zK [] ([⟨b9, #[YS y.name,.slice (some ⟨ga,0,none⟩) (y.es++[(⟨x,yV x.rt,decide ((r9:Int)=1)⟩:Ev)]).length c],49⟩,⟨b8,ZM,49⟩]++([⟨ga,xB cur (y.es.length*11+10) #[.bool (decide ((r9:Int)=1))],57⟩]++(o2++obr))) (λw hO=> ?_) ?_)
 ·have hO':=hO.past 0 ([⟨ga,xB cur (y.es.length*11+10) (Value.bool (decide ((r9:Int)=1))).cells,57⟩,⟨b9, #[YS y.name,.slice (some ⟨ga,0,none⟩) (y.es++[(⟨x,yV x.rt,false⟩:Ev)]).length c],49⟩,⟨b8,ZM,49⟩]++(o2++obr))
  clear hO
  have e2:(y.es++[(⟨x,yV x.rt,false⟩:Ev)]).length=(y.es++[(⟨x,yV x.rt,decide ((r9:Int)=1)⟩:Ev)]).length:=by simp
  rw [e2] at hO'
  exact own_cnt [] hO' λp=>by
   show List.countP p ([⟨ga,xB cur (y.es.length*11+10) #[.bool (decide ((r9:Int)=1))],57⟩,⟨b9, #[YS y.name,.slice (some ⟨ga,0,none⟩) (y.es++[(⟨x,yV x.rt,decide ((r9:Int)=1)⟩:Ev)]).length c],49⟩,⟨b8,ZM,49⟩]++(o2++obr))=_
   simp only [List.countP_append,List.countP_cons,List.countP_nil,List.cons_append,List.nil_append];omega
 exact nx (k+1,⟨y.name,some ⟨ga,0,none⟩,c,y.es++[⟨x,yV x.rt,decide ((r9:Int)=1)⟩]⟩,[⟨ga,xB cur (y.es.length*11+10) #[.bool (decide ((r9:Int)=1))],57⟩],o2++obr) (most-(k+1)) [] Om ⟨⟨by omega,hNew,by simp;omega⟩,rfl⟩ Kr Kr
end
section
set_option linter.unnecessarySimpa false
theorem hit_self {e:Et}(h:(zM e.rc).1=0):vU e.rc.name e.rc.ver e=true:=by
 unfold vU oneV
 rw [(yK h).2.1,fQ]
 simp
end
end Go.Proofs.YteghandhpbmpgaaGreatDoor
section
namespace Go.Proofs
open Go.Shelf
def Tryz.laysSlF6_f81_ren:Go.Shelf.Ren:=⟨fun|6=>81|15=>144|14=>143|28=>200|29=>201|20=>192|21=>193|22=>194|23=>195|24=>196|25=>197|26=>198|27=>199|46=>242|47=>243|48=>244|49=>245|50=>246|57=>284|n=>n,fun|22=>43|24=>3|25=>45|3=>3|39=>115|0=>0|53=>223|55=>36|4=>4|46=>217|45=>216|50=>181|5=>5|9=>9|66=>257|70=>261|76=>291|77=>292|n=>n,fun|n=>n⟩
theorem Tryz.laysSlF6_f81:Go.Proofs.SlLaysF.n6 Tryz.prog Tryz.laysSlF6_f81_ren:={
 mixed:=by kernel_rfl
 f6:=⟨Tryz.f81.name,by decide,YT Tryz.func81⟩
 f14:=⟨Tryz.f143.name,by decide,YT Tryz.func143⟩
 f15:=YT Tryz.func144
 f20:=⟨Tryz.f192.name,by decide,YT Tryz.func192⟩
 f21:=⟨Tryz.f193.name,by decide,YT Tryz.func193⟩
 f22:=⟨Tryz.f194.name,by decide,YT Tryz.func194⟩
 f23:=⟨Tryz.f195.name,by decide,YT Tryz.func195⟩
 f24:=⟨Tryz.f196.name,by decide,YT Tryz.func196⟩
 f25:=⟨Tryz.f197.name,by decide,YT Tryz.func197⟩
 f26:=⟨Tryz.f198.name,by decide,YT Tryz.func198⟩
 f27:=⟨Tryz.f199.name,by decide,YT Tryz.func199⟩
 f28:=YT Tryz.func200
 f29:=YT Tryz.func201
 f46:=⟨Tryz.f242.name,by decide,YT Tryz.func242⟩
 f47:=YT Tryz.func243
 f48:=YT Tryz.func244
 f49:=⟨Tryz.f245.name,by decide,YT Tryz.func245⟩
 f50:=⟨Tryz.f246.name,by decide,YT Tryz.func246⟩
 f57:=⟨Tryz.f284.name,by decide,YT Tryz.func284⟩
 t0:=Tryz.underlying0
 a0:=Tryz.isAgg0
 z0:=Tryz.sizeOf0
 v0:=Tryz.zeroValue0
 t3:=Tryz.underlying3
 a3:=Tryz.isAgg3
 z3:=Tryz.sizeOf3
 v3:=Tryz.zeroValue3
 t4:=Tryz.underlying4
 a4:=Tryz.isAgg4
 z4:=Tryz.sizeOf4
 v4:=Tryz.zeroValue4
 t5:=Tryz.underlying5
 a5:=Tryz.isAgg5
 z5:=Tryz.sizeOf5
 v5:=Tryz.zeroValue5
 t9:=Tryz.underlying9
 a9:=Tryz.isAgg9
 z9:=Tryz.sizeOf9
 v9:=Tryz.zeroValue9
 t22:=Tryz.underlying43
 a22:=Tryz.isAgg43
 z22:=Tryz.sizeOf43
 v22:=Tryz.zeroValue43
 a24:=Tryz.isAgg3
 z24:=Tryz.sizeOf3
 t25:=Tryz.underlying45
 a25:=Tryz.isAgg45
 z25:=Tryz.sizeOf45
 v25:=Tryz.zeroValue45
 t39:=Tryz.underlying115
 a39:=Tryz.isAgg115
 z39:=Tryz.sizeOf115
 v39:=Tryz.zeroValue115
 t45:=Tryz.underlying216
 a45:=Tryz.isAgg216
 z45:=Tryz.sizeOf216
 v45:=Tryz.zeroValue216
 t46:=Tryz.underlying217
 a46:=Tryz.isAgg217
 z46:=Tryz.sizeOf217
 v46:=Tryz.zeroValue217
 t50:=Tryz.underlying181
 a50:=Tryz.isAgg181
 z50:=Tryz.sizeOf181
 v50:=Tryz.zeroValue181
 t53:=Tryz.underlying223
 a53:=Tryz.isAgg223
 z53:=Tryz.sizeOf223
 v53:=Tryz.zeroValue223
 t55:=Tryz.underlying36
 a55:=Tryz.isAgg36
 z55:=Tryz.sizeOf36
 v55:=Tryz.zeroValue36
 t66:=Tryz.underlying257
 a66:=Tryz.isAgg257
 z66:=Tryz.sizeOf257
 v66:=Tryz.zeroValue257
 t70:=Tryz.underlying261
 a70:=Tryz.isAgg261
 z70:=Tryz.sizeOf261
 v70:=Tryz.zeroValue261
 t76:=Tryz.underlying291
 a76:=Tryz.isAgg291
 z76:=Tryz.sizeOf291
 v76:=Tryz.zeroValue291
 t77:=Tryz.underlying292
 a77:=Tryz.isAgg292
 z77:=Tryz.sizeOf292
 v77:=Tryz.zeroValue292}
open Go.RowKit Go.Lib Go.Sort in
theorem Tryz.slices_SortFunc_int {α:Type}[Inhabited α](enc:α->Value)(h1:OneCell enc)(cf:α->α->Int)(hO:SWO (ltOf cf))(g:Nat)(cb:Array Value)(blk off cap:Nat)(d:Array α)(w:World)(eg:∀ args w,(callFunc g args).run Tryz.prog w= .ok (.enter g args) w)(hcmp:CmpLays1 Tryz.prog g cb enc cf blk off d.size w)(hH:Holds enc w blk off d)(hblk:blk<w.heap.size)(hsz:d.size<4611686018427387904):Calls Tryz.prog 81 #[.slice (some ⟨blk,off,none⟩) d.size cap,.func (.func g) #[] cb] w λe w'=>e= .returned (.tuple #[])∧∃ d' n os,PermIn 0 d.size d d'/\SortedIn (ltOf cf) 0 d.size d'/\w'=sortWorld enc w blk off n d' os:=Any.slices_SortFunc Tryz.laysSlF6_f81 enc h1 cf hO g cb blk off cap d w eg hcmp hH hblk hsz
def Tryz.laysSlG6_f81_ren:Go.Shelf.Ren:=⟨fun|6=>81|15=>144|14=>143|28=>200|29=>201|20=>192|21=>193|22=>194|23=>195|24=>196|25=>197|26=>198|27=>199|46=>242|47=>243|48=>244|49=>245|50=>246|57=>284|n=>n,fun|22=>43|24=>3|25=>45|3=>3|39=>115|0=>0|53=>223|55=>36|4=>4|46=>217|45=>216|50=>181|5=>5|9=>9|66=>257|70=>261|76=>291|77=>292|n=>n,fun|n=>n⟩
theorem Tryz.laysSlG6_f81:Go.Proofs.SlLaysF0.n6 Tryz.prog Tryz.laysSlG6_f81_ren:={
 mixed:=by kernel_rfl
 f6:=⟨Tryz.f81.name,by decide,YT Tryz.func81⟩
 f14:=⟨Tryz.f143.name,by decide,YT Tryz.func143⟩
 f15:=YT Tryz.func144
 f20:=⟨Tryz.f192.name,by decide,YT Tryz.func192⟩
 f21:=⟨Tryz.f193.name,by decide,YT Tryz.func193⟩
 f22:=⟨Tryz.f194.name,by decide,YT Tryz.func194⟩
 f23:=⟨Tryz.f195.name,by decide,YT Tryz.func195⟩
 f24:=⟨Tryz.f196.name,by decide,YT Tryz.func196⟩
 f25:=⟨Tryz.f197.name,by decide,YT Tryz.func197⟩
 f26:=⟨Tryz.f198.name,by decide,YT Tryz.func198⟩
 f27:=⟨Tryz.f199.name,by decide,YT Tryz.func199⟩
 f28:=YT Tryz.func200
 f29:=YT Tryz.func201
 f46:=⟨Tryz.f242.name,by decide,YT Tryz.func242⟩
 f47:=YT Tryz.func243
 f48:=YT Tryz.func244
 f49:=⟨Tryz.f245.name,by decide,YT Tryz.func245⟩
 f50:=⟨Tryz.f246.name,by decide,YT Tryz.func246⟩
 f57:=⟨Tryz.f284.name,by decide,YT Tryz.func284⟩
 t0:=Tryz.underlying0
 a0:=Tryz.isAgg0
 z0:=Tryz.sizeOf0
 v0:=Tryz.zeroValue0
 t3:=Tryz.underlying3
 a3:=Tryz.isAgg3
 z3:=Tryz.sizeOf3
 v3:=Tryz.zeroValue3
 t4:=Tryz.underlying4
 a4:=Tryz.isAgg4
 z4:=Tryz.sizeOf4
 v4:=Tryz.zeroValue4
 t5:=Tryz.underlying5
 a5:=Tryz.isAgg5
 z5:=Tryz.sizeOf5
 v5:=Tryz.zeroValue5
 t9:=Tryz.underlying9
 a9:=Tryz.isAgg9
 z9:=Tryz.sizeOf9
 v9:=Tryz.zeroValue9
 t22:=Tryz.underlying43
 a22:=Tryz.isAgg43
 z22:=Tryz.sizeOf43
 v22:=Tryz.zeroValue43
 t25:=Tryz.underlying45
 a25:=Tryz.isAgg45
 z25:=Tryz.sizeOf45
 v25:=Tryz.zeroValue45
 t39:=Tryz.underlying115
 a39:=Tryz.isAgg115
 z39:=Tryz.sizeOf115
 v39:=Tryz.zeroValue115
 t45:=Tryz.underlying216
 a45:=Tryz.isAgg216
 z45:=Tryz.sizeOf216
 v45:=Tryz.zeroValue216
 t46:=Tryz.underlying217
 a46:=Tryz.isAgg217
 z46:=Tryz.sizeOf217
 v46:=Tryz.zeroValue217
 t50:=Tryz.underlying181
 a50:=Tryz.isAgg181
 z50:=Tryz.sizeOf181
 v50:=Tryz.zeroValue181
 t53:=Tryz.underlying223
 a53:=Tryz.isAgg223
 z53:=Tryz.sizeOf223
 v53:=Tryz.zeroValue223
 t55:=Tryz.underlying36
 a55:=Tryz.isAgg36
 z55:=Tryz.sizeOf36
 v55:=Tryz.zeroValue36
 t66:=Tryz.underlying257
 a66:=Tryz.isAgg257
 z66:=Tryz.sizeOf257
 v66:=Tryz.zeroValue257
 t70:=Tryz.underlying261
 a70:=Tryz.isAgg261
 z70:=Tryz.sizeOf261
 v70:=Tryz.zeroValue261
 t76:=Tryz.underlying291
 a76:=Tryz.isAgg291
 z76:=Tryz.sizeOf291
 v76:=Tryz.zeroValue291
 t77:=Tryz.underlying292
 a77:=Tryz.isAgg292
 z77:=Tryz.sizeOf292
 v77:=Tryz.zeroValue292}
open Go.RowKit Go.Lib Go.Sort in
theorem Tryz.slices_SortFunc_none (p:Option Addr)(cap:Nat)(fv:Value)(w:World):Calls Tryz.prog 81 #[.slice p 0 cap,fv] w λe w'=>e= .returned (.tuple #[])/\w'=w:=AnyF.slices_SortFunc_none Tryz.laysSlG6_f81 p cap fv w
end Go.Proofs
end
namespace Go.Proofs.YteghandhpbmpgaaGreatDoor
open Go.RowKit
section
set_option linter.unnecessarySimpa false
def encN (i:Nat):Value:=YI (i:Int)
theorem lift_fin {n:Nat}:∀ (l:List Nat),(∀ i∈l,i<n)→∃ m:List {i:Nat//i<n},m.map (·.1)=l
 | [],_=>⟨[],rfl⟩
 |i::r,h=>by
  obtain ⟨m,e⟩:=lift_fin r λj hj=>h j (List.mem_cons_of_mem _ hj)
  exact ⟨⟨i,h i (List.mem_cons_self ..)⟩::m,by rw [List.map_cons,e]⟩
theorem swo_ver {n:Nat}{vf:Nat->Ver}(hv:∀ i,i<n->(vf i).may=true):Go.Sort.SWO (ltOf λx y:{i:Nat//i<n}=>xN (vf x.1) (vf y.1)):=by
 refine ⟨λx=> ?_,λx y z h1 h2=> ?_,λx y z h1 h2=> ?_⟩
 ·show decide (xN (vf x.1) (vf x.1)<0)=false
  rw [fQ];rfl
 ·have hx:=hv x.1 x.2
  have hy:=hv y.1 y.2
  have hz:=hv z.1 z.2
  have k1:xN (vf x.1) (vf y.1)<0:=of_decide_eq_true h1
  have k2:xN (vf y.1) (vf z.1)<0:=of_decide_eq_true h2
  show decide (xN (vf x.1) (vf z.1)<0)=true
  rw [decide_eq_true_eq]
  rcases order_on hx hy hz with q|q|⟨q1,q2⟩
  ·omega
  ·omega
  ·by_cases h0:xN (vf x.1) (vf z.1)=0
   ·have:=q2.2 h0;omega
   ·omega
 ·have hx:=hv x.1 x.2
  have hy:=hv y.1 y.2
  have hz:=hv z.1 z.2
  have k1:¬ xN (vf x.1) (vf y.1)<0:=of_decide_eq_false h1
  have k2:¬ xN (vf y.1) (vf z.1)<0:=of_decide_eq_false h2
  show decide (xN (vf x.1) (vf z.1)<0)=false
  rw [decide_eq_false_iff_not]
  have a1:=wP hx hy
  have a2:=wP hy hz
  have a3:=wP hx hz
  rcases order_on hz hy hx with q|q|⟨q1,q2⟩<;>omega
theorem take_putN {α:Type}[Inhabited α](enc:α->Value)(cur:Array Value)(d:Array α)(h:d.size<=cur.size):(Go.Sort.putCells enc 0 d cur).toList.take d.size=d.toList.map enc:=by
 apply List.ext_getElem?
 intro j
 by_cases hj:j<d.size
 ·rw [List.getElem?_take_of_lt hj,Array.getElem?_toList]
  simp [Go.Sort.putCells,hj,show j<cur.size by omega]
 ·rw [List.getElem?_take_eq_none (by omega),List.getElem?_eq_none (by simp;omega)]
theorem sorted_own {α:Type}[Inhabited α](enc:α->Value){g m:Nat}{cur:Array Value}{d:Array α}{os:Array Obj}{w:World}(hb:w.heap[g]?=some (.cells cur 3)):Own [g] w (sortWorld enc w g 0 m d os) [⟨g,Go.Sort.putCells enc 0 d cur,3⟩]:=by
 have hg:g<w.heap.size:=(Array.getElem?_eq_some_iff.1 hb).1
 have hs:(Go.Sort.putRow enc (Go.Sort.ahead w m) g 0 d).heap.size=w.heap.size:=by simp [Go.Sort.putRow,Go.Sort.mapBlock,Go.Sort.ahead]
 have hold:∀ k,k<w.heap.size->(sortWorld enc w g 0 m d os).heap[k]?=(Go.Sort.putRow enc (Go.Sort.ahead w m) g 0 d).heap[k]?:=λk hk=>Go.Sort.heap_grow_old _ _ (by rw [hs];exact hk)
 refine ⟨rfl,rfl,rfl, ?_,Nat.le_add_right _ _,λk hk hne=> ?_,λx hx=> ?_,λx hx=> .inr (by rw [List.mem_singleton] at hx;rw [hx];exact List.mem_singleton_self _),by simp⟩
 ·show w.heap.size<=((Go.Sort.putRow enc (Go.Sort.ahead w m) g 0 d).heap++os).size
  rw [Array.size_append,hs];exact Nat.le_add_right _ _
 ·rw [hold k hk]
  have:g≠k:=λe=>hne (by simp [e])
  simp [Go.Sort.putRow,Go.Sort.mapBlock,Go.Sort.ahead,Array.getElem?_modify,this]
 ·obtain rfl:x=_:=by simpa using hx
  rw [hold g hg]
  simp [Go.Sort.putRow,Go.Sort.mapBlock,Go.Sort.ahead,Array.getElem?_modify,hb,Go.Sort.onCells]
theorem isort_any (n:Nat)(vf:Nat->Ver)(hvf:∀ i,i<n->(vf i).may=true)(gf:FuncId)(cb:Array Value)(hgf:∀ args w,(callFunc gf args).run YP w= .ok (.enter gf args) w){v:Value}{l:List Nat}{ob:List Blk}{w:World}(hl:∀ i∈l,i<n)(h:Sl 3 1 v l.length (l.map encN) ob)(hO:Own (ob.map Blk.b) w w ob)(hn:l.length<=1000000)
  (hcmp:∀ w',Own (ob.map Blk.b) w w' []→∀ i j:Nat,i<n->j<n->Calls YP gf (#[encN i,encN j]++cb) w' λe w2=>e= .returned (YI (xN (vf i) (vf j)))/\Below w'.heap.size w' w2):
  YC 81 #[v,.func (.func gf) #[] cb] w λe w'=>∃ (l':List Nat) (ob':List Blk),e= .returned (.tuple #[])/\l'.Perm l/\(l'.Pairwise λi j=>¬ xN (vf j) (vf i)<0)/\Sl 3 1 v l'.length (l'.map encN) ob'/\Own (ob.map Blk.b) w w' ob'/\ob'.map Blk.b=ob.map Blk.b:=by
 by_cases h0:l=[]
 ·subst h0
  have hv:∃ p cap,v= .slice p 0 cap:=by
   rcases h.2 with ⟨rfl,_,_⟩|⟨g,cap,cur,rfl,_⟩
   ·exact ⟨_,_,rfl⟩
   ·exact ⟨_,_,rfl⟩
  obtain ⟨p,cap,rfl⟩:=hv
  exact (Tryz.slices_SortFunc_none p cap _ w).mono λe w' ⟨e1,e2⟩=>⟨[],ob,e1,List.Perm.refl _,List.Pairwise.nil,h,e2▸hO,rfl⟩
 obtain ⟨h1,h2⟩:=h
 rcases h2 with ⟨rfl,h3,rfl⟩|⟨g,cap,cur,rfl,rfl,h3,h4,h5,h6⟩
 ·exact absurd (List.eq_nil_of_length_eq_zero h3) h0
 have hn0:0<n:=by
  obtain ⟨i,hi⟩:=List.exists_mem_of_ne_nil l h0
  have:=hl i hi
  omega
 have:Inhabited {i:Nat//i<n}:=⟨⟨0,hn0⟩⟩
 obtain ⟨m,rfl⟩:=lift_fin l hl
 obtain ⟨enc,henc⟩:∃ enc:{i:Nat//i<n}->Value,enc=λx=>encN x.1:=⟨_,rfl⟩
 have hme:∀ q:List {i:Nat//i<n},(q.map (·.1)).map encN=q.map enc:=λq=>by rw [henc,List.map_map];rfl
 have hb:w.heap[g]?=some (.cells cur 3):=hO.held ⟨g,cur,3⟩ (List.mem_singleton.2 rfl)
 have hgl:g<w.heap.size:=(Array.getElem?_eq_some_iff.1 hb).1
 rw [hme,Nat.mul_one,List.length_map] at h6
 rw [List.length_map] at hn h3 ⊢
 have hH:Go.Sort.Holds enc w g 0 m.toArray:=by
  intro j hj
  have hj':j<m.length:=by simpa using hj
  refine ⟨?_,by simp [World.frozen?,hb]⟩
  have q:(cur.toList.take m.length)[j]?=(m.map enc)[j]?:=by rw [h6]
  rw [List.getElem?_take_of_lt hj'] at q
  simp only [World.cell?,hb,Nat.zero_add]
  simp only [Option.isSome_none,Bool.false_eq_true,if_false]
  rw [←Array.getElem?_toList,q]
  simp [hj']
 have hcon:=Tryz.slices_SortFunc_int enc (λx=>by rw [henc];rfl) (λx y=>xN (vf x.1) (vf y.1)) (swo_ver hvf) gf cb g 0 cap m.toArray w hgf
  (λmm os dk _ x y=>by
   have:=hcmp (sortWorld enc w g 0 mm dk os) ((sorted_own enc hb).sublist (List.nil_sublist _)) x.1 y.1 x.2 y.2
   rw [henc] at this ⊢
   exact this.mono λe w' ⟨k1,k2⟩=>⟨k1,k2.asGrow⟩) hH hgl (by simp;omega)
 rw [show m.toArray.size=m.length from by simp] at hcon
 refine hcon.mono λe w' ⟨e1,d',nn,os,hp,hs,hw⟩=> ?_
 have hsz:d'.size=m.length:=by rw [hp.1];simp
 have hdl:(d'.toList.map (·.1)).length=m.length:=by simp [hsz]
 refine ⟨d'.toList.map (·.1),[⟨g,Go.Sort.putCells enc 0 d' cur,3⟩],e1, ?_, ?_,⟨by rw [hme];simp,.inr ⟨g,cap,_,by rw [hdl],rfl,by rw [hdl];exact h3,h4,by simp [Go.Sort.putCells,h5], ?_⟩⟩,by rw [hw];exact sorted_own enc hb,rfl⟩
 ·have h2:=hp.2.2
  rw [show d'.extract 0 m.length=d' from by rw [←hsz];simp,show m.toArray.extract 0 m.length=m.toArray from by simp] at h2
  simpa using h2.map (·.1)
 ·rw [List.pairwise_map,List.pairwise_iff_getElem]
  intro i j hi hj hij
  have hj':j<d'.size:=by simpa using hj
  have:=hs i j (Nat.zero_le _) hij Om
  unfold ltOf at this
  rw [decide_eq_false_iff_not,getElem!_pos d' j hj',getElem!_pos d' i Om] at this
  simpa using this
 ·rw [hdl,Nat.mul_one,hme,←hsz]
  exact take_putN enc cur d' (by rw [h5,hsz];omega)
end
section
set_option linter.unnecessarySimpa false
def pX (l:List Et)(i:Nat):Ver:=(l[i]?.map λe=>e.rc.ver).getD Ver.zero
theorem d5 {l:List Et}{i:Nat}(hi:i<l.length):pX l i=l[i].rc.ver:=by simp [pX,hi]
def mS (l:List Et)(n:YL):Nat->List Nat
 |0=>[]
 |i+1=>if (l[i]?.map λe=>e.rc.name)=some n then mS l n i++[i] else mS l n i
theorem idx_mem {l:List Et}{n:YL}:∀ {k j:Nat},j∈mS l n k↔j<k/\(l[j]?.map λe=>e.rc.name)=some n
 |0,j=>by simp [mS]
 |k+1,j=>by
  unfold mS
  split
  ·rename_i h
   rw [List.mem_append,List.mem_singleton,idx_mem]
   constructor
   ·rintro (⟨h1,h2⟩|rfl)
    ·exact ⟨by omega,h2⟩
    ·exact ⟨Nat.lt_succ_self _,h⟩
   ·intro ⟨h1,h2⟩
    by_cases e:j=k
    ·exact .inr e
    ·exact .inl ⟨by omega,h2⟩
  ·rename_i h
   rw [idx_mem]
   constructor
   ·intro ⟨h1,h2⟩;exact ⟨by omega,h2⟩
   ·intro ⟨h1,h2⟩
    by_cases e:j=k
    ·subst e;exact absurd h2 h
    ·exact ⟨by omega,h2⟩
theorem idx_nodup {l:List Et}{n:YL}:∀ k:Nat,(mS l n k).Nodup
 |0=>List.nodup_nil
 |k+1=>by
  unfold mS
  split
  ·rw [List.nodup_append]
   exact ⟨idx_nodup k,by simp,λa ha b hb=>by rw [List.mem_singleton.1 hb];have:=(idx_mem.1 ha).1;omega⟩
  ·exact idx_nodup k
theorem idx_len {l:List Et}{n:YL}:∀ k:Nat,(mS l n k).length<=k
 |0=>Nat.le_refl _
 |k+1=>by
  unfold mS
  have:=idx_len (l:=l) (n:=n) k
  split
  ·rw [List.length_append,List.length_singleton];omega
  ·omega
theorem name_apart {s:Sh}(h:yE s){n:YL}{i j:Nat}(hi:(s.es[i]?.map λe=>e.rc.name)=some n)(hj:(s.es[j]?.map λe=>e.rc.name)=some n)(hij:i≠j):xN (pX s.es i) (pX s.es j)≠0:=by
 have key:∀ {i j:Nat},i<j->(s.es[i]?.map λe=>e.rc.name)=some n->(s.es[j]?.map λe=>e.rc.name)=some n->xN (pX s.es i) (pX s.es j)≠0:=λ{i j} hl hi hj=>by
  obtain ⟨a,ha,ea⟩:=Option.map_eq_some_iff.1 hi
  obtain ⟨b,hb,eb⟩:=Option.map_eq_some_iff.1 hj
  obtain ⟨li,rfl⟩:=List.getElem?_eq_some_iff.1 ha
  obtain ⟨lj,rfl⟩:=List.getElem?_eq_some_iff.1 hb
  have hp:=List.pairwise_iff_getElem.1 h.apart i j li lj hl
  have m1:=(yK (h.ok _ (List.getElem_mem li)).1).2.1
  have m2:=(yK (h.ok _ (List.getElem_mem lj)).1).2.1
  unfold vU oneV at hp
  rw [ea,eb,m1,m2] at hp
  rw [d5 li,d5 lj]
  simpa using hp
 rcases Nat.lt_or_gt_of_ne hij with hl|hl
 ·exact key hl hi hj
 ·intro h0
  obtain ⟨a,ha,ea⟩:=Option.map_eq_some_iff.1 hi
  obtain ⟨b,hb,eb⟩:=Option.map_eq_some_iff.1 hj
  obtain ⟨li,rfl⟩:=List.getElem?_eq_some_iff.1 ha
  obtain ⟨lj,rfl⟩:=List.getElem?_eq_some_iff.1 hb
  have m1:=(yK (h.ok _ (List.getElem_mem li)).1).2.1
  have m2:=(yK (h.ok _ (List.getElem_mem lj)).1).2.1
  refine key hl hj hi ?_
  rw [d5 li,d5 lj] at h0 ⊢
  rw [wP m1 m2,h0];rfl
def ListS (s:Sh)(n:YL)(l:List Nat):Prop:=l.Perm (mS s.es n s.es.length)/\l.Pairwise λi j=>xN (pX s.es i) (pX s.es j)<0
theorem list_strict {s:Sh}(h:yE s){n:YL}{l:List Nat}(hp:l.Perm (mS s.es n s.es.length))(hs:l.Pairwise λi j=>¬ xN (pX s.es j) (pX s.es i)<0):ListS s n l:=by
 refine ⟨hp, ?_⟩
 have hnd:l.Nodup:=hp.nodup_iff.2 (idx_nodup _)
 rw [List.pairwise_iff_getElem] at hs ⊢
 intro i j hi hj hij
 have h1:=hs i j hi hj hij
 have mi:=idx_mem.1 (hp.mem_iff.1 (List.getElem_mem hi))
 have mj:=idx_mem.1 (hp.mem_iff.1 (List.getElem_mem hj))
 have hne:l[i]≠l[j]:=λe=>by
  have:=(List.nodup_iff_pairwise_ne.1 hnd)
  exact List.pairwise_iff_getElem.1 this i j hi hj hij e
 have h2:=name_apart h mi.2 mj.2 hne
 have q:∀ {k:Nat},k<s.es.length->(pX s.es k).may=true:=λ{k} hk=>by
  rw [d5 hk];exact (yK (h.ok _ (List.getElem_mem hk)).1).2.1
 have h3:=wP (q mi.1) (q mj.1)
 omega
theorem sCmp13_any (x:Hv)(b i j:Nat)(W w:World)(hx:ShIn W W.heap.size x)(hW:YB W w)(hM:yE x.sh)(hb:w.heap[b]?=some (.cells #[YS x.name,.slice x.A x.es.length x.cap] 49))(hi:i<x.es.length)(hj:j<x.es.length):YC 82 #[YI (i:Int),YI (j:Int),.pointer (some ⟨b,0,none⟩)] w (YR (YI (xN (pX x.sh.es i) (pX x.sh.es j))) w):=by
 have hbl:b<w.heap.size:=(Array.getElem?_eq_some_iff.1 hb).1
 obtain ⟨eb,eo,hA,hel⟩:=hx.es.top.elem gQ i hi
 obtain ⟨fb,fo,hB,hel2⟩:=hx.es.top.elem gQ j hj
 have v1:∀ w2,YB w w2->(loadVar 23 ⟨eb,eo+i*11+1,none⟩).run YP w2= .ok (y9 x.es[i].rec'.ver) w2:=λw2 h=>hel w2 (hW.trans (h.mono hW.size)) _ 1 _ Kr
 have v2:∀ w2,YB w w2->(loadVar 23 ⟨fb,fo+j*11+1,none⟩).run YP w2= .ok (y9 x.es[j].rec'.ver) w2:=λw2 h=>hel2 w2 (hW.trans (h.mono hW.size)) _ 1 _ Kr
 have s1:=(hx.es.each _ (List.getElem_mem hi)).sn
 have s2:=(hx.es.each _ (List.getElem_mem hj)).sn
 have e1:pX x.sh.es i=x.es[i].rec'.ver:=by rw [d5 (by simpa [Hv.sh] using hi)];simp [Hv.sh];rfl
 have e2:pX x.sh.es j=x.es[j].rec'.ver:=by rw [d5 (by simpa [Hv.sh] using hj)];simp [Hv.sh];rfl
 rw [e1,e2]
 generalize x.es[i].rec'=p at*
 generalize x.es[j].rec'=q at*
 have hcmp:∀ w2,YC 83 #[y9 p.ver,y9 q.ver] w2 (YR (YI (xN p.ver q.ver)) w2):=λw2=>vcompareQ_any p.ver q.ver w2 s1.2.1 s1.2.2 s2.2.1 s2.2.2
 have hsl:∀ w2,YB w w2->(loadVar 47 ⟨b,0+1,none⟩).run YP w2= .ok (.slice x.A x.es.length x.cap) w2:=λw2 h=>x6 Kr ((h.block b hbl).trans hb)
 refine z8 Tryz.func82 (zD 7 [] 47 b (0+1) (.slice x.A x.es.length x.cap) (λw2 hO=>hsl w2 hO.below) ?_)
 refine zH 9 [] hA x.es.length x.cap i 11 hi (zD 12 [] 23 eb (eo+i*11+1) (y9 p.ver) (λw2 hO=>v1 w2 hO.below) ?_)
 refine zD 14 [] 47 b (0+1) (.slice x.A x.es.length x.cap) (λw2 hO=>hsl w2 hO.below) (zH 16 [] hB x.es.length x.cap j 11 hj (zD 19 [] 23 fb (fo+j*11+1) (y9 q.ver) (λw2 hO=>v2 w2 hO.below) ?_))
 exact z6 (v:=YI (xN p.ver q.ver)) [] (λw2 hO=>hcmp w2) (z7 [] (YI (xN p.ver q.ver)) λw2 hO=>⟨rfl,hO.below⟩)
theorem sList_any (x:Hv)(nm:YL)(W:World)(hx:ShIn W W.heap.size x)(hM:yE x.sh)(hK:RecLib W):YC 36 #[hvV x,YS nm] W λe w'=>∃ v ob,e= .returned v/\(∃ l:List Nat,Sl 3 1 v l.length (l.map encN) ob/\ListS x.sh nm l)/\Own [] W w' ob:=by
 have cM:∀ w,YB W w->YC 31 #[hvV x] w (YR (.bool true) w):=λw hb=>by
  have h:=fM x w (hx.on hb hb.size) (hK.on hb)
  rw [decide_eq_true hM] at h;exact h
 have hxl:x.sh.es.length=x.es.length:=by simp [Hv.sh]
 have hn64:x.es.length<=64:=hxl▸hM.few
 refine z8 Tryz.func36 (zN [] λb2=>z6 (v:= .bool true) [0] (λw hO=>cM w hO.below) ?_)
 refine zL (α:=Nat×Value×List Blk) (λ(i,v,ob)=>[(1,YS nm),(2,Zp b2 0),(5,v),(12,.slice x.A x.es.length x.cap),(13,YI (x.es.length:Int)),(14,YI (i:Int))]) (λ(i,v,ob)=>[hvB b2 x]++ob) (λ(i,v,ob) m=>(i<=x.es.length/\Sl 3 1 v (mS x.sh.es nm i).length ((mS x.sh.es nm i).map encN) ob)/\m=x.es.length-i) (0,.slice none 0 0,[]) x.es.length [0] ⟨⟨Nat.zero_le _,Sl.nil _ _⟩,rfl⟩ ?_
 rintro ⟨i,v,ob⟩ mm g kk ⟨⟨hi,hv⟩,hmm⟩ nx hkk
 subst hkk
 refine zA 15 [] ((i:Int)<(x.es.length:Int)) (λh15=> ?_) (λh15=> ?_)
 rotate_left
 ·have hie:i=x.es.length:=by omega
  subst hie
  have hall:∀ k∈mS x.sh.es nm x.es.length,k<x.es.length:=λk hk=>(idx_mem.1 hk).1
  have hvf:∀ k,k<x.es.length->(pX x.sh.es k).may=true:=λk hk=>by
   rw [d5 Om];exact (yK (hM.ok _ (List.getElem_mem Om)).1).2.1
  refine x_val 30 [] (.func (.func 82) #[] #[Zp b2 0]) (λw=>Kr) (kC (k:=81) (args:= #[v,.func (.func 82) #[] #[Zp b2 0]]) (Rr:=λu ob'=>u= .tuple #[]∧∃ l:List Nat,Sl 3 1 v l.length (l.map encN) ob'/\ListS x.sh nm l) [] ([hvB b2 x]++ob) [hvB b2 x] ob (λw hO=>hO) (λw hO=> ?_) ?_)
  ·have hg2:w.heap[b2]?=some (.cells #[YS x.name,.slice x.A x.es.length x.cap] 49):=hO.get (i:=0) rfl
   have hap:b2∉ob.map Blk.b:=by
    have:=hO.apart
    rw [List.map_append,List.nodup_append] at this
    exact λh=>this.2.2 b2 (by simp) b2 h rfl
   have hge:∀ k∈ob.map Blk.b,W.heap.size<=k:=λk hk=>by
    obtain ⟨y,hy,rfl⟩:=List.mem_map.1 hk
    exact (hO.base y (List.mem_append_right _ hy)).elim id λh=>by cases h
   refine (isort_any x.es.length (pX x.sh.es) hvf 82 #[Zp b2 0] (enters_of Tryz.func82 Kr rfl) hall hv (hO.sublist (List.sublist_append_right _ _)).lend (by have:=idx_len (l:=x.sh.es) (n:=nm) x.es.length;omega) (λw' hO' i j hi hj=> ?_)).mono λe w' ⟨l',ob',q1,q2,q3,q4,q5,_⟩=>⟨_,ob',q1,⟨rfl,l',q4,list_strict hM (hxl▸q2) q3⟩,q5⟩
   have hW2:YB W w':=hO.below.trans (hO'.belowB hge hO.size)
   exact sCmp13_any x b2 i j W w' hx hW2 hM ((hO'.kept b2 (Array.getElem?_eq_some_iff.1 hg2).1 hap).trans hg2) hi hj
  ·rintro _ ob' ⟨rfl,l,hl,hL⟩
   exact z7 [] v λw hO=>⟨v,ob',rfl,⟨l,hl,hL⟩,hO.past 1 ob'⟩
 have hj:i<x.es.length:=by omega
 obtain ⟨eb,eo,hA,hel⟩:=hx.es.top.elem gQ i hj
 have q1:∀ w,YB W w->(loadVar 57 ⟨eb,eo+i*11+0,none⟩).run YP w= .ok (evV x.es[i]) w:=λw hw=>hel w hw _ 0 _ Kr
 have hnm:(x.sh.es[i]?.map λe=>e.rc.name)=some x.es[i].rec'.name:=by simp [Hv.sh,hj];rfl
 have hid:mS x.sh.es nm (i+1)=if (some x.es[i].rec'.name:Option YL)=some nm then mS x.sh.es nm i++[i] else mS x.sh.es nm i:=by rw [mS,hnm]
 generalize x.es[i]=u at*
 refine zH 17 [] hA x.es.length x.cap i 11 hj (zD 18 [] 57 eb (eo+i*11+0) (evV u) (λw hO=>q1 w hO.below) (zB [] λb7=>yL 23 [0,0] u.rec'.name nm (λh23=> ?_) (λh23=> ?_)))
 ·rw [if_pos (by rw [h23])] at hid
  refine kG [] 1 3 #[YI (i:Int)] λbl=>(qU (m:=1) (cp:=1) [] [⟨bl, #[YI (i:Int)],3⟩,evB b7 u,hvB b2 x] ob [] 0 ([⟨bl, #[YI (i:Int)],3⟩,evB b7 u,hvB b2 x]++ob) (λw hO=>hO.cast (by simp)) hv (by have:=idx_len (l:=x.sh.es) (n:=nm) i;omega) λv' ob' hv'=>(x_i 28 [] ((i+1:Nat):Int) (zK [] ([hvB b2 x]++ob') (λw hO=> ?_) (nx (i+1,v',ob') (x.es.length-(i+1)) [] Om ⟨⟨hj,by rw [hid,List.length_append,List.length_singleton,List.map_append];exact hv'⟩,rfl⟩ Kr Kr))))
  have hO':=hO.past 0 ([⟨bl, #[YI (i:Int)],3⟩,evB b7 u,hvB b2 x]++ob'++[])
  clear hO
  exact own_cnt [⟨bl, #[YI (i:Int)],3⟩,evB b7 u] hO' λp=>by simp only [List.countP_append,List.countP_cons,List.countP_nil,List.cons_append,List.nil_append];omega
 ·rw [if_neg (by simpa using h23)] at hid
  exact x_i 28 [] ((i+1:Nat):Int) (zK [] ([hvB b2 x]++ob) (λw hO=>hO.past 1 ([hvB b2 x]++ob)) (nx (i+1,v,ob) (x.es.length-(i+1)) [] Om ⟨⟨hj,by rw [hid];exact hv⟩,rfl⟩ Kr Kr))
end
section
open Go.ChangeShapes Go.WideShapes Go.ChangeAt Go.RowKit
theorem open_texts {H:Type}{enc:TypeId×Value->H}{W:World}{base:Nat}{v:Value}{d:DataW H}{ps:List MemPlace}(hval:Value.okWide YP W .any base 75 v)
  (h:DataW.Trod enc YP W 0 (λ_=>true) true 75 v d ps):∃ l:List YL,ReadsT W W.heap.size v l/\l.length<=maxLen∧∀ x∈l,x.length<=maxLen:=by
 obtain ⟨A,len,cap,rfl⟩:=okWide_slice Tryz.underlying75 hval
 obtain ⟨fuel,hf⟩:=h
 rcases open_strings Tryz.underlying75 Tryz.underlying9 strCells1 hf with ⟨hcs,_⟩|⟨a,len',cap',ss,hcs,_,hl,hm,hz,_,hcell,hws⟩
 ·simp [Value.cells] at hcs
  obtain ⟨rfl,rfl,rfl⟩:=hcs
  exact ⟨[],⟨none,0,rfl,λh=>by cases h⟩,by simp,by simp⟩
 ·simp [Value.cells] at hcs
  obtain ⟨rfl,rfl,rfl⟩:=hcs
  simp only [if_true] at hz
  have hlen:((ss.take len).map (·.data.toList)).length=len:=by rw [List.length_map,List.length_take];omega
  refine ⟨(ss.take len).map (·.data.toList),⟨some a,cap,by rw [hlen],λh0=>⟨a,rfl, ?_,λj hj=> ?_⟩⟩,by rw [hlen];omega,λx hx=> ?_⟩
  ·have:=cell_lt (hcell 0 Om)
   rwa [pM] at this
  ·have hj2:j<ss.length:=by omega
   rw [hcell j hj2,List.getElem_map,List.getElem_take]
   simp only [List.getD,List.getElem?_eq_getElem hj2,Option.getD_some]
   rfl
  ·obtain ⟨s,hs,rfl⟩:=List.mem_map.1 hx
   have:=hws s (List.mem_of_mem_take hs)
   rw [wG];exact this
theorem powType:(Tryz.prog.globals[3]?).map (·.type)=some 335:=by kernel_rfl
theorem powNamed : Tryz.prog.globalNamed "internal/strconv.uint64pow10" = some 3 := by kernel_rfl
theorem powCells:Tryz.prog.cellsOf 335=20:=by kernel_rfl
theorem u64Cells:Tryz.prog.cellsOf 36=1:=by kernel_rfl
theorem hasTab_of {W : World} {l : List (String × DataW Unit)} (h : laidMetH YP l W) (e : (l.filter fun x => x.1 == "internal/strconv.uint64pow10") = [("internal/strconv.uint64pow10", Lib.tabData .u64 Lib.pow10Tab)]) : HasTab W := by
 have h2 := h.filter (fun x => x.1 == "internal/strconv.uint64pow10")
 rw [e] at h2
 exact Lib.tabBelow_of_tabIs (Lib.tabIs_of_head (rest:=[]) powNamed powType Tryz.underlying335 Tryz.underlying36 u64Cells powCells h2)
end
section
open Go.ChangeShapes Go.WideShapes Go.ChangeAt Go.RowKit
theorem cells_of_strs {H:Type}{enc:TypeId×Value->H}{P:Program}{w:World}{base:Nat}{sp:Nat->Bool}{held:Bool}{fuel:Nat}{t e:TypeId}{n:Nat}{cs:List Value}{ss:List YL}{p:List MemPlace}
  (ht:P.underlying t=some (.array n e)) (he:P.underlying e=some .string) (hce:P.cellsOf e=1) (hct:P.cellsOf t=n)
  (h:DataW.trod enc P w base sp held fuel t cs=some (.agg (ss.map λs=> .lit (.string s)),p)):cs=ss.map λs=>Value.string (mkS s):=by
 cases fuel with
 |zero=>simp [DataW.trod] at h
 |succ fuel=>
  simp only [DataW.trod,ht,hce,hct,Nat.mul_one] at h
  split at h
  ·rename_i hl
   obtain ⟨xs,hm,hx⟩:=Option.map_eq_some_iff.1 h
   have hxs:xs.map (·.1)=ss.map λs=>(DataW.lit (.string s):DataW H):=by
    have:=congrArg Prod.fst hx
    simpa using this
   have hxl:xs.length=n:=by simpa using Lib.mapM_length hm
   have hzl:ss.length=n:=by
    have:=congrArg List.length hxs
    simp at this
    omega
   apply List.ext_getElem?
   intro i
   by_cases hi:i<n
   ·obtain ⟨b,hb,hf⟩:=Lib.mapM_at hm i i (by simp [hi])
    obtain ⟨s,hc,rfl,_⟩:=DataW.trod_string he hf
    have h1:cs[i]?=some (.string s):=by
     have:=congrArg (·[0]?) hc
     simpa [List.getElem?_take,List.getElem?_drop] using this
    have h2:(xs.map (·.1))[i]?=some (DataW.lit (.string s.data.toList):DataW H):=by simp [hb]
    rw [hxs] at h2
    simp only [List.getElem?_map,Option.map_eq_some_iff,DataW.lit.injEq,Lit.string.injEq] at h2
    obtain ⟨z',hz',e9⟩:=h2
    rw [h1,List.getElem?_map,hz',e9]
    show some (Value.string s)=some (Value.string (mkS s.data.toList))
    rw [show mkS s.data.toList=s from by cases s;unfold mkS;simp]
   ·rw [List.getElem?_eq_none (by omega),List.getElem?_eq_none (by simp;omega)]
  ·cases h
theorem keysType:(Tryz.prog.globals[2]?).map (·.type)=some 168:=by kernel_rfl
theorem keysNamed : Tryz.prog.globalNamed "linchpin/mark.keys" = some 2 := by kernel_rfl
theorem keysCells:Tryz.prog.cellsOf 168=3:=by kernel_rfl
theorem mkLib_of {W : World} {l : List (String × DataW Unit)} (h : laidMetH YP l W) (e : (l.filter fun x => x.1 == "linchpin/mark.keys") = [("linchpin/mark.keys", .agg [.lit (.string [111, 115]), .lit (.string [97, 114, 99, 104]), .lit (.string [97, 98, 105])])]) : MkLib W := by
 have h2 := h.filter (fun x => x.1 == "linchpin/mark.keys")
 rw [e] at h2
 obtain ⟨ps,⟨g',t',cs,fuel,p,q,hg',ht',hvar,hd,_,hps⟩,_,hcell⟩:=h2
 obtain rfl:=Option.some.inj (keysNamed.symm.trans hg')
 obtain rfl:=Option.some.inj (keysType.symm.trans ht')
 have hcs:cs.toList=[[111,115],[97,114,99,104],[97,98,105]].map λs=>Value.string (mkS s):=cells_of_strs (n:=3) Tryz.underlying168 Tryz.underlying9 strCells1 keysCells hd
 have hsz:cs.size=3:=by rw [←Array.length_toList,hcs];rfl
 have hm:MemPlace.cell 2 0∈ps:=by
  rw [hps]
  refine List.mem_append_left _ (List.mem_append_left _ ?_)
  exact MemPlace.mem_row.2 ⟨0,by rw [hsz];decide,rfl⟩
 obtain ⟨⟨c,t,hb⟩,_⟩:=hcell _ _ hm
 have hv : W.var? YP "linchpin/mark.keys" = some c := by
  unfold World.var?
  rw [keysNamed]
  simp only [Option.bind_some,hb]
 have hcc:c=cs:=Option.some.inj (hv.symm.trans hvar)
 refine ⟨(Array.getElem?_eq_some_iff.1 hb).1,t, ?_⟩
 rw [hb,hcc]
 congr 2
 apply Array.toList_inj.1
 rw [hcs]
 rfl
end
section
open Go.ChangeShapes Go.WideShapes Go.ChangeAt Go.RowKit
theorem open_nums {H:Type}{enc:TypeId×Value->H}{W:World}{base:Nat}{v:Value}{d:DataW H}{ps:List MemPlace}(hval:Value.okWide YP W .any base 43 v)
  (h:DataW.Trod enc YP W 0 (λ_=>true) true 43 v d ps):∃ l:List Int,ReadsI W W.heap.size v l/\l.length<=maxLen:=by
 obtain ⟨A,len,cap,rfl⟩:=okWide_slice Tryz.underlying43 hval
 obtain ⟨fuel,hf⟩:=h
 rcases open_ints Tryz.underlying43 Tryz.underlying3 Kr hf with ⟨hcs,_⟩|⟨a,len',cap',zs,hcs,_,hl,hm,hz,_,hcell,_⟩
 ·simp [Value.cells] at hcs
  obtain ⟨rfl,rfl,rfl⟩:=hcs
  exact ⟨[],⟨none,0,rfl,λh=>by cases h⟩,by simp⟩
 ·simp [Value.cells] at hcs
  obtain ⟨rfl,rfl,rfl⟩:=hcs
  simp only [if_true] at hz
  have hlen:(zs.take len).length=len:=by rw [List.length_take];omega
  refine ⟨zs.take len,⟨some a,cap,by rw [hlen],λh0=>⟨a,rfl, ?_,λj hj=> ?_⟩⟩,by rw [hlen];omega⟩
  ·have:=cell_lt (hcell 0 Om)
   rwa [add_block] at this
  ·have hj2:j<zs.length:=by omega
   rw [hcell j hj2,List.getElem_take]
   simp only [List.getD,List.getElem?_eq_getElem hj2,Option.getD_some]
end
end Go.Proofs.YteghandhpbmpgaaGreatDoor
