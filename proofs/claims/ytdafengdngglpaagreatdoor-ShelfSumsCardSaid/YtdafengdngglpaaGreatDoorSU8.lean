import Derived.Sort.OwnSortedInts
import Derived.Below
import Derived.ChangeSame
import Derived.ProofKit
import Derived.OpenShut
import Derived.LaidSub
import Derived.Carry
import Derived.SliceStrings
import Derived.Lib.LaidTab
import Derived.Deep.DeepHandedRow
import Derived.ChangeSlices
import Derived.Test.YtdafengdngglpaaGreatDoorSU7
set_option maxRecDepth 1000000
set_option maxHeartbeats 8000000
set_option linter.unusedVariables false
set_option linter.unusedSimpArgs false
set_option linter.unnecessarySimpa false
namespace Go.Proofs.YtdafengdngglpaaGreatDoor
open Go.RowKit

section
theorem check_is {r:Rt}(h1:nmL r.name=true)(h2:r.ver.may=true)(h3:r.needs.length<=8)(h4:r.bars.length<=8)(h5:∀ n∈r.needs,g8 r.name n=0)(h6:∀ b∈r.bars,jV r.name b=0)(h7:bH r.fts=true)(h8:∀ f∈r.fts,yQ (xG r.needs) f.of=0)(h9:(kA r).length<=4096):zP r=(0,0):=by
 have hp:kZ r=(0,0):=by
  unfold kZ
  rw [gU h5,if_neg (by simp),gU h6,if_neg (by simp),if_neg (by simp [h7]),gU h8]
 unfold zP
 rw [if_neg (by simp [h1]),if_neg (by simp [h2]),if_neg Om,hp,if_neg (by simp),if_neg Om]
theorem few_all12:∀ op∈[(7:Int),6,3,1,2],∀ a:Nat,a<3→∀ b:Nat,b<2->xP (Co.print ⟨op,3,⟨(a:Int),(b:Int),0,[],[]⟩⟩)=true:=by decide+kernel
theorem few_plain {t:YL}(h:FewT t):xP t=true:=by
 rcases h with rfl|⟨c,hc,rfl⟩
 ·decide+kernel
 ·obtain ⟨a,b,ha,hb,hv⟩:=hc.v
  have e:c=⟨c.op,3,⟨(a:Int),(b:Int),0,[],[]⟩⟩:=by rw [←hv,←hc.parts]
  rw [e]
  refine few_all12 c.op ?_ a ha b hb
  rcases hc.op with e|e|e|e|e<;>rw [e]<;>decide
theorem when_all:∀ k:Nat,k<3→∀ c:Nat,c<2→∀ j:Nat,j<4->yX (yR k++sepT c++vD j)=true:=by decide+kernel
theorem when_plain {t:YL}(h:WhenT t):yX t=true:=by
 rcases h with rfl|⟨k,c,j,hk,rfl⟩
 ·decide+kernel
 ·have hj:∃ i,i<4/\vD j=vD i:=by
   by_cases h:j<4
   ·exact ⟨j,h,rfl⟩
   ·exact ⟨3,by decide,by unfold vD;rw [if_neg Om,if_neg Om,if_neg Om];rfl⟩
  have hc:∃ i,i<2/\sepT c=sepT i:=by
   by_cases h:c<2
   ·exact ⟨c,h,rfl⟩
   ·exact ⟨1,by decide,by unfold sepT;rw [if_neg Om];rfl⟩
  obtain ⟨i,hi,e⟩:=hj
  obtain ⟨d,hd,e2⟩:=hc
  rw [e,e2];exact when_all k hk d hd i hi
theorem nameT_apart:∀ a:Nat,a<5→∀ b:Nat,b<5->a≠b->x4 a≠x4 b:=by decide
theorem kind_opt:∀ j:Nat,j<4->zM ([63]++vD j)=(2,vD j,[]):=by decide+kernel
theorem kind_pull:∀ j:Nat,j<5->zM (x4 j++[47]++[120])=(3,x4 j,[120]):=by decide+kernel
theorem verG_all:∀ a:Nat,a<3→∀ b:Nat,b<2→∀ q∈[(([]:YL),([]:YL)),([114,99,46,49],[]),([],[55])],(Ver.mk a b 0 q.1 q.2).may=true/\(Ver.mk a b 0 q.1 q.2).print.length<=20:=by decide+kernel
theorem wishG_zero {own:Nat}{al:Bool}{u:Wv}(h:WishG own al u):gM (x4 (own % 5)) u.wt al=0:=by
 obtain ⟨k,hk,e⟩:=h.name
 have hne:u.name≠x4 (own % 5):=by rw [e];exact nameT_apart _ Om _ Om Om
 have hf:wX u.fs al=true:=by
  rcases h.fs with e|⟨ha,e|e⟩
  ·rw [e];cases al<;>decide
  ·rw [e,ha];decide
  ·rw [e,ha];decide
 unfold gM
 rw [if_neg (show ¬ nmL u.wt.name=false by rw [show u.wt.name=u.name from rfl,e,nameT_ok];simp),if_neg (show ¬ u.wt.name=_ from hne),if_neg (show ¬ xP u.wt.rng=false by rw [show u.wt.rng=u.rng from rfl,few_plain h.rng];simp),if_neg (show ¬ wX u.wt.fs al=false by rw [show u.wt.fs=u.fs from rfl,hf];simp)]
theorem need_zero {own:YL}{n:Nt}(h1:n.any≠[])(h2:n.any.length<=3)(h3:∀ x∈n.any,gM own x (decide (n.any.length=1))=0)(h4:yX n.wh=true)(h5:n.opt=[]\/wdL n.opt=true):g8 own n=0:=by
 unfold g8
 rw [if_neg h1,if_neg Om,if_neg (by rw [jT h3];simp),if_neg (by simp [h4]),if_neg (λh=>by
  rcases h5 with e|e
  ·exact h.1 e
  ·rw [e] at h;exact absurd h.2 (by simp))]
theorem needG_zero {own:Nat}{n:Nv}(h:NeedG own n):g8 (x4 (own % 5)) n.nt=0:=by
 have hop:n.nt.opt=[]\/wdL n.nt.opt=true:=by
  rcases h.opt with e|⟨j,_,e⟩
  ·exact .inl e
  ·exact .inr (by rw [show n.nt.opt=n.opt from rfl,e];exact wordT_ok j)
 rcases h.any with ⟨w,e,hw⟩|⟨w,u,e,hw,hu⟩
 ·have e':n.nt.any=[w.wt]:=by unfold Nv.nt;rw [e];rfl
  refine need_zero (by rw [e'];simp) (by rw [e'];simp) (λx hx=> ?_) (when_plain h.wh) hop
  rw [e'] at hx ⊢
  rw [List.mem_singleton.1 hx];exact wishG_zero hw
 ·have e':n.nt.any=[w.wt,u.wt]:=by unfold Nv.nt;rw [e];rfl
  refine need_zero (by rw [e'];simp) (by rw [e'];simp) (λx hx=> ?_) (when_plain h.wh) hop
  rw [e'] at hx ⊢
  simp only [List.mem_cons,List.not_mem_nil,or_false] at hx
  rcases hx with rfl|rfl
  ·exact wishG_zero hw
  ·exact wishG_zero hu
theorem barG_zero {own:Nat}{b:Bv}(h:BarG own b):jV (x4 (own % 5)) b.bt=0:=by
 obtain ⟨k,hk,e⟩:=h.name
 have hne:b.name≠x4 (own % 5):=by rw [e];exact nameT_apart _ Om _ Om Om
 unfold jV
 rw [if_neg (show ¬ nmL b.bt.name=false by rw [show b.bt.name=b.name from rfl,e,nameT_ok];simp),if_neg (show ¬ b.bt.name=_ from hne),if_neg (show ¬ xP b.bt.rng=false by rw [show b.bt.rng=b.rng from rfl,few_plain h.rng];simp),if_neg (show ¬ yX b.bt.wh=false by rw [show b.bt.wh=b.wh from rfl,when_plain h.wh];simp)]
theorem item_zero {own:Nat}{keep:Nat->Bool}{x:Rv}(h:RecG own keep x){s:YL}(hs:ItemG x.needs keep s):xG x.rt.needs s=0/\s.length<=7:=by
 unfold xG wordOf
 rcases hs with ⟨m,hm,hne,rfl⟩|⟨m,hm,w,hw,rfl⟩|⟨j,hj,hk,rfl⟩
 ·rcases (h.needs m hm).opt with e|⟨j,hj,e⟩
  ·exact absurd e hne
  ·have ho:optR x.rt.needs m.opt=true:=by
    unfold optR
    exact List.any_eq_true.2 ⟨m.nt,List.mem_map_of_mem hm,decide_eq_true rfl⟩
   have h4:=wordT_four j
   rw [e] at ho ⊢
   rw [kind_opt j hj]
   refine ⟨?_,by rw [List.length_append];simp only [List.length_cons,List.length_nil];omega⟩
   rw [if_neg (λq=>by rw [ho] at q;exact absurd q.2 (by simp)),if_neg (λq=>absurd (show (2:Int)=3 from q.1) (by decide))]
 ·have key:∃ a,WishG own a w:=by
   rcases (h.needs m hm).any with ⟨u,e,hu⟩|⟨u,z,e,_,_⟩
   ·rw [hw] at e;injection e with e1 _;exact ⟨true,e1▸hu⟩
   ·rw [hw] at e;simp at e
  obtain ⟨a,hu⟩:=key
  obtain ⟨k,hk,e⟩:=hu.name
  have hp:pulR x.rt.needs w.name=true:=by
   unfold pulR
   refine List.any_eq_true.2 ⟨m.nt,List.mem_map_of_mem hm, ?_⟩
   unfold pulN Nv.nt
   rw [hw]
   exact decide_eq_true rfl
  have h4:=nameT_len ((own+1+k) % 5)
  rw [e] at hp ⊢
  rw [kind_pull _ Om]
  refine ⟨?_,by simp only [List.length_append,List.length_cons,List.length_nil];omega⟩
  rw [if_neg (λq=>absurd (show (3:Int)=2 from q.1) (by decide)),if_neg (λq=>by rw [hp] at q;exact absurd q.2 (by simp))]
 ·obtain ⟨_,k1,_⟩:=nmF_word j hj
  rw [k1]
  refine ⟨by rw [if_neg (λq=>absurd q.1 (by decide)),if_neg (λq=>absurd q.1 (by decide))], ?_⟩
  unfold nmF dfl
  repeat' split
  all_goals simp
theorem rec_good {own:Nat}{keep:Nat->Bool}{x:Rv}(h:RecG own keep x):zP x.rt=(0,0)/\(kA x.rt).length<=3000:=by
 have hn:nmL x.rt.name=true:=by rw [show x.rt.name=x.name from rfl,h.name];exact nameT_ok _
 obtain ⟨a,b,ha,hb,e1,e2,e3⟩:=h.ver
 have hv:x.rt.ver.may=true/\x.rt.ver.print.length<=20:=by
  have e:x.rt.ver=Ver.mk a b 0 x.pre x.bld:=by show Ver.mk x.maj x.min x.pat x.pre x.bld=_;rw [e1,e2,e3]
  rw [e]
  refine verG_all a ha b hb (x.pre,x.bld) ?_
  rcases h.pb with ⟨e,e'⟩|⟨e,e'⟩|⟨e,e'⟩<;>rw [e,e']<;>simp
 have hN:∀ n∈x.rt.needs,g8 x.rt.name n=0:=λn hn=>by
  obtain ⟨m,hm,rfl⟩:=List.mem_map.1 hn
  rw [show x.rt.name=x.name from rfl,h.name];exact needG_zero (h.needs m hm)
 have hB:∀ n∈x.rt.bars,jV x.rt.name n=0:=λn hn=>by
  obtain ⟨m,hm,rfl⟩:=List.mem_map.1 hn
  rw [show x.rt.name=x.name from rfl,h.name];exact barG_zero (h.bars m hm)
 have hF:∀ f∈x.rt.fts,yQ (xG x.rt.needs) f.of=0/\(gE f).length<=57:=λf hf=>by
  obtain ⟨y,hy,rfl⟩:=List.mem_map.1 hf
  have hg:=h.fts.each y hy
  refine ⟨jT λs hs=>(item_zero h (hg.all s hs)).1, ?_⟩
  have hnm:y.name.length<=7:=by
   have:y.name∈x.fts.map Fv.name:=List.mem_map_of_mem hy
   rw [h.fts.names] at this
   obtain ⟨j,hj,e⟩:=List.mem_map.1 this
   rw [←e]
   unfold nmF dfl
   repeat' split
   all_goals simp
  have:=jn_most 32 7 (l:=kN::y.name::y.of) λs hs=>by
   rcases List.mem_cons.1 hs with rfl|hs
   ·decide
   ·rcases List.mem_cons.1 hs with rfl|hs
    ·exact hnm
    ·exact (item_zero h (hg.all s hs)).2
  have hl:=hg.len
  show (zF 32 (kN::y.name::y.of)++[10]).length<=57
  simp only [List.length_append,List.length_cons,List.length_nil] at this ⊢
  omega
 have l1:x.rt.needs.length<=2:=by rw [show x.rt.needs.length=x.needs.length from List.length_map ..];exact h.nlen
 have l2:x.rt.bars.length<=1:=by rw [show x.rt.bars.length=x.bars.length from List.length_map ..];exact h.blen
 have l3:x.rt.fts.length<=4:=by
  have e:=congrArg List.length h.fts.names
  rw [List.length_map,List.length_map] at e
  have:=List.length_filter_le keep (List.range 4)
  rw [List.length_range] at this
  rw [show x.rt.fts.length=x.fts.length from List.length_map ..];omega
 have hT:(kA x.rt).length<=3000:=by
  have k1:=mJ kT 900 (l:=x.rt.needs) λn hx=>needT_short (hN n hx)
  have k2:=mJ wM 300 (l:=x.rt.bars) λn hx=>barT_short (hB n hx)
  have k3:=mJ gE 57 (l:=x.rt.fts) λf hx=>(hF f hx).2
  have k4:=fX hn
  unfold kA jC
  simp only [List.length_append,txPack,List.length_cons,List.length_nil];omega
 exact ⟨check_is hn hv.1 Om Om hN hB (feats_may h) (λf hf=>(hF f hf).1) Om,hT⟩
end
section
def moreV (r:Rt):Rt:={r with ver:={r.ver with maj:=r.ver.maj+1}}
def bareR12 (r:Rt):Rt:={r with fts:=[]}
def zoo:Bt:=⟨[122,111,111],[42],[]⟩
end
section
set_option linter.unnecessarySimpa false
structure MadeR (x:Rv)(ob:List Blk):Prop where
 mem:RecO x ob
 gen:∃ own keep,RecG own keep x
 chk:zP x.rt=(0,0)
 len:(kA x.rt).length<=3000
 bnd:BndR x.rt
 few:FewR x.rt 4096
theorem made_of {x:Rv}{ob:List Blk}{own:Nat}{keep:Nat->Bool}(h:RecG own keep x)(hR:RecO x ob):MadeR x ob:=by
 obtain ⟨g1,g2⟩:=rec_good h
 have hb:=chk_bnd (r:=x.rt) (by rw [g1])
 exact ⟨hR,⟨own,keep,h⟩,g1,g2,hb.1,hb.2⟩
theorem MadeR.inn {x:Rv}{ob L:List Blk}{M:List Nat}{W w:World}(h:MadeR x ob)(hO:Own M W w L)(hs:∀ b∈ob,b∈L):RcIn w w.heap.size x:=h.mem.inn hO hs h.bnd h.few
end
section
set_option linter.unnecessarySimpa false
structure MadeS (y:Hv)(o1 o2:List Blk):Prop where
 may:yT y.sh
 name:y.name=oneN
 own:LsO 53 11 evC esO y.A y.cap y.es o1 o2
 gen:∀ e∈y.es,∃ own keep,RecG own keep e.rec'
theorem MadeS.sho {y:Hv}{o1 o2:List Blk}(h:MadeS y o1 o2):ShO y (o1++o2):=⟨o1,o2,rfl,h.own⟩
theorem LsO.more {A A':Option Addr}{c c':Nat}{xs:List Ev}{o1 o1' o2 ob:List Blk}{x:Ev}(h:LsO 53 11 evC esO A c xs o1 o2)(ht:Sl 53 11 (.slice A' (xs.length+1) c') (xs.length+1) ((xs++[x]).flatMap evC) o1')(hx:esO x ob):LsO 53 11 evC esO A' c' (xs++[x]) o1' (o2++ob):=
 h.add (by rw [List.flatMap_append,List.flatMap_singleton] at ht;exact ht) hx
theorem shelf_gen (v:Value)(l:List Int)(most:Nat)(W:World)(hv:ReadsI W W.heap.size v l)(hl:l.length<=9223372036854775807)(hm:most<=8):YC 40 #[v,YI 0,.string ⟨#[111,110,101]⟩,YI (most:Int)] W λe w'=>∃ v' ob,e= .returned v'/\(∃ y o1 o2,v'=hvV y/\ob=o1++o2/\MadeS y o1 o2/\y.es.length<=most)/\Own [] W w' ob:=by
 obtain ⟨n,hn,hnm⟩:=xN (atL l 0) (most+1) Om
 have f0:=gD hv hl 0 ((most+1:Nat):Int) Om Om Om hn
 refine z8 Tryz.func40 (zB [] λb8=>zB [] λb9=> ?_)
 refine zL (α:=Nat×Hv×List Blk×List Blk) (λ(k,y,o1,o2)=>[(0,v),(1,YI 0),(3,YI (most:Int)),(8,Zp b8 0),(9,Zp b9 0),(10,YI (k:Int))]) (λ(k,y,o1,o2)=>[hvB b9 y,⟨b8,ZM,43⟩]++(o1++o2)) (λ(k,y,o1,o2) m=>(k<=most/\MadeS y o1 o2/\y.es.length<=k)/\m=most-k) (0,s0v,[],[]) most [0] ⟨⟨Nat.zero_le _,⟨may0,rfl,LsO.nil,λe h=>by cases h⟩,Nat.le_refl _⟩,rfl⟩ ?_
 rintro ⟨k,y,o1,o2⟩ mm g kk ⟨⟨hk,hM,hlen⟩,hmm⟩ nx hkk
 subst hkk
 have hfin:∀ w,Own [] W w (o1++o2)→∃ v' ob,Ending.returned (hvV y)= .returned v'/\(∃ y o1 o2,v'=hvV y/\ob=o1++o2/\MadeS y o1 o2/\y.es.length<=most)/\Own [] W w ob:=λw hO=>⟨_,_,rfl,⟨y,o1,o2,rfl,rfl,hM,by omega⟩,hO⟩
 refine zA 18 [] ((k:Int)<(most:Int)) (λh18=>x_i 24 [] ((most+1:Nat):Int) (z6 [] (λw hO=>f0 w hO.below) (zA 26 [] ((k:Int)<(n:Int)) (λh26=> ?_) (λh26=> ?_)))) (λh18=> ?_)
 rotate_left
 ·exact qL [0,1] 1 (hvV y) λw hO=>hfin w (hO.past 2 _)
 ·exact qL [0,1] 1 (hvV y) λw hO=>hfin w (hO.past 2 _)
 obtain ⟨q,hq,hq4⟩:=xN (atL l (1+82*k+80)) 4 (by decide)
 obtain ⟨r9,hr9,_⟩:=xN (atL l (1+82*k+81)) 9 (by decide)
 have f1:=gD hv hl (1+82*k+80) 4 Om (by decide) (by decide) hq
 have f2:=gD hv hl (1+82*k+81) 9 Om (by decide) (by decide) hr9
 refine x_i 32 [] 1 (x_i 34 [] ((82*k:Nat):Int) (x_i 35 [] ((1+82*k:Nat):Int) (x_i 38 [] 1 (x_i 40 [] ((82*k:Nat):Int) (x_i 41 [] ((1+82*k:Nat):Int) (x_i 42 [] ((1+82*k+80:Nat):Int) (z6 [] (λw hO=>f1 w hO.below) (x_i 44 [] ((1+q:Nat):Int) (yC (R:=λv ob=>∃ x,v=rvV x/\(∃ own keep,RecG own keep x)/\MadeR x ob) [] (λw hO=>(record_gen v l (1+82*k) (1+q) w ((hv.below hO.below).more hO.below.size) hl Om Om).mono λe w' ⟨x,ob,q1,⟨q2,q3⟩,q4⟩=>⟨_,ob,q1,⟨x,rfl,⟨_,_,q2⟩,made_of q2 q3⟩,q4⟩) ?_)))))))))
 rintro _ obr ⟨x,rfl,hG,hX⟩
 have hc0:(zP x.rt).1=0:=by rw [hX.chk]
 have hyl:y.sh.es.length=y.es.length:=by simp [Hv.sh]
 have hpz:=put_is hM.may hc0 Om
 refine zB [] λb11=>yC (k:=34) (args:= #[hvV y,rvV x]) (R:=PutR13 y x) [0,1,0] (λw hO=> ?_) ?_
 ·have hO':=hO.past 3 ((o1++o2)++obr)
  clear hO
  exact r13Put_any y x w (hM.sho.inn hO' (λb hb=>List.mem_append_left _ hb) hM.may) (hX.inn hO' (λb hb=>List.mem_append_right _ hb))
 rintro v3 o3 hP
 rcases hP with ⟨hp0,A,c,rfl,hS⟩|⟨hp0,rfl,rfl⟩
 rotate_left
 ·generalize (fE y.sh x.rt).2=p at*
  refine zB [] λb12=>zA 53 [0] (p=0) (λh=>absurd h hp0) (λ_=>x_i 29 [] ((k+1:Nat):Int) (zK [] ([hvB b9 y,⟨b8,ZM,43⟩]++(o1++o2)) (λw hO=>own_cnt obr (hO.past 2 ([hvB b9 y,⟨b8,ZM,43⟩]++(o1++o2)++obr++[])) λf=>by simp only [List.countP_append,List.countP_cons,List.countP_nil,List.cons_append,List.nil_append];omega) (nx (k+1,y,o1,o2) (most-(k+1)) [] Om ⟨⟨by omega,hM,by omega⟩,rfl⟩ Kr Kr)))
 have hle1:(y.es++[(⟨x,yZ x.rt,false⟩:Ev)]).length=y.es.length+1:=by simp
 obtain ⟨ga,cur,rfl,rfl,_⟩:=Sl.block hS Om
 rw [hle1] at hS
 obtain ⟨hS2,hfit⟩:=Sl.putLast qX hS ⟨x,yZ x.rt,decide ((r9:Int)=1)⟩ 10 #[.bool (decide ((r9:Int)=1))] (by show 10+1<=11;omega) rfl
 have hpl:zR y.sh.es x.rt.name x.rt.ver= -1:=by
  apply Classical.byContradiction
  intro h
  rw [hpz,if_neg h] at hp0
  exact absurd hp0 (by decide)
 have hMay:yT (⟨y.name,some ⟨ga,0,none⟩,c,y.es++[⟨x,yZ x.rt,decide ((r9:Int)=1)⟩]⟩:Hv).sh:=by
  refine may_core (s:=⟨y.sh.name,y.sh.es++[⟨x.rt,yZ x.rt,false⟩]⟩) rfl ?_ (put_may hM.may hc0 hpl Om)
  simp [Hv.sh,Ev.et,p5]
 have hNew:MadeS ⟨y.name,some ⟨ga,0,none⟩,c,y.es++[⟨x,yZ x.rt,decide ((r9:Int)=1)⟩]⟩ [⟨ga,yK cur (y.es.length*11+10) #[.bool (decide ((r9:Int)=1))],53⟩] (o2++obr):=⟨hMay,hM.name,hM.own.more hS2 hX.mem,λe he=>by
  rcases List.mem_append.1 he with he|he
  ·exact hM.gen e he
  ·rw [List.mem_singleton.1 he];exact hG⟩
 refine zB [] λb12=>zK [0,0,2] ([⟨ga,cur,53⟩,⟨b9, #[.string (mkS y.name),.slice (some ⟨ga,0,none⟩) (y.es++[(⟨x,yZ x.rt,false⟩:Ev)]).length c],43⟩,⟨b8,ZM,43⟩]++(o2++obr)) (λw hO=> ?_) ?_
 ·have hO':=hO.past 0 ([⟨b12, #[.string (mkS y.name),.slice (some ⟨ga,0,none⟩) (y.es++[(⟨x,yZ x.rt,false⟩:Ev)]).length c],43⟩,rvB b11 x,⟨b9, #[.string (mkS y.name),.slice (some ⟨ga,0,none⟩) (y.es++[(⟨x,yZ x.rt,false⟩:Ev)]).length c],43⟩,⟨b8,ZM,43⟩]++(o1++o2)++obr++[⟨ga,cur,53⟩])
  clear hO
  exact own_cnt (⟨b12, #[.string (mkS y.name),.slice (some ⟨ga,0,none⟩) (y.es++[(⟨x,yZ x.rt,false⟩:Ev)]).length c],43⟩::rvB b11 x::o1) hO' λp=>by simp only [List.countP_append,List.countP_cons,List.countP_nil,List.cons_append,List.nil_append];omega
 refine x5 16 [] [⟨b9, #[.string (mkS y.name),.slice (some ⟨ga,0,none⟩) (y.es++[(⟨x,yZ x.rt,false⟩:Ev)]).length c],43⟩] (λw hO=>hO.nth 1 _) (j6 60 [0,0] (YI (IntKind.i64.wrap (((y.es++[(⟨x,yZ x.rt,false⟩:Ev)]).length:Int) -1))) (YI ((y.es.length:Nat):Int)) (by rw [hle1,IntWalk.i64_in _ Om];congr 1;omega) (x_i 63 [] 1 (x_i 65 [] ((82*k:Nat):Int) (x_i 66 [] ((1+82*k:Nat):Int) (x_i 67 [] ((1+82*k+81:Nat):Int) (zY [] 13 (z6 [] (λw hO=>f2 w hO.below) (fO 50070 [] 15 (b:=ga) (off:=0) rfl (y.es++[(⟨x,yZ x.rt,false⟩:Ev)]).length c y.es.length 11 Om ?_))))))))
 refine j6 71 [] (Zp ga (0+(y.es.length:Int).toNat*11+10)) (Zp ga (y.es.length*11+10)) (by rw [Int.toNat_natCast,Nat.zero_add]) (x_sto 0 ⟨ga,cur,53⟩ (y.es.length*11+10) 1 (.bool (decide ((r9:Int)=1))) ([⟨ga,cur,53⟩,⟨b9, #[.string (mkS y.name),.slice (some ⟨ga,0,none⟩) (y.es++[(⟨x,yZ x.rt,false⟩:Ev)]).length c],43⟩,⟨b8,ZM,43⟩]++(o2++obr)) hfit ?_)
 refine x_i 29 [] ((k+1:Nat):Int) (zK [] ([⟨b9, #[.string (mkS y.name),.slice (some ⟨ga,0,none⟩) (y.es++[(⟨x,yZ x.rt,decide ((r9:Int)=1)⟩:Ev)]).length c],43⟩,⟨b8,ZM,43⟩]++([⟨ga,yK cur (y.es.length*11+10) #[.bool (decide ((r9:Int)=1))],53⟩]++(o2++obr))) (λw hO=> ?_) ?_)
 ·have hO':=hO.past 0 ([⟨ga,yK cur (y.es.length*11+10) (Value.bool (decide ((r9:Int)=1))).cells,53⟩,⟨b9, #[.string (mkS y.name),.slice (some ⟨ga,0,none⟩) (y.es++[(⟨x,yZ x.rt,false⟩:Ev)]).length c],43⟩,⟨b8,ZM,43⟩]++(o2++obr))
  clear hO
  have e2:(y.es++[(⟨x,yZ x.rt,false⟩:Ev)]).length=(y.es++[(⟨x,yZ x.rt,decide ((r9:Int)=1)⟩:Ev)]).length:=by simp
  rw [e2] at hO'
  exact own_cnt [] hO' λp=>by
   show List.countP p ([⟨ga,yK cur (y.es.length*11+10) #[.bool (decide ((r9:Int)=1))],53⟩,⟨b9, #[.string (mkS y.name),.slice (some ⟨ga,0,none⟩) (y.es++[(⟨x,yZ x.rt,decide ((r9:Int)=1)⟩:Ev)]).length c],43⟩,⟨b8,ZM,43⟩]++(o2++obr))=_
   simp only [List.countP_append,List.countP_cons,List.countP_nil,List.cons_append,List.nil_append];omega
 exact nx (k+1,⟨y.name,some ⟨ga,0,none⟩,c,y.es++[⟨x,yZ x.rt,decide ((r9:Int)=1)⟩]⟩,[⟨ga,yK cur (y.es.length*11+10) #[.bool (decide ((r9:Int)=1))],53⟩],o2++obr) (most-(k+1)) [] Om ⟨⟨by omega,hNew,by simp;omega⟩,rfl⟩ Kr Kr
end
section
set_option linter.unnecessarySimpa false
theorem place_core {l m:List Et}(h:l.map p5=m.map p5)(n:YL)(v:Ver):zR l n v=zR m n v:=by
 have key:∀ l:List Et,l.findIdx? (bS n v)=(l.map p5).findIdx? (λc=>decide (c.1.name=n) && oneV c.1.ver v):=λl=>by rw [List.findIdx?_map];rfl
 unfold zR
 rw [key l,h,←key m]
theorem place_own {s:Sh}(h:yT s){i:Nat}(hi:i<s.es.length):zR s.es s.es[i].rc.name s.es[i].rc.ver=(i:Int):=
 (place_self hi (hit_self (h.ok _ (List.getElem_mem hi)).1)).2 (place_none.2 λe he=>by
  obtain ⟨j,hj,rfl⟩:=List.mem_take_iff_getElem.1 he
  exact List.pairwise_iff_getElem.1 h.apart j i Om hi Om)
theorem yank_own {z:Hv}{oz L:List Blk}{W w:World}{n:YL}{v:Ver}{i:Nat}(on:Bool)(hO:Own [] W w L)(hs:∀ b∈oz,b∈L)(hz:ShO z oz)(hM:yT z.sh)(hp:zR z.sh.es n v=(i:Int))(h3:v.pre.length<=1000000)(h4:v.build.length<=1000000)(hK:RecLib w):YC 35 #[hvV z,.string (mkS n),yN v,.bool on] w λe w'=>∃ v o,e= .returned v/\(∃ z2:Hv,v= .tuple #[hvV z2,YI 0]/\z2.sh=⟨z.name,bN z.sh.es i on⟩/\ShO z2 o)/\Own [] w w' o:=by
 refine (sYank_any z n v on w (hz.inn hO hs hM) h3 h4 hK).mono λe w' ⟨v,o,q1,⟨z2,q2,q3,q4⟩,q5⟩=>⟨v,o,q1, ?_,q5⟩
 rw [yank_is hM,if_neg (by rw [hp];omega)] at q2 q3
 rw [hp,Int.toNat_natCast] at q3
 exact ⟨z2,q2,q3,q4⟩
end
section
set_option linter.unnecessarySimpa false
def encN (i:Nat):Value:=YI (i:Int)
end
section
set_option linter.unnecessarySimpa false
def verE (l:List Et)(i:Nat):Ver:=(l[i]?.map λe=>e.rc.ver).getD Ver.zero
def idxE (l:List Et)(n:YL):Nat->List Nat
 |0=>[]
 |i+1=>if (l[i]?.map λe=>e.rc.name)=some n then idxE l n i++[i] else idxE l n i
def ListS (s:Sh)(n:YL)(l:List Nat):Prop:=l.Perm (idxE s.es n s.es.length)/\l.Pairwise λi j=>vQ (verE s.es i) (verE s.es j)<0
end
section
set_option linter.unnecessarySimpa false
theorem nil_not:¬ yT w9:=λh=>by have:=h.name;revert this;decide
def etP (r:Rt):Et:=⟨r,yZ r,false⟩
theorem put_or {s:Sh}{r:Rt}(h:yT s\/s=w9):yT (fE s r).1\/(fE s r).1=w9:=by
 rcases h with h|rfl
 ·unfold fE
  rw [if_pos h]
  by_cases hc:(zP r).1=0
  ·rw [if_pos hc]
   by_cases hp:zR s.es r.name r.ver= -1
   ·rw [if_pos hp]
    by_cases hl:s.es.length=64
    ·rw [if_pos hl];exact .inr rfl
    ·rw [if_neg hl];exact .inl (put_may h hc hp (by have:=h.few;omega))
   ·rw [if_neg hp];exact .inr rfl
  ·rw [if_neg hc];exact .inr rfl
 ·unfold fE;rw [if_neg nil_not];exact .inr rfl
theorem ShO.innN {y:Hv}{ob L:List Blk}{M:List Nat}{W w:World}(h:ShO y ob)(hO:Own M W w L)(hs:∀ b∈ob,b∈L)(hM:yT y.sh\/y.sh=w9):ShIn w w.heap.size y:=by
 rcases hM with hM|hM
 ·exact h.inn hO hs hM
 ·obtain ⟨n,A,c,es⟩:=y
  simp only [Hv.sh,w9,Sh.mk.injEq,List.map_eq_nil_iff] at hM
  obtain ⟨rfl,rfl⟩:=hM
  exact ⟨⟨λh=>absurd h (by simp),(λe h=>by cases h),by simp⟩,by simp,by simp⟩
end
section
theorem d9Pair_any (a b:UInt64)(W:World):YC 127 #[.int .u64 (a.toNat:Int),.int .u64 (b.toNat:Int)] W (YR (.int .u64 ((kL a b).toNat:Int)) W):=by
 refine Z2 (n:=30) Tryz.func127 rfl (ZO (Zv (.int .u64 0) (ZR (Za (.agg #[.int .u8 0,.int .u8 0,.int .u8 0,.int .u8 0,.int .u8 0,.int .u8 0,.int .u8 0,.int .u8 0,.int .u8 0,.int .u8 0,.int .u8 0,.int .u8 0,.int .u8 0,.int .u8 0,.int .u8 0,.int .u8 0]) (λb1=>ZN (zV ?_))))))
 refine ZO (Zv (YI 0) (ZN (kH (pL (L':=[⟨b1,pS (wH [] 8++wH [] 8),174⟩]) (by show [(⟨b1,_,_⟩:Blk)]=_;congr 2) (dD (λL f m=>∃ (k:Nat) (xs:YL) (ys:YL) (j:Nat->Value),(xs=byK a k/\ys=byK b k/\k<=8)/\L=[⟨b1,pS (wH xs 8++wH ys 8),174⟩]/\f=mP j [(0,.int .u64 (a.toNat:Int)),(1,.int .u64 (b.toNat:Int)),(5,Zp b1 0),(8,YI (k:Int))]/\m=8-k) (8-0) ⟨0,[],[],_,⟨rfl,rfl,by omega⟩,rfl,ZU,rfl⟩ ?_)))))
 rintro L f m ⟨k,xs,ys,j,hrel,rfl,rfl,rfl⟩
 obtain ⟨hxs,hys,hk⟩:=hrel
 refine zV (zT ?_)
 by_cases h1:(k:Int)<8
 ·have hk8:k<8:=by omega
  have hxl:xs.length=k:=by rw [hxs];exact pQ _ _
  have hyl:ys.length=k:=by rw [hys];exact pQ _ _
  have hpl:(wH xs 8).length=8:=padB_len Om
  have hql:(wH ys 8).length=8:=padB_len Om
  have hpl2:(wH (xs++[(a>>>UInt64.ofNat (8*(7-k))).toUInt8]) 8).length=8:=padB_len (by rw [List.length_append,List.length_singleton];omega)
  have hsum:(wH xs 8++wH ys 8).length=16:=by rw [List.length_append];omega
  have hsum2:(wH (xs++[(a>>>UInt64.ofNat (8*(7-k))).toUInt8]) 8++wH ys 8).length=16:=by rw [List.length_append];omega
  refine Zg h1 (ZN (zV (Zt (ZB (zV (kH (ZO (Zv (YI (k:Int)) ?_))))))))
  refine Zv (YI (k:Int)) (ZR (Zv (YI (k:Int)) (Zu (k:= .i64) ((7:Int) -(k:Int)) (IntWalk.i64_in _ Om) (Zu (k:= .i64) ((8:Int)*((7:Int) -(k:Int))) (IntWalk.i64_in _ Om) (Zv (YI ((8:Int)*((7:Int) -(k:Int)))) (ZN (zV ?_)))))))
  refine zT (Zv (YI (k:Int)) (Zv (.int .u64 (a.toNat:Int)) (Zv (YI ((8:Int)*((7:Int) -(k:Int)))) (yW (.int .u64 ((a>>>UInt64.ofNat (8*(7-k))).toNat:Int)) Kr (run_shr64z (x:=a) (yk:= .i64) (n:=8*(7-k)) (z:=(8:Int)*((7:Int) -(k:Int))) rfl Kr Kr Om Om) (yW (.int .u8 ((((a>>>UInt64.ofNat (8*(7-k)))).toUInt8).toNat:Int)) Kr (run_to8 (x:=(a>>>UInt64.ofNat (8*(7-k)))) rfl Kr (by rw [Tryz.underlying45];rfl) Tryz.underlying5) (yW (Zp b1 k) Kr (run_ixarr (b:=b1) (off:=0) (k:= .i64) (j:=(k:Int)) (n:=16) (e:=5) (sz:=1) rfl Kr Kr Kr Kr Om Om Om) (s_storeS 0 ⟨b1,(pS (wH xs 8++wH ys 8)),174⟩ (off:=k) (.int .u8 ((((a>>>UInt64.ofNat (8*(7-k)))).toUInt8).toNat:Int)) 1 Kr rfl rfl Kr Kr Kr Kr Kr (by show _+1<=(pS _).size;rw [arrC_size];omega) Kr (wD (L':=[⟨b1,pS (wH (xs++[(a>>>UInt64.ofNat (8*(7-k))).toUInt8]) 8++wH ys 8),174⟩]) (by show [(⟨b1,yK _ _ _,_⟩:Blk)]=_;rw [arrC_set Om,pad2_fst hxl hk8]) (ZN (zT ?_))))))))))
  refine Zv (YI (k:Int)) (Zu (k:= .i64) ((8:Int)+(k:Int)) (IntWalk.i64_in _ Om) (Zv (.int .u64 (b.toNat:Int)) (Zv (YI ((8:Int)*((7:Int) -(k:Int)))) (yW (.int .u64 ((b>>>UInt64.ofNat (8*(7-k))).toNat:Int)) Kr (run_shr64z (x:=b) (yk:= .i64) (n:=8*(7-k)) (z:=(8:Int)*((7:Int) -(k:Int))) rfl Kr Kr Om Om) (yW (.int .u8 ((((b>>>UInt64.ofNat (8*(7-k)))).toUInt8).toNat:Int)) Kr (run_to8 (x:=(b>>>UInt64.ofNat (8*(7-k)))) rfl Kr (by rw [Tryz.underlying45];rfl) Tryz.underlying5) (yW (Zp b1 (8+k)) Kr (run_ixarr (b:=b1) (off:=0) (k:= .i64) (j:=(8:Int)+(k:Int)) (n:=16) (e:=5) (sz:=1) rfl Kr Kr Kr Kr Om Om Om) (s_storeS 0 ⟨b1,(pS (wH (xs++[(a>>>UInt64.ofNat (8*(7-k))).toUInt8]) 8++wH ys 8)),174⟩ (off:=8+k) (.int .u8 ((((b>>>UInt64.ofNat (8*(7-k)))).toUInt8).toNat:Int)) 1 Kr rfl rfl Kr Kr Kr Kr Kr (by show _+1<=(pS _).size;rw [arrC_size];omega) Kr (wD (L':=[⟨b1,pS (wH (xs++[(a>>>UInt64.ofNat (8*(7-k))).toUInt8]) 8++wH (ys++[(b>>>UInt64.ofNat (8*(7-k))).toUInt8]) 8),174⟩]) (by show [(⟨b1,yK _ _ _,_⟩:Blk)]=_;rw [arrC_set Om,pad2_snd hyl hk8 hpl2]) (vF (vY (x3 ?_)))))))))))
  exact zT (Zu (k:= .i64) (((k+1:Nat):Int)) (IntWalk.i64_in _ Om) (Zv (YI ((k+1:Nat):Int)) (vF (vX (m':=8-(k+1)) Om ⟨k+1,(xs++[(a>>>UInt64.ofNat (8*(7-k))).toUInt8]),(ys++[(b>>>UInt64.ofNat (8*(7-k))).toUInt8]),_,⟨by rw [byK_step,←hxs],by rw [byK_step,←hys],by omega⟩,rfl,ZU,rfl⟩))))
 have hk8:k=8:=by omega
 have hall:wH xs 8++wH ys 8=qE a++qE b:=by rw [padB_all (by rw [hxs,pQ];exact hk8),padB_all (by rw [hys,pQ];exact hk8),hxs,hys,byK_all a hk8,byK_all b hk8]
 have hl16:(qE a++qE b).length=16:=rfl
 rw [hall]
 refine Zh h1 (ZN (zV (Zf (dE (kB (xY (k8 (x3 (zV (zT ?_))))))))))
 exact yW (.slice (some ⟨b1,0,none⟩) ((qE a++qE b).length) 16) Kr (λw=>by rw [hl16];exact run_slarr (b:=b1) (n:=16) (e:=5) (sz:=1) rfl Kr Kr Kr w) (Zc (k:=65) (args:= #[.slice (some ⟨b1,0,none⟩) ((qE a++qE b).length) 16]) (.int .u64 ((bI (qE a++qE b)).toNat:Int)) (λw hO=>d9Sum_any _ 16 (qE a++qE b) w (hO.arr (T:=174) (List.mem_cons_self ..)) (by rw [hl16];decide)) (Zv (.int .u64 ((bI (qE a++qE b)).toNat:Int)) (ZN (xK (ZF (.int .u64 ((bI (qE a++qE b)).toNat:Int)) Tryz.results127 (λw hO=>⟨rfl,hO.below⟩))))))
theorem d9Root_any (A:Option Addr)(cap:Nat)(l:List UInt64)(W:World)(hv:Reads u64C W W.heap.size A l)(hn:l.length<=1000000):YC 66 #[.slice A l.length cap] W (YR (.int .u64 ((tS l).toNat:Int)) W):=by
 refine Z2 (n:=18) Tryz.func66 rfl (ZO (Zv (.int .u64 0) (ZR (Zc (k:=65) (args:= #[.slice none 0 0]) (.int .u64 ((bI []).toNat:Int)) (λw _=>d9Sum_any none 0 [] w (λh=>absurd h (by simp)) (by simp)) (Zv (.int .u64 ((bI []).toNat:Int)) (vF (x3 ?_)))))))
 refine zV (ZO (Zv (.slice A l.length cap) (Zv (YI (l.length:Int)) (Zv (YI 0) (ZN (kH (dD (λL f m=>∃ (k:Nat) (j:Nat->Value),(k<=l.length)/\L=[]/\f=mP j [(0,.slice A l.length cap),(3,.int .u64 ((wF l k).toNat:Int)),(7,.slice A l.length cap),(8,YI (l.length:Int)),(9,YI (k:Int))]/\m=l.length-k) (l.length-0) ⟨0,_,Nat.zero_le _,rfl,ZU,rfl⟩ ?_)))))))
 rintro L f m ⟨k,j,hrel,rfl,rfl,rfl⟩
 refine zV (zT ?_)
 by_cases h1:(k:Int)<(l.length:Int)
 ·have hk:k<l.length:=by omega
  obtain ⟨bp,off,hA,hlt,hcell⟩:=hv Om
  obtain ⟨s,hs⟩:∃ s,l[k]=s:=⟨_,rfl⟩
  refine Zg h1 (ZN (zV (Zt (ZB (zV (kH (ZO (yW (Zp bp (off+k*1)) Kr (ZA (b:=bp) (off:=off) (c:=cap) (n:=l.length) (k:= .i64) (j:=(k:Int)) (e:=45) (sz:=1) hA) ?_))))))))
  refine Zo (.int .u64 (s.toNat:Int)) (a:=⟨bp,off+k*1,none⟩) (λw hO=>qI (ty:=45) u64C_len (λj u h=>(hO.below.cell (p:=⟨bp,off+j,none⟩) hlt).trans (hcell j u h)) k 0 hk Om _ (by rw [hs];kernel_rfl)) (Zv (.int .u64 (s.toNat:Int)) (ZN (zT (Zv (.int .u64 ((wF l k).toNat:Int)) (Zv (.int .u64 (s.toNat:Int)) (Zc (k:=127) (args:= #[.int .u64 ((wF l k).toNat:Int),.int .u64 (s.toNat:Int)]) (.int .u64 ((kL (wF l k) s).toNat:Int)) (λw _=>d9Pair_any (wF l k) s w) (Zv (.int .u64 ((kL (wF l k) s).toNat:Int)) (vF (vY (x3 ?_))))))))))
  refine zT (Zu (k:= .i64) (((k+1:Nat):Int)) (IntWalk.i64_in _ Om) (Zv (YI ((k+1:Nat):Int)) (vF ?_)))
  have hstep:(kL (wF l k) s)=wF l (k+1):=by rw [←dRootK_step hk,hs]
  rw [hstep]
  exact vX (m':=l.length-(k+1)) Om ⟨k+1,_,by omega,rfl,ZU,rfl⟩
 refine Zh h1 (ZN (zV (Zf (dE (kB (xY (k8 (x3 (zV (zT ?_))))))))))
 exact Zv (.int .u64 ((wF l k).toNat:Int)) (Zv (.int .u64 ((wF l k).toNat:Int)) (ZN (xK (ZF (.int .u64 ((wF l k).toNat:Int)) Tryz.results66 (λw hO=>⟨by rw [dRootK_all (l:=l) (k:=k) Om],hO.below⟩)))))
end
section
set_option linter.unnecessarySimpa false
def markU (e:Et):UInt64:=if e.yk then 1 else 0
def jA (s:Sh)(l:List Et):List UInt64:=bI s.name::l.flatMap λe=>[n9 e,markU e]
def t8 (s:Sh):UInt64:=tS (jA s s.es)
def encU (n:UInt64):Value:= .int .u64 (n.toNat:Int)
theorem encU_flat:∀ l:List UInt64,l.flatMap u64C=l.map encU
 | []=>rfl
 |n::l=>by rw [List.flatMap_cons,List.map_cons,encU_flat l];rfl
theorem nums_snoc (s:Sh)(l:List Et)(e:Et):jA s (l++[e])=jA s l++[n9 e,markU e]:=by simp [jA]
theorem numsU_len (s:Sh):∀ l:List Et,(jA s l).length=1+2*l.length
 | []=>rfl
 |e::l=>by
  have:=numsU_len s l
  simp only [jA,List.length_cons,List.flatMap_cons,List.length_append,List.length_nil] at this ⊢
  omega
theorem root_two (s:Sh)(l:List Et)(e:Et):tS (jA s (l++[e]))=kL (kL (tS (jA s l)) (n9 e)) (markU e):=by
 rw [nums_snoc,show [n9 e,markU e]=[n9 e]++[markU e] from rfl,←List.append_assoc,dRoot_snoc,dRoot_snoc]
theorem sSum_any (x:Hv)(W:World)(hx:ShIn W W.heap.size x)(hM:yT x.sh)(hK:RecLib W):YC 24 #[hvV x] W (YR (.tuple #[.int .u64 ((t8 x.sh).toNat:Int),YI 0]) W):=by
 have cM:∀ w,YB W w->YC 26 #[hvV x] w (YR (.bool true) w):=λw hb=>by
  have h:=dJ x w (hx.on hb hb.size) (hK.on hb)
  rw [decide_eq_true hM] at h;exact h
 have hxl:x.sh.es.length=x.es.length:=by simp [Hv.sh]
 have hn64:x.es.length<=64:=hxl▸hM.few
 have hsn:=hx.sn
 refine z8 Tryz.func24 (zQ [] λb1=>z6 (v:= .bool true) [0] (λw hO=>cM w hO.below) ?_)
 refine x_bytes 13 [0] x.name (src:=9) (dst:=66) (e:=5) (x:= .tmp 12) λw0 w1 cap hO hB hb hlt hcap=> ?_
 have hO':=hO.past 0 [hvB b1 x]
 clear hO
 have g0:w0.heap[b1]?=some (.cells #[.string (mkS x.name),.slice x.A x.es.length x.cap] 43):=hO'.get (i:=0) rfl
 have hl0:b1<w0.heap.size:=(Array.getElem?_eq_some_iff.1 g0).1
 have hW1:YB W w1:=hO'.below.trans (hb.mono hO'.size)
 have g1:∀ w,YB w1 w->w.heap[b1]?=some (.cells #[.string (mkS x.name),.slice x.A x.es.length x.cap] 43):=λw hw=>((hw.block b1 (Nat.lt_of_lt_of_le hl0 hb.size)).trans (hb.block b1 hl0)).trans g0
 have c2:∀ w,YB w1 w->YC 65 #[.slice (some ⟨w0.heap.size,0,none⟩) x.name.length cap] w (YR (.int .u64 ((bI x.name).toNat:Int)) w):=λw hw=>d9Sum_any _ cap x.name w (hB.reads.on hw hw.size) hsn
 have hx1:∀ w,YB w1 w->YB W w:=λw hw=>hW1.trans (hw.mono hW1.size)
 refine z6 (v:= .int .u64 ((bI x.name).toNat:Int)) [] (λw hO=>c2 w hO.below) (kD [] 1 45 #[.int .u64 ((bI x.name).toNat:Int)] λbl=>zG 17 [] 41 b1 (0+1) (.slice x.A x.es.length x.cap) (λw hO=>x7 Kr (g1 w hO.below)) ?_)
 refine zL (α:=Nat×Value×List Blk) (λ(i,v,ob)=>[(4,v),(17,.slice x.A x.es.length x.cap),(18,YI (x.es.length:Int)),(19,YI (i:Int))]) (λ(i,v,ob)=>ob) (λ(i,v,ob) m=>(i<=x.es.length/\Sl 45 1 v (jA x.sh (x.sh.es.take i)).length ((jA x.sh (x.sh.es.take i)).map encU) ob)/\m=x.es.length-i) (0,.slice (some ⟨bl,0,none⟩) 1 1,[⟨bl, #[.int .u64 ((bI x.name).toNat:Int)],45⟩]) x.es.length [] ⟨⟨Nat.zero_le _,rfl,.inr ⟨bl,1,_,rfl,rfl,Nat.le_refl _,by show 1<=maxLen;decide,rfl,rfl⟩⟩,rfl⟩ ?_
 rintro ⟨i,v,ob⟩ mm g kk ⟨⟨hi,hv⟩,hmm⟩ nx hkk
 subst hkk
 have hnl:=numsU_len x.sh (x.sh.es.take i)
 have htl:(x.sh.es.take i).length<=64:=by rw [List.length_take];omega
 refine zA 20 [] ((i:Int)<(x.es.length:Int)) (λh20=> ?_) (λh20=> ?_)
 rotate_left
 ·have hie:i=x.es.length:=by omega
  subst hie
  have hall:x.sh.es.take x.es.length=x.sh.es:=by rw [←hxl,List.take_length]
  rw [hall] at hv hnl
  obtain ⟨g3,cur,e1,e2,_⟩:∃ g3 cur,v= .slice (some ⟨g3,0,none⟩) (jA x.sh x.sh.es).length cur/\True/\True:=by
   rcases hv.2 with ⟨_,h,_⟩|⟨g3,c3,cur,rfl,_⟩
   ·omega
   ·exact ⟨g3,c3,rfl,trivial,trivial⟩
  subst e1
  have hv2:Sl 45 1 (.slice (some ⟨g3,0,none⟩) (jA x.sh x.sh.es).length cur) (jA x.sh x.sh.es).length ((jA x.sh x.sh.es).flatMap u64C) ob:=by rw [encU_flat];exact hv
  have hfin:tS (jA x.sh x.sh.es)=t8 x.sh:=rfl
  have hNl:(jA x.sh x.sh.es).length<=1000000:=by omega
  generalize jA x.sh x.sh.es=N at*
  have cR:∀ w,Own [] w1 w ob->YC 66 #[.slice (some ⟨g3,0,none⟩) N.length cur] w (YR (.int .u64 ((tS N).toNat:Int)) w):=λw hO=>d9Root_any _ cur N w (Sl.reads hv2 rfl hO λb hb=>hb) hNl
  rw [hfin] at cR
  exact z6 (v:= .int .u64 ((t8 x.sh).toNat:Int)) [] (λw hO=>cR w (hO.past 0 ob)) (yU [] (.int .u64 ((t8 x.sh).toNat:Int)) (YI 0) λw hO=>⟨rfl,hx1 w hO.below⟩)
 have hj:i<x.es.length:=by omega
 have hj':i<x.sh.es.length:=by omega
 obtain ⟨eb,eo,hA,hel⟩:=hx.es.top.elem qX i hj
 have q1:∀ w,YB W w->(loadVar 53 ⟨eb,eo+i*11+0,none⟩).run YP w= .ok (evV x.es[i]) w:=λw hw=>hel w hw _ 0 _ Kr
 have hsnoc:x.sh.es.take (i+1)=x.sh.es.take i++[(x.es[i]).et]:=by
  rw [List.take_succ_eq_append_getElem hj'];simp [Hv.sh]
 have hsum:=sumU_ok (hM.ok (x.es[i]).et (List.mem_map_of_mem (List.getElem_mem hj)))
 generalize x.es[i]=u at*
 have hsum':u.sum=((n9 u.et).toNat:Int):=hsum
 have hnew:∀ v' ob',Sl 45 1 v' ((jA x.sh (x.sh.es.take i)).length+2) ((jA x.sh (x.sh.es.take i)).map encU++[.int .u64 u.sum,.int .u64 ((markU u.et).toNat:Int)]) ob'->Sl 45 1 v' (jA x.sh (x.sh.es.take (i+1))).length ((jA x.sh (x.sh.es.take (i+1))).map encU) ob':=λv' ob' h=>by
  rw [hsnoc,nums_snoc,List.length_append,List.map_append]
  rw [hsum'] at h
  exact h
 refine zH 21 [] hA x.es.length x.cap i 11 hj (zG 22 [] 53 eb (eo+i*11+0) (evV u) (λw hO=>q1 w (hx1 w hO.below)) (zB [] λb6=>x_bb 24 [0,0] u.yk (λh24=> ?_) (λh24=> ?_)))
 ·have hmk:markU u.et=1:=if_pos h24
  rw [hmk] at hnew
  refine kD [0] 2 45 #[.int .u64 u.sum,.int .u64 1] λbm=>(qJ (m:=2) (cp:=2) [] [⟨bm, #[.int .u64 u.sum,.int .u64 1],45⟩,evB b6 u] ob [] 0 ([⟨bm, #[.int .u64 u.sum,.int .u64 1],45⟩,evB b6 u]++ob) (λw hO=>hO.cast (by simp)) hv Om λv' ob' hv'=>(x_i 31 [] ((i+1:Nat):Int) (zK [] ob' (λw hO=> ?_) (nx (i+1,v',ob') (x.es.length-(i+1)) [] Om ⟨⟨hj,hnew v' ob' hv'⟩,rfl⟩ Kr Kr))))
  have hO':=hO.past 2 (ob'++[])
  clear hO
  exact hO'.cast (by simp)
 ·have hmk:markU u.et=0:=if_neg (by show ¬ u.yk=true;rw [h24];decide)
  rw [hmk] at hnew
  refine kD [0] 2 45 #[.int .u64 u.sum,.int .u64 0] λbm=>(qJ (m:=2) (cp:=2) [] [⟨bm, #[.int .u64 u.sum,.int .u64 0],45⟩,evB b6 u] ob [] 0 ([⟨bm, #[.int .u64 u.sum,.int .u64 0],45⟩,evB b6 u]++ob) (λw hO=>hO.cast (by simp)) hv Om λv' ob' hv'=>(x_i 31 [] ((i+1:Nat):Int) (zK [] ob' (λw hO=> ?_) (nx (i+1,v',ob') (x.es.length-(i+1)) [] Om ⟨⟨hj,hnew v' ob' hv'⟩,rfl⟩ Kr Kr))))
  have hO':=hO.past 2 (ob'++[])
  clear hO
  exact hO'.cast (by simp)
theorem sSumN_any (x:Hv)(W:World)(hx:ShIn W W.heap.size x)(hM:¬ yT x.sh)(hK:RecLib W):YC 24 #[hvV x] W (YR (.tuple #[.int .u64 0,YI 1]) W):=by
 have cM:∀ w,YB W w->YC 26 #[hvV x] w (YR (.bool false) w):=λw hb=>by
  have h:=dJ x w (hx.on hb hb.size) (hK.on hb)
  rw [decide_eq_false hM] at h;exact h
 exact z8 Tryz.func24 (zQ [] λb1=>z6 (v:= .bool false) [0] (λw hO=>cM w hO.below) (yU [] (.int .u64 0) (YI 1) λw hO=>⟨rfl,hO.below⟩))
end
section
open Go.ChangeShapes Go.WideShapes Go.ChangeAt Go.RowKit
theorem open_texts {H:Type}{enc:TypeId×Value->H}{W:World}{base:Nat}{v:Value}{d:DataW H}{ps:List MemPlace}(hval:Value.okWide YP W .any base 74 v)
  (h:DataW.Trod enc YP W 0 (λ_=>true) true 74 v d ps):∃ l:List YL,ReadsT W W.heap.size v l/\l.length<=maxLen∧∀ x∈l,x.length<=maxLen:=by
 obtain ⟨A,len,cap,rfl⟩:=okWide_slice Tryz.underlying74 hval
 obtain ⟨fuel,hf⟩:=h
 rcases open_strings Tryz.underlying74 Tryz.underlying9 strCells1 hf with ⟨hcs,_⟩|⟨a,len',cap',ss,hcs,_,hl,hm,hz,_,hcell,hws⟩
 ·simp [Value.cells] at hcs
  obtain ⟨rfl,rfl,rfl⟩:=hcs
  exact ⟨[],⟨none,0,rfl,λh=>by cases h⟩,by simp,by simp⟩
 ·simp [Value.cells] at hcs
  obtain ⟨rfl,rfl,rfl⟩:=hcs
  simp only [if_true] at hz
  have hlen:((ss.take len).map (·.data.toList)).length=len:=by rw [List.length_map,List.length_take];omega
  refine ⟨(ss.take len).map (·.data.toList),⟨some a,cap,by rw [hlen],λh0=>⟨a,rfl, ?_,λj hj=> ?_⟩⟩,by rw [hlen];omega,λx hx=> ?_⟩
  ·have:=cell_lt (hcell 0 Om)
   rwa [pV] at this
  ·have hj2:j<ss.length:=by omega
   rw [hcell j hj2,List.getElem_map,List.getElem_take]
   simp only [List.getD,List.getElem?_eq_getElem hj2,Option.getD_some]
   rfl
  ·obtain ⟨s,hs,rfl⟩:=List.mem_map.1 hx
   have:=hws s (List.mem_of_mem_take hs)
   rw [wI];exact this
theorem powType:(Tryz.prog.globals[5]?).map (·.type)=some 359:=by kernel_rfl
theorem powNamed : Tryz.prog.globalNamed "internal/strconv.uint64pow10" = some 5 := by kernel_rfl
theorem powCells:Tryz.prog.cellsOf 359=20:=by kernel_rfl
theorem u64Cells:Tryz.prog.cellsOf 45=1:=by kernel_rfl
theorem hasTab_of {W : World} {l : List (String × DataW Unit)} (h : laidMetH YP l W) (e : (l.filter fun x => x.1 == "internal/strconv.uint64pow10") = [("internal/strconv.uint64pow10", Lib.tabData .u64 Lib.pow10Tab)]) : HasTab W := by
 have h2 := h.filter (fun x => x.1 == "internal/strconv.uint64pow10")
 rw [e] at h2
 exact Lib.tabBelow_of_tabIs (Lib.tabIs_of_head (rest:=[]) powNamed powType Tryz.underlying359 Tryz.underlying45 u64Cells powCells h2)
end
section
open Go.ChangeShapes Go.WideShapes Go.ChangeAt Go.RowKit
theorem cells_of_strs {H:Type}{enc:TypeId×Value->H}{P:Program}{w:World}{base:Nat}{sp:Nat->Bool}{held:Bool}{fuel:Nat}{t e:TypeId}{n:Nat}{cs:List Value}{ss:List YL}{p:List MemPlace}
  (ht:P.underlying t=some (.array n e)) (he:P.underlying e=some .string) (hce:P.cellsOf e=1) (hct:P.cellsOf t=n)
  (h:DataW.trod enc P w base sp held fuel t cs=some (.agg (ss.map λs=> .lit (.string s)),p)):cs=ss.map λs=>Value.string (mkS s):=by
 cases fuel with
 |zero=>simp [DataW.trod] at h
 |succ fuel=>
  simp only [DataW.trod,ht,hce,hct,Nat.mul_one] at h
  split at h
  ·rename_i hl
   obtain ⟨xs,hm,hx⟩:=Option.map_eq_some_iff.1 h
   have hxs:xs.map (·.1)=ss.map λs=>(DataW.lit (.string s):DataW H):=by
    have:=congrArg Prod.fst hx
    simpa using this
   have hxl:xs.length=n:=by simpa using Lib.mapM_length hm
   have hzl:ss.length=n:=by
    have:=congrArg List.length hxs
    simp at this
    omega
   apply List.ext_getElem?
   intro i
   by_cases hi:i<n
   ·obtain ⟨b,hb,hf⟩:=Lib.mapM_at hm i i (by simp [hi])
    obtain ⟨s,hc,rfl,_⟩:=DataW.trod_string he hf
    have h1:cs[i]?=some (.string s):=by
     have:=congrArg (·[0]?) hc
     simpa [List.getElem?_take,List.getElem?_drop] using this
    have h2:(xs.map (·.1))[i]?=some (DataW.lit (.string s.data.toList):DataW H):=by simp [hb]
    rw [hxs] at h2
    simp only [List.getElem?_map,Option.map_eq_some_iff,DataW.lit.injEq,Lit.string.injEq] at h2
    obtain ⟨z',hz',e9⟩:=h2
    rw [h1,List.getElem?_map,hz',e9]
    show some (Value.string s)=some (Value.string (mkS s.data.toList))
    rw [show mkS s.data.toList=s from by cases s;unfold mkS;simp]
   ·rw [List.getElem?_eq_none (by omega),List.getElem?_eq_none (by simp;omega)]
  ·cases h
theorem keysType:(Tryz.prog.globals[2]?).map (·.type)=some 157:=by kernel_rfl
theorem keysNamed : Tryz.prog.globalNamed "linchpin/mark.keys" = some 2 := by kernel_rfl
theorem keysCells:Tryz.prog.cellsOf 157=3:=by kernel_rfl
theorem mkLib_of {W : World} {l : List (String × DataW Unit)} (h : laidMetH YP l W) (e : (l.filter fun x => x.1 == "linchpin/mark.keys") = [("linchpin/mark.keys", .agg [.lit (.string [111, 115]), .lit (.string [97, 114, 99, 104]), .lit (.string [97, 98, 105])])]) : MkLib W := by
 have h2 := h.filter (fun x => x.1 == "linchpin/mark.keys")
 rw [e] at h2
 obtain ⟨ps,⟨g',t',cs,fuel,p,q,hg',ht',hvar,hd,_,hps⟩,_,hcell⟩:=h2
 obtain rfl:=Option.some.inj (keysNamed.symm.trans hg')
 obtain rfl:=Option.some.inj (keysType.symm.trans ht')
 have hcs:cs.toList=[[111,115],[97,114,99,104],[97,98,105]].map λs=>Value.string (mkS s):=cells_of_strs (n:=3) Tryz.underlying157 Tryz.underlying9 strCells1 keysCells hd
 have hsz:cs.size=3:=by rw [←Array.length_toList,hcs];rfl
 have hm:MemPlace.cell 2 0∈ps:=by
  rw [hps]
  refine List.mem_append_left _ (List.mem_append_left _ ?_)
  exact MemPlace.mem_row.2 ⟨0,by rw [hsz];decide,rfl⟩
 obtain ⟨⟨c,t,hb⟩,_⟩:=hcell _ _ hm
 have hv : W.var? YP "linchpin/mark.keys" = some c := by
  unfold World.var?
  rw [keysNamed]
  simp only [Option.bind_some,hb]
 have hcc:c=cs:=Option.some.inj (hv.symm.trans hvar)
 refine ⟨(Array.getElem?_eq_some_iff.1 hb).1,t, ?_⟩
 rw [hb,hcc]
 congr 2
 apply Array.toList_inj.1
 rw [hcs]
 rfl
end
section
open Go.ChangeShapes Go.WideShapes Go.ChangeAt Go.RowKit
theorem open_nums {H:Type}{enc:TypeId×Value->H}{W:World}{base:Nat}{v:Value}{d:DataW H}{ps:List MemPlace}(hval:Value.okWide YP W .any base 35 v)
  (h:DataW.Trod enc YP W 0 (λ_=>true) true 35 v d ps):∃ l:List Int,ReadsI W W.heap.size v l/\l.length<=maxLen:=by
 obtain ⟨A,len,cap,rfl⟩:=okWide_slice Tryz.underlying35 hval
 obtain ⟨fuel,hf⟩:=h
 rcases open_ints Tryz.underlying35 Tryz.underlying3 Kr hf with ⟨hcs,_⟩|⟨a,len',cap',zs,hcs,_,hl,hm,hz,_,hcell,_⟩
 ·simp [Value.cells] at hcs
  obtain ⟨rfl,rfl,rfl⟩:=hcs
  exact ⟨[],⟨none,0,rfl,λh=>by cases h⟩,by simp⟩
 ·simp [Value.cells] at hcs
  obtain ⟨rfl,rfl,rfl⟩:=hcs
  simp only [if_true] at hz
  have hlen:(zs.take len).length=len:=by rw [List.length_take];omega
  refine ⟨zs.take len,⟨some a,cap,by rw [hlen],λh0=>⟨a,rfl, ?_,λj hj=> ?_⟩⟩,by rw [hlen];omega⟩
  ·have:=cell_lt (hcell 0 Om)
   rwa [add_block] at this
  ·have hj2:j<zs.length:=by omega
   rw [hcell j hj2,List.getElem_take]
   simp only [List.getD,List.getElem?_eq_getElem hj2,Option.getD_some]
end
end Go.Proofs.YtdafengdngglpaaGreatDoor
