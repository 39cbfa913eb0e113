/-
 What the statement's proof leans on: the ways of walking, plain mathematics, and what the program's functions return; each theorem says on what conditions.
-/
import Derived.Below
import Derived.ChangeSame
import Derived.ProofKit
import Derived.OpenShut
import Derived.LaidSub
import Derived.Carry
import Derived.SliceStrings
import Derived.Lib.LaidTab
import Derived.Deep.DeepHandedRow
import Derived.ChangeSlices
import Derived.Test.YteghandhpbmpgaaGreatDoorTW7
set_option maxRecDepth 1000000
set_option maxHeartbeats 8000000
set_option linter.unusedVariables false
set_option linter.unusedSimpArgs false
set_option linter.unnecessarySimpa false
namespace Go.Proofs.YteghandhpbmpgaaGreatDoor
open Go.RowKit

section
theorem check_is {r:Rt}(h1:nmL r.name=true)(h2:r.ver.may=true)(h3:r.needs.length<=8)(h4:r.bars.length<=8)(h5:∀ n∈r.needs,kX r.name n=0)(h6:∀ b∈r.bars,jU r.name b=0)(h7:wY r.fts=true)(h8:∀ f∈r.fts,yP (xE r.needs) f.of=0)(h9:(xP r).length<=4096):zQ r=(0,0):=by
 have hp:kS r=(0,0):=by
  unfold kS
  rw [gQ h5,if_neg (by simp),gQ h6,if_neg (by simp),if_neg (by simp [h7]),gQ h8]
 unfold zQ
 rw [if_neg (by simp [h1]),if_neg (by simp [h2]),if_neg Om,hp,if_neg (by simp),if_neg Om]
theorem few_all12:∀ op∈[(7:Int),6,3,1,2],∀ a:Nat,a<3→∀ b:Nat,b<2->xK (Co.print ⟨op,3,⟨(a:Int),(b:Int),0,[],[]⟩⟩)=true:=by decide+kernel
theorem few_plain {t:YL}(h:FewT t):xK t=true:=by
 rcases h with rfl|⟨c,hc,rfl⟩
 ·decide+kernel
 ·obtain ⟨a,b,ha,hb,hv⟩:=hc.v
  have e:c=⟨c.op,3,⟨(a:Int),(b:Int),0,[],[]⟩⟩:=by rw [←hv,←hc.parts]
  rw [e]
  refine few_all12 c.op ?_ a ha b hb
  rcases hc.op with e|e|e|e|e<;>rw [e]<;>decide
theorem when_all:∀ k:Nat,k<3→∀ c:Nat,c<2→∀ j:Nat,j<4->yS (yQ k++sepT c++vD j)=true:=by decide+kernel
theorem when_plain {t:YL}(h:WhenT t):yS t=true:=by
 rcases h with rfl|⟨k,c,j,hk,rfl⟩
 ·decide+kernel
 ·have hj:∃ i,i<4/\vD j=vD i:=by
   by_cases h:j<4
   ·exact ⟨j,h,rfl⟩
   ·exact ⟨3,by decide,by unfold vD;rw [if_neg Om,if_neg Om,if_neg Om];rfl⟩
  have hc:∃ i,i<2/\sepT c=sepT i:=by
   by_cases h:c<2
   ·exact ⟨c,h,rfl⟩
   ·exact ⟨1,by decide,by unfold sepT;rw [if_neg Om];rfl⟩
  obtain ⟨i,hi,e⟩:=hj
  obtain ⟨d,hd,e2⟩:=hc
  rw [e,e2];exact when_all k hk d hd i hi
theorem nameT_apart:∀ a:Nat,a<5→∀ b:Nat,b<5->a≠b->yZ a≠yZ b:=by decide
theorem kind_opt:∀ j:Nat,j<4->zN ([63]++vD j)=(2,vD j,[]):=by decide+kernel
theorem kind_pull:∀ j:Nat,j<5->zN (yZ j++[47]++[120])=(3,yZ j,[120]):=by decide+kernel
theorem verG_all:∀ a:Nat,a<3→∀ b:Nat,b<2→∀ q∈[(([]:YL),([]:YL)),([114,99,46,49],[]),([],[55])],(Ver.mk a b 0 q.1 q.2).may=true/\(Ver.mk a b 0 q.1 q.2).print.length<=20:=by decide+kernel
theorem wishG_zero {own:Nat}{al:Bool}{u:Wv}(h:WishG own al u):gH (yZ (own % 5)) u.wt al=0:=by
 obtain ⟨k,hk,e⟩:=h.name
 have hne:u.name≠yZ (own % 5):=by rw [e];exact nameT_apart _ Om _ Om Om
 have hf:wP u.fs al=true:=by
  rcases h.fs with e|⟨ha,e|e⟩
  ·rw [e];cases al<;>decide
  ·rw [e,ha];decide
  ·rw [e,ha];decide
 unfold gH
 rw [if_neg (show ¬ nmL u.wt.name=false by rw [show u.wt.name=u.name from rfl,e,nameT_ok];simp),if_neg (show ¬ u.wt.name=_ from hne),if_neg (show ¬ xK u.wt.rng=false by rw [show u.wt.rng=u.rng from rfl,few_plain h.rng];simp),if_neg (show ¬ wP u.wt.fs al=false by rw [show u.wt.fs=u.fs from rfl,hf];simp)]
theorem need_zero {own:YL}{n:Nt}(h1:n.any≠[])(h2:n.any.length<=3)(h3:∀ x∈n.any,gH own x (decide (n.any.length=1))=0)(h4:yS n.wh=true)(h5:n.opt=[]\/wdL n.opt=true):kX own n=0:=by
 unfold kX
 rw [if_neg h1,if_neg Om,if_neg (by rw [jS h3];simp),if_neg (by simp [h4]),if_neg (λh=>by
  rcases h5 with e|e
  ·exact h.1 e
  ·rw [e] at h;exact absurd h.2 (by simp))]
theorem needG_zero {own:Nat}{n:Nv}(h:NeedG own n):kX (yZ (own % 5)) n.nt=0:=by
 have hop:n.nt.opt=[]\/wdL n.nt.opt=true:=by
  rcases h.opt with e|⟨j,_,e⟩
  ·exact .inl e
  ·exact .inr (by rw [show n.nt.opt=n.opt from rfl,e];exact wordT_ok j)
 rcases h.any with ⟨w,e,hw⟩|⟨w,u,e,hw,hu⟩
 ·have e':n.nt.any=[w.wt]:=by unfold Nv.nt;rw [e];rfl
  refine need_zero (by rw [e'];simp) (by rw [e'];simp) (λx hx=> ?_) (when_plain h.wh) hop
  rw [e'] at hx ⊢
  rw [List.mem_singleton.1 hx];exact wishG_zero hw
 ·have e':n.nt.any=[w.wt,u.wt]:=by unfold Nv.nt;rw [e];rfl
  refine need_zero (by rw [e'];simp) (by rw [e'];simp) (λx hx=> ?_) (when_plain h.wh) hop
  rw [e'] at hx ⊢
  simp only [List.mem_cons,List.not_mem_nil,or_false] at hx
  rcases hx with rfl|rfl
  ·exact wishG_zero hw
  ·exact wishG_zero hu
theorem barG_zero {own:Nat}{b:Bv}(h:BarG own b):jU (yZ (own % 5)) b.bt=0:=by
 obtain ⟨k,hk,e⟩:=h.name
 have hne:b.name≠yZ (own % 5):=by rw [e];exact nameT_apart _ Om _ Om Om
 unfold jU
 rw [if_neg (show ¬ nmL b.bt.name=false by rw [show b.bt.name=b.name from rfl,e,nameT_ok];simp),if_neg (show ¬ b.bt.name=_ from hne),if_neg (show ¬ xK b.bt.rng=false by rw [show b.bt.rng=b.rng from rfl,few_plain h.rng];simp),if_neg (show ¬ yS b.bt.wh=false by rw [show b.bt.wh=b.wh from rfl,when_plain h.wh];simp)]
theorem item_zero {own:Nat}{keep:Nat->Bool}{x:Rv}(h:RecG own keep x){s:YL}(hs:ItemG x.needs keep s):xE x.rt.needs s=0/\s.length<=7:=by
 unfold xE wordOf
 rcases hs with ⟨m,hm,hne,rfl⟩|⟨m,hm,w,hw,rfl⟩|⟨j,hj,hk,rfl⟩
 ·rcases (h.needs m hm).opt with e|⟨j,hj,e⟩
  ·exact absurd e hne
  ·have ho:optR x.rt.needs m.opt=true:=by
    unfold optR
    exact List.any_eq_true.2 ⟨m.nt,List.mem_map_of_mem hm,decide_eq_true rfl⟩
   have h4:=wordT_four j
   rw [e] at ho ⊢
   rw [kind_opt j hj]
   refine ⟨?_,by rw [List.length_append];simp only [List.length_cons,List.length_nil];omega⟩
   rw [if_neg (λq=>by rw [ho] at q;exact absurd q.2 (by simp)),if_neg (λq=>absurd (show (2:Int)=3 from q.1) (by decide))]
 ·have key:∃ a,WishG own a w:=by
   rcases (h.needs m hm).any with ⟨u,e,hu⟩|⟨u,z,e,_,_⟩
   ·rw [hw] at e;injection e with e1 _;exact ⟨true,e1▸hu⟩
   ·rw [hw] at e;simp at e
  obtain ⟨a,hu⟩:=key
  obtain ⟨k,hk,e⟩:=hu.name
  have hp:pulR x.rt.needs w.name=true:=by
   unfold pulR
   refine List.any_eq_true.2 ⟨m.nt,List.mem_map_of_mem hm, ?_⟩
   unfold pulN Nv.nt
   rw [hw]
   exact decide_eq_true rfl
  have h4:=nameT_len ((own+1+k) % 5)
  rw [e] at hp ⊢
  rw [kind_pull _ Om]
  refine ⟨?_,by simp only [List.length_append,List.length_cons,List.length_nil];omega⟩
  rw [if_neg (λq=>absurd (show (3:Int)=2 from q.1) (by decide)),if_neg (λq=>by rw [hp] at q;exact absurd q.2 (by simp))]
 ·obtain ⟨_,k1,_⟩:=nmF_word j hj
  rw [k1]
  refine ⟨by rw [if_neg (λq=>absurd q.1 (by decide)),if_neg (λq=>absurd q.1 (by decide))], ?_⟩
  unfold nmF dfl
  repeat' split
  all_goals simp
theorem rec_good {own:Nat}{keep:Nat->Bool}{x:Rv}(h:RecG own keep x):zQ x.rt=(0,0)/\(xP x.rt).length<=3000:=by
 have hn:nmL x.rt.name=true:=by rw [show x.rt.name=x.name from rfl,h.name];exact nameT_ok _
 obtain ⟨a,b,ha,hb,e1,e2,e3⟩:=h.ver
 have hv:x.rt.ver.may=true/\x.rt.ver.print.length<=20:=by
  have e:x.rt.ver=Ver.mk a b 0 x.pre x.bld:=by show Ver.mk x.maj x.min x.pat x.pre x.bld=_;rw [e1,e2,e3]
  rw [e]
  refine verG_all a ha b hb (x.pre,x.bld) ?_
  rcases h.pb with ⟨e,e'⟩|⟨e,e'⟩|⟨e,e'⟩<;>rw [e,e']<;>simp
 have hN:∀ n∈x.rt.needs,kX x.rt.name n=0:=λn hn=>by
  obtain ⟨m,hm,rfl⟩:=List.mem_map.1 hn
  rw [show x.rt.name=x.name from rfl,h.name];exact needG_zero (h.needs m hm)
 have hB:∀ n∈x.rt.bars,jU x.rt.name n=0:=λn hn=>by
  obtain ⟨m,hm,rfl⟩:=List.mem_map.1 hn
  rw [show x.rt.name=x.name from rfl,h.name];exact barG_zero (h.bars m hm)
 have hF:∀ f∈x.rt.fts,yP (xE x.rt.needs) f.of=0/\(g7 f).length<=57:=λf hf=>by
  obtain ⟨y,hy,rfl⟩:=List.mem_map.1 hf
  have hg:=h.fts.each y hy
  refine ⟨jS λs hs=>(item_zero h (hg.all s hs)).1, ?_⟩
  have hnm:y.name.length<=7:=by
   have:y.name∈x.fts.map Fv.name:=List.mem_map_of_mem hy
   rw [h.fts.names] at this
   obtain ⟨j,hj,e⟩:=List.mem_map.1 this
   rw [←e]
   unfold nmF dfl
   repeat' split
   all_goals simp
  have:=jn_most 32 7 (l:=kJ::y.name::y.of) λs hs=>by
   rcases List.mem_cons.1 hs with rfl|hs
   ·decide
   ·rcases List.mem_cons.1 hs with rfl|hs
    ·exact hnm
    ·exact (item_zero h (hg.all s hs)).2
  have hl:=hg.len
  show (zG 32 (kJ::y.name::y.of)++[10]).length<=57
  simp only [List.length_append,List.length_cons,List.length_nil] at this ⊢
  omega
 have l1:x.rt.needs.length<=2:=by rw [show x.rt.needs.length=x.needs.length from List.length_map ..];exact h.nlen
 have l2:x.rt.bars.length<=1:=by rw [show x.rt.bars.length=x.bars.length from List.length_map ..];exact h.blen
 have l3:x.rt.fts.length<=4:=by
  have e:=congrArg List.length h.fts.names
  rw [List.length_map,List.length_map] at e
  have:=List.length_filter_le keep (List.range 4)
  rw [List.length_range] at this
  rw [show x.rt.fts.length=x.fts.length from List.length_map ..];omega
 have hT:(xP x.rt).length<=3000:=by
  have k1:=mD kP 900 (l:=x.rt.needs) λn hx=>needT_short (hN n hx)
  have k2:=mD wF 300 (l:=x.rt.bars) λn hx=>barT_short (hB n hx)
  have k3:=mD g7 57 (l:=x.rt.fts) λf hx=>(hF f hx).2
  have k4:=fQ hn
  unfold xP j7
  simp only [List.length_append,txPack,List.length_cons,List.length_nil];omega
 exact ⟨check_is hn hv.1 Om Om hN hB (feats_may h) (λf hf=>(hF f hf).1) Om,hT⟩
end
section
def moreV (r:Rt):Rt:={r with ver:={r.ver with maj:=r.ver.maj+1}}
def bareR12 (r:Rt):Rt:={r with fts:=[]}
def zoo:Bt:=⟨[122,111,111],[42],[]⟩
end
section
set_option linter.unnecessarySimpa false
structure MadeR (x:Rv)(ob:List Blk):Prop where
 mem:RecO x ob
 gen:∃ own keep,RecG own keep x
 chk:zQ x.rt=(0,0)
 len:(xP x.rt).length<=3000
 bnd:BndR x.rt
 few:FewR x.rt 4096
theorem made_of {x:Rv}{ob:List Blk}{own:Nat}{keep:Nat->Bool}(h:RecG own keep x)(hR:RecO x ob):MadeR x ob:=by
 obtain ⟨g1,g2⟩:=rec_good h
 have hb:=chk_bnd (r:=x.rt) (by rw [g1])
 exact ⟨hR,⟨own,keep,h⟩,g1,g2,hb.1,hb.2⟩
theorem MadeR.inn {x:Rv}{ob L:List Blk}{M:List Nat}{W w:World}(h:MadeR x ob)(hO:Own M W w L)(hs:∀ b∈ob,b∈L):RcIn w w.heap.size x:=h.mem.inn hO hs h.bnd h.few
end
section
set_option linter.unnecessarySimpa false
theorem et_eq {a b:Et}:a=b↔vH a=vH b/\a.yk=b.yk:=by
 obtain ⟨r,s,k⟩:=a
 obtain ⟨r2,s2,k2⟩:=b
 simp only [vH,Prod.mk.injEq,Et.mk.injEq,and_assoc]
theorem r13Same_any (x y:Hv)(W:World)(hx:ShIn W W.heap.size x)(hy:ShIn W W.heap.size y):YC 42 #[hvV x,hvV y] W (YR (.bool (decide (x.sh=y.sh))) W):=by
 have hno:∀ w,Below W.heap.size W w→¬ x.sh=y.sh->(Ending.returned (.bool false)= .returned (.bool (decide (x.sh=y.sh))))/\Below W.heap.size W w:=λw hb h=>⟨by rw [decide_eq_false h],hb⟩
 have hsh:x.sh=y.sh↔x.name=y.name/\x.es.map Ev.et=y.es.map Ev.et:=by unfold Hv.sh;simp only [Sh.mk.injEq]
 have hn5:=hx.es.n
 refine z8 Tryz.func42 (zM [] λb2=>zM [] λb3=>kB 10 [1,0] x.name y.name (λh1=>xR 18 [1,0] ((x.es.length:Int)=(y.es.length:Int)) (λh2=> ?_) (λh2=> ?_)) (λh1=> ?_))
 rotate_left
 ·exact z7 [] Z5 λw hO=>hno w hO.below λh=>no_len h2 (hsh.1 h).2
 ·exact z7 [] Z5 λw hO=>hno w hO.below λh=>h1 (hsh.1 h).1
 have hl:x.es.length=y.es.length:=by omega
 refine zK (α:=Nat) (λi=>[(2,Zp b2 0),(3,Zp b3 0),(5,YI (i:Int))]) (λ_=>[⟨b3, #[.string (mkS y.name),.slice y.A y.es.length y.cap],49⟩,⟨b2, #[.string (mkS x.name),.slice x.A x.es.length x.cap],49⟩]) (λi m=>(i<=x.es.length/\(x.es.map Ev.et).take i=(y.es.map Ev.et).take i)/\m=x.es.length-i) 0 x.es.length [] ⟨⟨Nat.zero_le _,rfl⟩,rfl⟩ ?_
 rintro i mm g kk ⟨⟨hi,heq⟩,hmm⟩ nx hkk
 subst hkk
 refine zA 24 [1] ((i:Int)<(x.es.length:Int)) (λh24=> ?_) (λh24=> ?_)
 rotate_left
 ·exact z7 [] Z4 λw hO=>⟨by rw [decide_eq_true (hsh.2 ⟨h1,bE hl Om heq⟩)],hO.below⟩
 have hj:i<x.es.length:=by omega
 have hj2:i<y.es.length:=by omega
 have hst:=jO hj hj2 heq
 have hdf:=gW (f:=Ev.et) hj hj2
 obtain ⟨eb,eo,hA,hel⟩:=hx.es.top.elem gZ i hj
 obtain ⟨fb,fo,hB,hel2⟩:=hy.es.top.elem gZ i hj2
 have q1:∀ w,Below W.heap.size W w->(loadVar 57 ⟨eb,eo+i*11+0,none⟩).run Tryz.prog w= .ok (evV x.es[i]) w:=λw hw=>hel w hw _ 0 _ Kr
 have q2:∀ w,Below W.heap.size W w->(loadVar 57 ⟨fb,fo+i*11+0,none⟩).run Tryz.prog w= .ok (evV y.es[i]) w:=λw hw=>hel2 w hw _ 0 _ Kr
 have k1:∀ w,Below W.heap.size W w->(loadVar 4 ⟨eb,eo+i*11+10,none⟩).run Tryz.prog w= .ok (.bool x.es[i].yk) w:=λw hw=>hel w hw _ 10 _ Kr
 have k2:∀ w,Below W.heap.size W w->(loadVar 4 ⟨fb,fo+i*11+10,none⟩).run Tryz.prog w= .ok (.bool y.es[i].yk) w:=λw hw=>hel2 w hw _ 10 _ Kr
 have r1:=(hx.es.each _ (List.getElem_mem hj)).sm
 have r2:=(hy.es.each _ (List.getElem_mem hj2)).sm
 generalize x.es[i]=u at*
 generalize y.es[i]=v at*
 have hc:∀ w,Below W.heap.size W w->YC 50 #[evV u,evV v] w (YR (.bool (decide (vH u.et=vH v.et))) w):=λw hb=>r13SameE_any u v w (r1.on hb hb.size) (r2.on hb hb.size)
 refine zH 30 [1] hA x.es.length x.cap i 11 hj (zF 31 [] 57 eb (eo+i*11+0) (evV u) (λw hO=>q1 w hO.below) (zH 35 [0] hB y.es.length y.cap i 11 hj2 (zF 36 [] 57 fb (fo+i*11+0) (evV v) (λw hO=>q2 w hO.below) (z6 (v:= .bool (decide (vH u.et=vH v.et))) [] (λw hO=>hc w hO.below) (gM 37 (vH u.et=vH v.et) (λhu=> ?_) (λhu=> ?_))))))
 rotate_left
 ·exact z7 [] Z5 λw hO=>hno w hO.below λh=>hdf (λq=>hu (et_eq.1 q).1) (hsh.1 h).2
 refine zH 43 [1] hA x.es.length x.cap i 11 hj (zF 45 [] 4 eb (eo+i*11+10) (.bool u.yk) (λw hO=>k1 w hO.below) (zH 49 [0] hB y.es.length y.cap i 11 hj2 (zF 51 [] 4 fb (fo+i*11+10) (.bool v.yk) (λw hO=>k2 w hO.below) (x_bb 52 [] (u.yk !=v.yk) (λhk=> ?_) (λhk=> ?_)))))
 ·exact z7 [] Z5 λw hO=>hno w hO.below λh=>hdf (λq=>by have:u.yk=v.yk:=(et_eq.1 q).2;rw [this] at hk;simp at hk) (hsh.1 h).2
 ·exact x_i 26 [] ((i+1:Nat):Int) (nx (i+1) (x.es.length-(i+1)) [] Om ⟨⟨hj,hst (et_eq.2 ⟨hu,by show u.yk=v.yk;simpa using hk⟩)⟩,rfl⟩ Kr Kr)
structure MadeS (y:Hv)(o1 o2:List Blk):Prop where
 may:yX y.sh
 name:y.name=oneN
 own:LsO 57 11 evC esO y.A y.cap y.es o1 o2
 gen:∀ e∈y.es,∃ own keep,RecG own keep e.rec'
theorem MadeS.sho {y:Hv}{o1 o2:List Blk}(h:MadeS y o1 o2):ShO y (o1++o2):=⟨o1,o2,rfl,h.own⟩
theorem LsO.more {A A':Option Addr}{c c':Nat}{xs:List Ev}{o1 o1' o2 ob:List Blk}{x:Ev}(h:LsO 57 11 evC esO A c xs o1 o2)(ht:Sl 57 11 (.slice A' (xs.length+1) c') (xs.length+1) ((xs++[x]).flatMap evC) o1')(hx:esO x ob):LsO 57 11 evC esO A' c' (xs++[x]) o1' (o2++ob):=
 h.add (by rw [List.flatMap_append,List.flatMap_singleton] at ht;exact ht) hx
theorem shelf_gen (v:Value)(l:List Int)(most:Nat)(W:World)(hv:ReadsI W W.heap.size v l)(hl:l.length<=9223372036854775807)(hm:most<=8):YC 46 #[v,YI 0,.string ⟨#[111,110,101]⟩,YI (most:Int)] W λe w'=>∃ v' ob,e= .returned v'/\(∃ y o1 o2,v'=hvV y/\ob=o1++o2/\MadeS y o1 o2/\y.es.length<=most)/\Own [] W w' ob:=by
 obtain ⟨n,hn,hnm⟩:=xD (atL l 0) (most+1) Om
 have f0:=g0 hv hl 0 ((most+1:Nat):Int) Om Om Om hn
 refine z8 Tryz.func46 (zB [] λb8=>zB [] λb9=> ?_)
 refine zK (α:=Nat×Hv×List Blk×List Blk) (λ(k,y,o1,o2)=>[(0,v),(1,YI 0),(3,YI (most:Int)),(8,Zp b8 0),(9,Zp b9 0),(10,YI (k:Int))]) (λ(k,y,o1,o2)=>[⟨b9, #[.string (mkS y.name),.slice y.A y.es.length y.cap],49⟩,⟨b8,ZM,49⟩]++(o1++o2)) (λ(k,y,o1,o2) m=>(k<=most/\MadeS y o1 o2/\y.es.length<=k)/\m=most-k) (0,s0v,[],[]) most [0] ⟨⟨Nat.zero_le _,⟨may0,rfl,LsO.nil,λe h=>by cases h⟩,Nat.le_refl _⟩,rfl⟩ ?_
 rintro ⟨k,y,o1,o2⟩ mm g kk ⟨⟨hk,hM,hlen⟩,hmm⟩ nx hkk
 subst hkk
 have hfin:∀ w,Own [] W w (o1++o2)→∃ v' ob,Ending.returned (hvV y)= .returned v'/\(∃ y o1 o2,v'=hvV y/\ob=o1++o2/\MadeS y o1 o2/\y.es.length<=most)/\Own [] W w ob:=λw hO=>⟨_,_,rfl,⟨y,o1,o2,rfl,rfl,hM,by omega⟩,hO⟩
 refine zA 18 [] ((k:Int)<(most:Int)) (λh18=>x_i 24 [] ((most+1:Nat):Int) (z6 [] (λw hO=>f0 w hO.below) (zA 26 [] ((k:Int)<(n:Int)) (λh26=> ?_) (λh26=> ?_)))) (λh18=> ?_)
 rotate_left
 ·exact qJ [0,1] 1 (hvV y) λw hO=>hfin w (hO.past 2 _)
 ·exact qJ [0,1] 1 (hvV y) λw hO=>hfin w (hO.past 2 _)
 obtain ⟨q,hq,hq4⟩:=xD (atL l (1+82*k+80)) 4 (by decide)
 obtain ⟨r9,hr9,_⟩:=xD (atL l (1+82*k+81)) 9 (by decide)
 have f1:=g0 hv hl (1+82*k+80) 4 Om (by decide) (by decide) hq
 have f2:=g0 hv hl (1+82*k+81) 9 Om (by decide) (by decide) hr9
 refine x_i 32 [] 1 (x_i 34 [] ((82*k:Nat):Int) (x_i 35 [] ((1+82*k:Nat):Int) (x_i 38 [] 1 (x_i 40 [] ((82*k:Nat):Int) (x_i 41 [] ((1+82*k:Nat):Int) (x_i 42 [] ((1+82*k+80:Nat):Int) (z6 [] (λw hO=>f1 w hO.below) (x_i 44 [] ((1+q:Nat):Int) (yC (R:=λv ob=>∃ x,v=rvV x/\(∃ own keep,RecG own keep x)/\MadeR x ob) [] (λw hO=>(record_gen v l (1+82*k) (1+q) w ((hv.below hO.below).more hO.below.size) hl Om Om).mono λe w' ⟨x,ob,q1,⟨q2,q3⟩,q4⟩=>⟨_,ob,q1,⟨x,rfl,⟨_,_,q2⟩,made_of q2 q3⟩,q4⟩) ?_)))))))))
 rintro _ obr ⟨x,rfl,hG,hX⟩
 have hc0:(zQ x.rt).1=0:=by rw [hX.chk]
 have hyl:y.sh.es.length=y.es.length:=by simp [Hv.sh]
 have hpz:=put_is hM.may hc0 Om
 refine zB [] λb11=>yC (k:=39) (args:= #[hvV y,rvV x]) (R:=PutR13 y x) [0,1,0] (λw hO=> ?_) ?_
 ·have hO':=hO.past 3 ((o1++o2)++obr)
  clear hO
  exact r13Put_any y x w (hM.sho.inn hO' (λb hb=>List.mem_append_left _ hb) hM.may) (hX.inn hO' (λb hb=>List.mem_append_right _ hb))
 rintro v3 o3 hP
 rcases hP with ⟨hp0,A,c,rfl,hS⟩|⟨hp0,rfl,rfl⟩
 rotate_left
 ·generalize (pM y.sh x.rt).2=p at*
  refine zB [] λb12=>zA 53 [0] (p=0) (λh=>absurd h hp0) (λ_=>x_i 29 [] ((k+1:Nat):Int) (zL [] ([⟨b9, #[.string (mkS y.name),.slice y.A y.es.length y.cap],49⟩,⟨b8,ZM,49⟩]++(o1++o2)) (λw hO=>own_cnt obr (hO.past 2 ([⟨b9, #[.string (mkS y.name),.slice y.A y.es.length y.cap],49⟩,⟨b8,ZM,49⟩]++(o1++o2)++obr++[])) λf=>by simp only [List.countP_append,List.countP_cons,List.countP_nil,List.cons_append,List.nil_append];omega) (nx (k+1,y,o1,o2) (most-(k+1)) [] Om ⟨⟨by omega,hM,by omega⟩,rfl⟩ Kr Kr)))
 have hle1:(y.es++[(⟨x,yY x.rt,false⟩:Ev)]).length=y.es.length+1:=by simp
 obtain ⟨ga,cur,rfl,rfl,_⟩:=Sl.block hS Om
 rw [hle1] at hS
 obtain ⟨hS2,hfit⟩:=Sl.putLast gZ hS ⟨x,yY x.rt,decide ((r9:Int)=1)⟩ 10 #[.bool (decide ((r9:Int)=1))] (by show 10+1<=11;omega) rfl
 have hpl:zS y.sh.es x.rt.name x.rt.ver= -1:=by
  apply Classical.byContradiction
  intro h
  rw [hpz,if_neg h] at hp0
  exact absurd hp0 (by decide)
 have hMay:yX (⟨y.name,some ⟨ga,0,none⟩,c,y.es++[⟨x,yY x.rt,decide ((r9:Int)=1)⟩]⟩:Hv).sh:=by
  refine may_core (s:=⟨y.sh.name,y.sh.es++[⟨x.rt,yY x.rt,false⟩]⟩) rfl ?_ (put_may hM.may hc0 hpl Om)
  simp [Hv.sh,Ev.et,vH]
 have hNew:MadeS ⟨y.name,some ⟨ga,0,none⟩,c,y.es++[⟨x,yY x.rt,decide ((r9:Int)=1)⟩]⟩ [⟨ga,x6 cur (y.es.length*11+10) #[.bool (decide ((r9:Int)=1))],57⟩] (o2++obr):=⟨hMay,hM.name,hM.own.more hS2 hX.mem,λe he=>by
  rcases List.mem_append.1 he with he|he
  ·exact hM.gen e he
  ·rw [List.mem_singleton.1 he];exact hG⟩
 refine zB [] λb12=>zL [0,0,2] ([⟨ga,cur,57⟩,⟨b9, #[.string (mkS y.name),.slice (some ⟨ga,0,none⟩) (y.es++[(⟨x,yY x.rt,false⟩:Ev)]).length c],49⟩,⟨b8,ZM,49⟩]++(o2++obr)) (λw hO=> ?_) ?_
 ·have hO':=hO.past 0 ([⟨b12, #[.string (mkS y.name),.slice (some ⟨ga,0,none⟩) (y.es++[(⟨x,yY x.rt,false⟩:Ev)]).length c],49⟩,⟨b11, #[.string (mkS x.name),YI x.maj,YI x.min,YI x.pat,.string (mkS x.pre),.string (mkS x.bld),.slice x.nA x.needs.length x.nc,.slice x.bA x.bars.length x.bc,.slice x.fA x.fts.length x.fc],28⟩,⟨b9, #[.string (mkS y.name),.slice (some ⟨ga,0,none⟩) (y.es++[(⟨x,yY x.rt,false⟩:Ev)]).length c],49⟩,⟨b8,ZM,49⟩]++(o1++o2)++obr++[⟨ga,cur,57⟩])
  clear hO
  exact own_cnt (⟨b12, #[.string (mkS y.name),.slice (some ⟨ga,0,none⟩) (y.es++[(⟨x,yY x.rt,false⟩:Ev)]).length c],49⟩::⟨b11, #[.string (mkS x.name),YI x.maj,YI x.min,YI x.pat,.string (mkS x.pre),.string (mkS x.bld),.slice x.nA x.needs.length x.nc,.slice x.bA x.bars.length x.bc,.slice x.fA x.fts.length x.fc],28⟩::o1) hO' λp=>by simp only [List.countP_append,List.countP_cons,List.countP_nil,List.cons_append,List.nil_append];omega
 refine x1 16 [] [⟨b9, #[.string (mkS y.name),.slice (some ⟨ga,0,none⟩) (y.es++[(⟨x,yY x.rt,false⟩:Ev)]).length c],49⟩] (λw hO=>hO.nth 1 _) (vY 60 [0,0] (YI (IntKind.i64.wrap (((y.es++[(⟨x,yY x.rt,false⟩:Ev)]).length:Int) -1))) (YI ((y.es.length:Nat):Int)) (by rw [hle1,IntWalk.i64_in _ Om];congr 1;omega) (x_i 63 [] 1 (x_i 65 [] ((82*k:Nat):Int) (x_i 66 [] ((1+82*k:Nat):Int) (x_i 67 [] ((1+82*k+81:Nat):Int) (zW [] 13 (z6 [] (λw hO=>f2 w hO.below) (bN 50070 [] 15 (b:=ga) (off:=0) rfl (y.es++[(⟨x,yY x.rt,false⟩:Ev)]).length c y.es.length 11 Om ?_))))))))
 refine vY 71 [] (Zp ga (0+(y.es.length:Int).toNat*11+10)) (Zp ga (y.es.length*11+10)) (by rw [Int.toNat_natCast,Nat.zero_add]) (x_sto 0 ⟨ga,cur,57⟩ (y.es.length*11+10) 1 (.bool (decide ((r9:Int)=1))) ([⟨ga,cur,57⟩,⟨b9, #[.string (mkS y.name),.slice (some ⟨ga,0,none⟩) (y.es++[(⟨x,yY x.rt,false⟩:Ev)]).length c],49⟩,⟨b8,ZM,49⟩]++(o2++obr)) hfit ?_)
 refine x_i 29 [] ((k+1:Nat):Int) (zL [] ([⟨b9, #[.string (mkS y.name),.slice (some ⟨ga,0,none⟩) (y.es++[(⟨x,yY x.rt,decide ((r9:Int)=1)⟩:Ev)]).length c],49⟩,⟨b8,ZM,49⟩]++([⟨ga,x6 cur (y.es.length*11+10) #[.bool (decide ((r9:Int)=1))],57⟩]++(o2++obr))) (λw hO=> ?_) ?_)
 ·have hO':=hO.past 0 ([⟨ga,x6 cur (y.es.length*11+10) (Value.bool (decide ((r9:Int)=1))).cells,57⟩,⟨b9, #[.string (mkS y.name),.slice (some ⟨ga,0,none⟩) (y.es++[(⟨x,yY x.rt,false⟩:Ev)]).length c],49⟩,⟨b8,ZM,49⟩]++(o2++obr))
  clear hO
  have e2:(y.es++[(⟨x,yY x.rt,false⟩:Ev)]).length=(y.es++[(⟨x,yY x.rt,decide ((r9:Int)=1)⟩:Ev)]).length:=by simp
  rw [e2] at hO'
  exact own_cnt [] hO' λp=>by
   show List.countP p ([⟨ga,x6 cur (y.es.length*11+10) #[.bool (decide ((r9:Int)=1))],57⟩,⟨b9, #[.string (mkS y.name),.slice (some ⟨ga,0,none⟩) (y.es++[(⟨x,yY x.rt,decide ((r9:Int)=1)⟩:Ev)]).length c],49⟩,⟨b8,ZM,49⟩]++(o2++obr))=_
   simp only [List.countP_append,List.countP_cons,List.countP_nil,List.cons_append,List.nil_append];omega
 exact nx (k+1,⟨y.name,some ⟨ga,0,none⟩,c,y.es++[⟨x,yY x.rt,decide ((r9:Int)=1)⟩]⟩,[⟨ga,x6 cur (y.es.length*11+10) #[.bool (decide ((r9:Int)=1))],57⟩],o2++obr) (most-(k+1)) [] Om ⟨⟨by omega,hNew,by simp;omega⟩,rfl⟩ Kr Kr
end
section
open Go.ChangeShapes Go.WideShapes Go.ChangeAt Go.RowKit
theorem open_texts {H:Type}{enc:TypeId×Value->H}{W:World}{base:Nat}{v:Value}{d:DataW H}{ps:List MemPlace}(hval:Value.okWide Tryz.prog W .any base 75 v)
  (h:DataW.Trod enc Tryz.prog W 0 (λ_=>true) true 75 v d ps):∃ l:List YL,ReadsT W W.heap.size v l/\l.length<=maxLen∧∀ x∈l,x.length<=maxLen:=by
 obtain ⟨A,len,cap,rfl⟩:=okWide_slice Tryz.underlying75 hval
 obtain ⟨fuel,hf⟩:=h
 rcases open_strings Tryz.underlying75 Tryz.underlying9 strCells1 hf with ⟨hcs,_⟩|⟨a,len',cap',ss,hcs,_,hl,hm,hz,_,hcell,hws⟩
 ·simp [Value.cells] at hcs
  obtain ⟨rfl,rfl,rfl⟩:=hcs
  exact ⟨[],⟨none,0,rfl,λh=>by cases h⟩,by simp,by simp⟩
 ·simp [Value.cells] at hcs
  obtain ⟨rfl,rfl,rfl⟩:=hcs
  simp only [if_true] at hz
  have hlen:((ss.take len).map (·.data.toList)).length=len:=by rw [List.length_map,List.length_take];omega
  refine ⟨(ss.take len).map (·.data.toList),⟨some a,cap,by rw [hlen],λh0=>⟨a,rfl, ?_,λj hj=> ?_⟩⟩,by rw [hlen];omega,λx hx=> ?_⟩
  ·have:=cell_lt (hcell 0 Om)
   rwa [pG] at this
  ·have hj2:j<ss.length:=by omega
   rw [hcell j hj2,List.getElem_map,List.getElem_take]
   simp only [List.getD,List.getElem?_eq_getElem hj2,Option.getD_some]
   rfl
  ·obtain ⟨s,hs,rfl⟩:=List.mem_map.1 hx
   have:=hws s (List.mem_of_mem_take hs)
   rw [wC];exact this
theorem powType:(Tryz.prog.globals[3]?).map (·.type)=some 335:=by kernel_rfl
theorem powNamed : Tryz.prog.globalNamed "internal/strconv.uint64pow10" = some 3 := by kernel_rfl
theorem powCells:Tryz.prog.cellsOf 335=20:=by kernel_rfl
theorem u64Cells:Tryz.prog.cellsOf 36=1:=by kernel_rfl
theorem hasTab_of {W : World} {l : List (String × DataW Unit)} (h : laidMetH Tryz.prog l W) (e : (l.filter fun x => x.1 == "internal/strconv.uint64pow10") = [("internal/strconv.uint64pow10", Lib.tabData .u64 Lib.pow10Tab)]) : HasTab W := by
 have h2 := h.filter (fun x => x.1 == "internal/strconv.uint64pow10")
 rw [e] at h2
 exact Lib.tabBelow_of_tabIs (Lib.tabIs_of_head (rest:=[]) powNamed powType Tryz.underlying335 Tryz.underlying36 u64Cells powCells h2)
end
section
open Go.ChangeShapes Go.WideShapes Go.ChangeAt Go.RowKit
theorem cells_of_strs {H:Type}{enc:TypeId×Value->H}{P:Program}{w:World}{base:Nat}{sp:Nat->Bool}{held:Bool}{fuel:Nat}{t e:TypeId}{n:Nat}{cs:List Value}{ss:List YL}{p:List MemPlace}
  (ht:P.underlying t=some (.array n e)) (he:P.underlying e=some .string) (hce:P.cellsOf e=1) (hct:P.cellsOf t=n)
  (h:DataW.trod enc P w base sp held fuel t cs=some (.agg (ss.map λs=> .lit (.string s)),p)):cs=ss.map λs=>Value.string (mkS s):=by
 cases fuel with
 |zero=>simp [DataW.trod] at h
 |succ fuel=>
  simp only [DataW.trod,ht,hce,hct,Nat.mul_one] at h
  split at h
  ·rename_i hl
   obtain ⟨xs,hm,hx⟩:=Option.map_eq_some_iff.1 h
   have hxs:xs.map (·.1)=ss.map λs=>(DataW.lit (.string s):DataW H):=by
    have:=congrArg Prod.fst hx
    simpa using this
   have hxl:xs.length=n:=by simpa using Lib.mapM_length hm
   have hzl:ss.length=n:=by
    have:=congrArg List.length hxs
    simp at this
    omega
   apply List.ext_getElem?
   intro i
   by_cases hi:i<n
   ·obtain ⟨b,hb,hf⟩:=Lib.mapM_at hm i i (by simp [hi])
    obtain ⟨s,hc,rfl,_⟩:=DataW.trod_string he hf
    have h1:cs[i]?=some (.string s):=by
     have:=congrArg (·[0]?) hc
     simpa [List.getElem?_take,List.getElem?_drop] using this
    have h2:(xs.map (·.1))[i]?=some (DataW.lit (.string s.data.toList):DataW H):=by simp [hb]
    rw [hxs] at h2
    simp only [List.getElem?_map,Option.map_eq_some_iff,DataW.lit.injEq,Lit.string.injEq] at h2
    obtain ⟨z',hz',e9⟩:=h2
    rw [h1,List.getElem?_map,hz',e9]
    show some (Value.string s)=some (Value.string (mkS s.data.toList))
    rw [show mkS s.data.toList=s from by cases s;unfold mkS;simp]
   ·rw [List.getElem?_eq_none (by omega),List.getElem?_eq_none (by simp;omega)]
  ·cases h
theorem keysType:(Tryz.prog.globals[2]?).map (·.type)=some 168:=by kernel_rfl
theorem keysNamed : Tryz.prog.globalNamed "linchpin/mark.keys" = some 2 := by kernel_rfl
theorem keysCells:Tryz.prog.cellsOf 168=3:=by kernel_rfl
theorem mkLib_of {W : World} {l : List (String × DataW Unit)} (h : laidMetH Tryz.prog l W) (e : (l.filter fun x => x.1 == "linchpin/mark.keys") = [("linchpin/mark.keys", .agg [.lit (.string [111, 115]), .lit (.string [97, 114, 99, 104]), .lit (.string [97, 98, 105])])]) : MkLib W := by
 have h2 := h.filter (fun x => x.1 == "linchpin/mark.keys")
 rw [e] at h2
 obtain ⟨ps,⟨g',t',cs,fuel,p,q,hg',ht',hvar,hd,_,hps⟩,_,hcell⟩:=h2
 obtain rfl:=Option.some.inj (keysNamed.symm.trans hg')
 obtain rfl:=Option.some.inj (keysType.symm.trans ht')
 have hcs:cs.toList=[[111,115],[97,114,99,104],[97,98,105]].map λs=>Value.string (mkS s):=cells_of_strs (n:=3) Tryz.underlying168 Tryz.underlying9 strCells1 keysCells hd
 have hsz:cs.size=3:=by rw [←Array.length_toList,hcs];rfl
 have hm:MemPlace.cell 2 0∈ps:=by
  rw [hps]
  refine List.mem_append_left _ (List.mem_append_left _ ?_)
  exact MemPlace.mem_row.2 ⟨0,by rw [hsz];decide,rfl⟩
 obtain ⟨⟨c,t,hb⟩,_⟩:=hcell _ _ hm
 have hv : W.var? Tryz.prog "linchpin/mark.keys" = some c := by
  unfold World.var?
  rw [keysNamed]
  simp only [Option.bind_some,hb]
 have hcc:c=cs:=Option.some.inj (hv.symm.trans hvar)
 refine ⟨(Array.getElem?_eq_some_iff.1 hb).1,t, ?_⟩
 rw [hb,hcc]
 congr 2
 apply Array.toList_inj.1
 rw [hcs]
 rfl
end
section
open Go.ChangeShapes Go.WideShapes Go.ChangeAt Go.RowKit
theorem open_nums {H:Type}{enc:TypeId×Value->H}{W:World}{base:Nat}{v:Value}{d:DataW H}{ps:List MemPlace}(hval:Value.okWide Tryz.prog W .any base 43 v)
  (h:DataW.Trod enc Tryz.prog W 0 (λ_=>true) true 43 v d ps):∃ l:List Int,ReadsI W W.heap.size v l/\l.length<=maxLen:=by
 obtain ⟨A,len,cap,rfl⟩:=okWide_slice Tryz.underlying43 hval
 obtain ⟨fuel,hf⟩:=h
 rcases open_ints Tryz.underlying43 Tryz.underlying3 Kr hf with ⟨hcs,_⟩|⟨a,len',cap',zs,hcs,_,hl,hm,hz,_,hcell,_⟩
 ·simp [Value.cells] at hcs
  obtain ⟨rfl,rfl,rfl⟩:=hcs
  exact ⟨[],⟨none,0,rfl,λh=>by cases h⟩,by simp⟩
 ·simp [Value.cells] at hcs
  obtain ⟨rfl,rfl,rfl⟩:=hcs
  simp only [if_true] at hz
  have hlen:(zs.take len).length=len:=by rw [List.length_take];omega
  refine ⟨zs.take len,⟨some a,cap,by rw [hlen],λh0=>⟨a,rfl, ?_,λj hj=> ?_⟩⟩,by rw [hlen];omega⟩
  ·have:=cell_lt (hcell 0 Om)
   rwa [add_block] at this
  ·have hj2:j<zs.length:=by omega
   rw [hcell j hj2,List.getElem_take]
   simp only [List.getD,List.getElem?_eq_getElem hj2,Option.getD_some]
end
end Go.Proofs.YteghandhpbmpgaaGreatDoor
