/-
 ShelfTwo: for every input the call returns true, and each argument reads afterwards as it read before. Conditions: none but the row's own, that the listed package-level variables read as the program's text lays them.
-/
import Derived.Test.YteghandhpbmpgaaGreatDoorCards
import Derived.Test.YteghandhpbmpgaaGreatDoorTie
import Derived.Test.YteghandhpbmpgaaGreatDoorTO8

section
/-
 Chapter 13: two records put in either order (ShelfTwo). Condition: what the package leans on lies as the text lays it.
-/
namespace Go.Proofs.YteghandhpbmpgaaGreatDoor
open Go.RowKit
set_option maxRecDepth 100000
set_option linter.unusedVariables false
set_option linter.unusedSimpArgs false
set_option linter.unnecessarySimpa false
set_option maxHeartbeats 8000000

theorem nil_not:¬ yE vT:=λh=>by have:=h.name;revert this;decide
theorem place_two {l:List Et}{e:Et}{n:YL}{v:Ver}:zR (l++[e]) n v= -1↔zR l n v= -1/\vU n v e=false:=by
 rw [place_none,place_none]
 constructor
 ·intro h;exact ⟨λa ha=>h a (List.mem_append_left _ ha),h e (List.mem_append_right _ (List.mem_singleton_self _))⟩
 ·intro ⟨h1,h2⟩ a ha
  rcases List.mem_append.1 ha with h|h
  ·exact h1 a h
  ·rw [List.mem_singleton.1 h];exact h2
theorem hit_swap {p q:Rt}(hp:(zM p).1=0)(hq:(zM q).1=0){z1 z2:Int}{k1 k2:Bool}(h:vU q.name q.ver ⟨p,z1,k1⟩=false):vU p.name p.ver ⟨q,z2,k2⟩=false:=by
 have m1:=(yK hp).2.1
 have m2:=(yK hq).2.1
 have ha:=wP m1 m2
 unfold vU oneV at h ⊢
 simp only [m1,m2,Bool.true_and,Bool.and_eq_false_imp,decide_eq_true_eq,decide_eq_false_iff_not] at h ⊢
 intro e h0
 exact h e.symm Om
def etP (r:Rt):Et:=⟨r,yV r,false⟩
/-- Two records put in either order. -/
theorem put_two {s:Sh}{p q:Rt}(h:yE s)(hp:(zM p).1=0)(hq:(zM q).1=0)(hl:s.es.length<=8):
  ((g8 s p).2=0/\(g8 (g8 s p).1 q).2=0/\(g8 s q).2=0/\(g8 (g8 s q).1 p).2=0/\(g8 (g8 s p).1 q).1=⟨s.name,s.es++[etP p,etP q]⟩/\(g8 (g8 s q).1 p).1=⟨s.name,s.es++[etP q,etP p]⟩/\yE ⟨s.name,s.es++[etP p,etP q]⟩/\yE ⟨s.name,s.es++[etP q,etP p]⟩)
  \/(((g8 s p).2=8\/((g8 s p).2=0/\(g8 (g8 s p).1 q).2=8))/\((g8 s q).2=8\/((g8 s q).2=0/\(g8 (g8 s q).1 p).2=8))):=by
 have one:∀ {p q:Rt},(zM p).1=0->(zM q).1=0->zR s.es p.name p.ver= -1->(g8 s p).2=0/\yE ⟨s.name,s.es++[etP p]⟩/\g8 (g8 s p).1 q=if zR (s.es++[etP p]) q.name q.ver= -1 then (⟨s.name,s.es++[etP p,etP q]⟩,0) else (vT,8):=λ{p q} hp hq h0=>by
  have hM:=put_may h hp h0 Om
  have e:=put_is (r:=p) h hp Om
  rw [if_pos h0] at e
  refine ⟨by rw [e],hM, ?_⟩
  rw [e,put_is hM hq (by show (s.es++[_]).length<64;rw [List.length_append,List.length_singleton];omega)]
  show (if zR (s.es++[etP p]) q.name q.ver= -1 then ((⟨s.name,s.es++[etP p]++[etP q]⟩:Sh),(0:Int)) else _)=_
  rw [List.append_assoc];rfl
 have bad:∀ {p:Rt},(zM p).1=0->zR s.es p.name p.ver≠ -1->(g8 s p).2=8:=λ{p} hp h0=>by
  rw [put_is h hp Om,if_neg h0]
 by_cases zp:zR s.es p.name p.ver= -1<;>by_cases zq:zR s.es q.name q.ver= -1
 ·obtain ⟨a1,a2,a3⟩:=one hp hq zp
  obtain ⟨b1,b2,b3⟩:=one hq hp zq
  cases hh:vU q.name q.ver (etP p) with
  |false=>
   have hh2:vU p.name p.ver (etP q)=false:=hit_swap hp hq hh
   have k1:zR (s.es++[etP p]) q.name q.ver= -1:=place_two.2 ⟨zq,hh⟩
   have k2:zR (s.es++[etP q]) p.name p.ver= -1:=place_two.2 ⟨zp,hh2⟩
   rw [if_pos k1] at a3
   rw [if_pos k2] at b3
   have m1:=put_may a2 hq k1 (by show (s.es++[_]).length<64;rw [List.length_append,List.length_singleton];omega)
   have m2:=put_may b2 hp k2 (by show (s.es++[_]).length<64;rw [List.length_append,List.length_singleton];omega)
   have r1:yE ⟨s.name,s.es++[etP p,etP q]⟩:=by
    have:s.es++[etP p,etP q]=(s.es++[etP p])++[etP q]:=by rw [List.append_assoc];rfl
    rw [this];exact m1
   have r2:yE ⟨s.name,s.es++[etP q,etP p]⟩:=by
    have:s.es++[etP q,etP p]=(s.es++[etP q])++[etP p]:=by rw [List.append_assoc];rfl
    rw [this];exact m2
   exact .inl ⟨a1,by rw [a3],b1,by rw [b3],by rw [a3],by rw [b3],r1,r2⟩
  |true=>
   have hh2:vU p.name p.ver (etP q)=true:=by
    cases hx:vU p.name p.ver (etP q) with
    |true=>rfl
    |false=>have:=hit_swap (z1:=yV q) (k1:=false) (z2:=yV p) (k2:=false) hq hp hx;rw [show vU q.name q.ver ⟨p,yV p,false⟩=true from hh] at this;cases this
   rw [if_neg (λk=>by have:=(place_two.1 k).2;rw [hh] at this;cases this)] at a3
   rw [if_neg (λk=>by have:=(place_two.1 k).2;rw [hh2] at this;cases this)] at b3
   exact .inr ⟨.inr ⟨a1,by rw [a3]⟩,.inr ⟨b1,by rw [b3]⟩⟩
 ·obtain ⟨a1,a2,a3⟩:=one hp hq zp
  rw [if_neg (λk=>zq (place_two.1 k).1)] at a3
  exact .inr ⟨.inr ⟨a1,by rw [a3]⟩,.inl (bad hq zq)⟩
 ·obtain ⟨b1,b2,b3⟩:=one hq hp zq
  rw [if_neg (λk=>zp (place_two.1 k).1)] at b3
  exact .inr ⟨.inl (bad hp zp),.inr ⟨b1,by rw [b3]⟩⟩
 ·exact .inr ⟨.inl (bad hp zp),.inl (bad hq zq)⟩
theorem put_or {s:Sh}{r:Rt}(h:yE s\/s=vT):yE (g8 s r).1\/(g8 s r).1=vT:=by
 rcases h with h|rfl
 ·unfold g8
  rw [if_pos h]
  by_cases hc:(zM r).1=0
  ·rw [if_pos hc]
   by_cases hp:zR s.es r.name r.ver= -1
   ·rw [if_pos hp]
    by_cases hl:s.es.length=64
    ·rw [if_pos hl];exact .inr rfl
    ·rw [if_neg hl];exact .inl (put_may h hc hp (by have:=h.few;omega))
   ·rw [if_neg hp];exact .inr rfl
  ·rw [if_neg hc];exact .inr rfl
 ·unfold g8;rw [if_neg nil_not];exact .inr rfl
theorem ShO.innN {y:Hv}{ob L:List Blk}{M:List Nat}{W w:World}(h:ShO y ob)(hO:Own M W w L)(hs:∀ b∈ob,b∈L)(hM:yE y.sh\/y.sh=vT):ShIn w w.heap.size y:=by
 rcases hM with hM|hM
 ·exact h.inn hO hs hM
 ·obtain ⟨n,A,c,es⟩:=y
  simp only [Hv.sh,vT,Sh.mk.injEq,List.map_eq_nil_iff] at hM
  obtain ⟨rfl,rfl⟩:=hM
  exact ⟨⟨λh=>absurd h (by simp),(λe h=>by cases h),by simp⟩,by simp,by simp⟩
/-! ### The lists -/
theorem idx_ents {l:List Et}{n:YL}(d:Et):∀ k:Nat,k<=l.length->(mS l n k).map (λi=>l.getD i d)=(l.take k).filter λe=>decide (e.rc.name=n)
 |0,_=>by simp [mS]
 |k+1,hk=>by
  have hlt:k<l.length:=by omega
  have ht:l.take (k+1)=l.take k++[l[k]]:=by rw [List.take_succ_eq_append_getElem hlt]
  rw [ht,List.filter_append,←idx_ents d k Om,mS]
  by_cases h:l[k].rc.name=n
  ·rw [if_pos (by simp [hlt,h]),List.map_append]
   simp [hlt,h]
  ·rw [if_neg (by simp [hlt,h])]
   simp [h]
theorem list_two {s t:Sh}{n:YL}{x y:List Nat}(d:Et)(hs:yE s)(ht:yE t)(he:s.es.Perm t.es)(hx:ListS s n x)(hy:ListS t n y):x.map (λi=>s.es.getD i d)=y.map (λi=>t.es.getD i d):=by
 have px:(x.map (λi=>s.es.getD i d)).Perm (s.es.filter λe=>decide (e.rc.name=n)):=by
  have:=hx.1.map (λi=>s.es.getD i d)
  rw [idx_ents d _ (Nat.le_refl _),List.take_length] at this;exact this
 have py:(y.map (λi=>t.es.getD i d)).Perm (t.es.filter λe=>decide (e.rc.name=n)):=by
  have:=hy.1.map (λi=>t.es.getD i d)
  rw [idx_ents d _ (Nat.le_refl _),List.take_length] at this;exact this
 have mx:∀ {s:Sh} {x:List Nat},yE s->ListS s n x->(∀ e∈x.map (λi=>s.es.getD i d),e.rc.ver.may=true)/\(x.map (λi=>s.es.getD i d)).Pairwise λa b=>xN a.rc.ver b.rc.ver<0:=λ{s x} hs hx=>by
  have hr:∀ i∈x,i<s.es.length:=λi hi=>(idx_mem.1 (hx.1.mem_iff.1 hi)).1
  refine ⟨λe h=> ?_, ?_⟩
  ·obtain ⟨i,hi,rfl⟩:=List.mem_map.1 h
   have hl:=hr i hi
   have:s.es.getD i d=s.es[i]:=by simp [hl]
   rw [this]
   exact (yK (hs.ok _ (List.getElem_mem hl)).1).2.1
  ·rw [List.pairwise_map]
   refine hx.2.imp_of_mem λ{a b} ha hb h=> ?_
   have h1:=hr a ha
   have h2:=hr b hb
   rw [d5 h1,d5 h2] at h
   have e1:s.es.getD a d=s.es[a]:=by simp [h1]
   have e2:s.es.getD b d=s.es[b]:=by simp [h2]
   rw [e1,e2];exact h
 refine List.Perm.eq_of_pairwise (λa b ha hb h1 h2=> ?_) (mx hs hx).2 (mx ht hy).2 (px.trans ((he.filter _).trans py.symm))
 have:=wP ((mx hs hx).1 a ha) ((mx ht hy).1 b hb)
 omega
theorem shelfTwo.law (v:Value)(l:List Int)(vm:Value)(m:List Int)(own:Int)(W:World)(hv:ReadsI W W.heap.size v l)(hl:l.length<=9223372036854775807)(hvm:ReadsI W W.heap.size vm m)(hlm:m.length<=9223372036854775807)(hK:RecLib W):YC 13 #[v,vm,YI own] W (YR (.bool true) W):=by
 obtain ⟨k,hk5,cN⟩:=nameT_any own
 refine z8 Tryz.func13 (y7 (k:=46) (args:= #[v,YI 0,.string ⟨#[111,110,101]⟩,YI ((4:Nat):Int)]) (R:=λv ob=>∃ y o1 o2,v=hvV y/\ob=o1++o2/\MadeS y o1 o2/\y.es.length<=4) [] (λw hO=>shelf_gen v l 4 w ((hv.below hO.below).more hO.below.size) hl (by decide)) ?_)
 rintro _ _ ⟨y,o1,o2,rfl,rfl,hS,hy4⟩
 obtain ⟨ob,hob⟩:∃ ob,o1++o2=ob:=⟨_,rfl⟩
 have hyO:=hS.sho
 rw [hob] at hyO ⊢
 have hM:=hS.may
 generalize yR k=nm at*
 have hxl:y.sh.es.length=y.es.length:=by simp [Hv.sh]
 refine zB [] λb7=>y7 (k:=25) (args:= #[vm,YI ((0:Nat):Int),YI ((3:Nat):Int)]) (R:=λv ob=>∃ x,v=rvV x/\MadeR x ob) [0] (λw hO=>(record_gen vm m 0 3 w ((hvm.below hO.below).more hO.below.size) hlm Om Om).mono λe w' ⟨x,ob,q1,⟨q2,q3⟩,q4⟩=>⟨_,ob,q1,⟨x,rfl,made_of q2 q3⟩,q4⟩) ?_
 rintro _ obp ⟨p,rfl,hP⟩
 refine y7 (k:=25) (args:= #[vm,YI ((84:Nat):Int),YI ((3:Nat):Int)]) (R:=λv ob=>∃ x,v=rvV x/\MadeR x ob) [] (λw hO=>(record_gen vm m 84 3 w ((hvm.below hO.below).more hO.below.size) hlm Om Om).mono λe w' ⟨x,ob,q1,⟨q2,q3⟩,q4⟩=>⟨_,ob,q1,⟨x,rfl,made_of q2 q3⟩,q4⟩) ?_
 rintro _ obq ⟨q,rfl,hQ⟩
 have hc1:(zM p.rt).1=0:=by rw [hP.chk]
 have hc2:(zM q.rt).1=0:=by rw [hQ.chk]
 have hz:=put_two hM hc1 hc2 Om
 obtain ⟨s1,hs1⟩:∃ s,(g8 y.sh p.rt).1=s:=⟨_,rfl⟩
 obtain ⟨s3,hs3⟩:∃ s,(g8 y.sh q.rt).1=s:=⟨_,rfl⟩
 obtain ⟨s2,hs2⟩:∃ s,(g8 s1 q.rt).1=s:=⟨_,rfl⟩
 obtain ⟨s4,hs4⟩:∃ s,(g8 s3 p.rt).1=s:=⟨_,rfl⟩
 obtain ⟨e1,he1⟩:∃ s,(g8 y.sh p.rt).2=s:=⟨_,rfl⟩
 obtain ⟨e3,he3⟩:∃ s,(g8 y.sh q.rt).2=s:=⟨_,rfl⟩
 obtain ⟨e2,he2⟩:∃ s,(g8 s1 q.rt).2=s:=⟨_,rfl⟩
 obtain ⟨e4,he4⟩:∃ s,(g8 s3 p.rt).2=s:=⟨_,rfl⟩
 have n1:yE s1\/s1=vT:=hs1▸put_or (.inl hM)
 have n3:yE s3\/s3=vT:=hs3▸put_or (.inl hM)
 have n2:yE s2\/s2=vT:=hs2▸put_or n1
 have n4:yE s4\/s4=vT:=hs4▸put_or n3
 rw [hs1,hs3,hs2,hs4,he1,he2,he3,he4] at hz
 refine zB [] λb8=>zB [] λb9=>y7 (k:=38) (args:= #[hvV y,rvV p]) (R:=λv o=>∃ z,v= .tuple #[hvV z,YI e1]/\z.sh=s1/\ShO z o) [1,0,2,1] (λw hO=> ?_) ?_
 ·have hO':=hO.past 3 (ob++obp++obq)
  clear hO
  have h:=nE y p w (hyO.inn hO' (λb h=>List.mem_append_left _ (List.mem_append_left _ h)) hM) (hP.inn hO' (λb h=>List.mem_append_left _ (List.mem_append_right _ h))) (hK.on hO'.below)
  rw [he1,hs1] at h;exact h
 rintro _ oa ⟨a,rfl,ha,haO⟩
 refine zB [] λb10=>y7 (k:=38) (args:= #[hvV a,rvV q]) (R:=λv o=>∃ z,v= .tuple #[hvV z,YI e2]/\z.sh=s2/\ShO z o) [0,0,1] (λw hO=> ?_) ?_
 ·have hO':=hO.past 4 (ob++obp++obq++oa)
  clear hO
  have h:=nE a q w (haO.innN hO' (λb h=>List.mem_append_right _ h) (ha▸n1)) (hQ.inn hO' (λb h=>List.mem_append_left _ (List.mem_append_right _ h))) (hK.on hO'.below)
  rw [ha,he2,hs2] at h;exact h
 rintro _ ob2 ⟨b,rfl,hb,hbO⟩
 refine zB [] λb12=>y7 (k:=38) (args:= #[hvV y,rvV q]) (R:=λv o=>∃ z,v= .tuple #[hvV z,YI e3]/\z.sh=s3/\ShO z o) [0,4,2] (λw hO=> ?_) ?_
 ·have hO':=(hO.past 5 (ob++obp++obq++oa++ob2)).sublist (List.Sublist.trans (List.sublist_append_left _ _) (List.sublist_append_left _ _))
  clear hO
  have h:=nE y q w (hyO.inn hO' (λb h=>List.mem_append_left _ (List.mem_append_left _ h)) hM) (hQ.inn hO' (λb h=>List.mem_append_right _ h)) (hK.on hO'.below)
  rw [he3,hs3] at h;exact h
 rintro _ oc ⟨c,rfl,hc,hcO⟩
 refine zB [] λb14=>y7 (k:=38) (args:= #[hvV c,rvV p]) (R:=λv o=>∃ z,v= .tuple #[hvV z,YI e4]/\z.sh=s4/\ShO z o) [0,0,4] (λw hO=> ?_) ?_
 ·have hO':=hO.past 6 (ob++obp++obq++oa++ob2++oc)
  clear hO
  have h:=nE c p w (hcO.innN hO' (λb h=>List.mem_append_right _ h) (hc▸n3)) (hP.inn hO' (λb h=>List.mem_append_left _ (List.mem_append_left _ (List.mem_append_left _ (List.mem_append_left _ (List.mem_append_right _ h)))))) (hK.on hO'.below)
  rw [hc,he4,hs4] at h;exact h
 rintro _ od ⟨d,rfl,hd,hdO⟩
 refine zB [] λb16=> ?_
 rcases hz with ⟨rfl,rfl,rfl,rfl,hb2,hd2,mb,md⟩|⟨h1,h2⟩
 rotate_left
 ·rcases h1 with rfl|⟨rfl,rfl⟩<;>rcases h2 with rfl|⟨rfl,rfl⟩<;>exact z6 (v:= .bool true) [0] (λw hO=>awake13_any w (hK.on hO.below)) (z7 [] (.bool true) λw hO=>⟨rfl,hO.below⟩)
 have mB:yE b.sh:=by rw [hb,hb2];exact mb
 have mD:yE d.sh:=by rw [hd,hd2];exact md
 have hbes:b.sh.es=y.sh.es++[etP p.rt,etP q.rt]:=by rw [hb,hb2]
 have hdes:d.sh.es=y.sh.es++[etP q.rt,etP p.rt]:=by rw [hd,hd2]
 have hbl:b.sh.es.length=b.es.length:=by simp [Hv.sh]
 have hdl:d.sh.es.length=d.es.length:=by simp [Hv.sh]
 have ib:∀ w L,Own [] W w L->(∀ x∈ob2,x∈L)->ShIn w w.heap.size b:=λw L hO h=>hbO.inn hO h mB
 have iD:∀ w L,Own [] W w L->(∀ x∈od,x∈L)->ShIn w w.heap.size d:=λw L hO h=>hdO.inn hO h mD
 refine z6 (v:=YS nm) [0] (λw hO=>cN w) (x_drawLF (.s (.s (.s (.s .z)))) 7 [] [hvB b16 d,hvB b12 b] (λw hO=> ?_) (zW [1,0] 2 (yW (k:=36) (args:= #[hvV b,YS nm]) (R:=λv ob=>∃ l:List Nat,Sl 3 1 v l.length (l.map encN) ob/\ListS b.sh nm l) (λw hO=>sList_any b nm w (ib w _ (hO.past 7 (ob++obp++obq++oa++ob2++oc++od)) (λx h=>List.mem_append_left _ (List.mem_append_left _ (List.mem_append_right _ h)))) mB (hK.on hO.below)) ?_)))
 ·have hO':=hO.past 0 ([hvB b16 d,hvB b14 c,hvB b12 b,hvB b10 a,rvB b9 q,rvB b8 p,hvB b7 y]++(ob++obp++obq++oa++ob2++oc++od))
  clear hO
  exact hO'.sublist (.cons_cons _ (.cons _ (.cons_cons _ (List.nil_sublist _))))
 rintro v3 o3 ⟨t,hSt,hLt⟩
 refine zW [] 5 (yW (k:=36) (args:= #[hvV d,YS nm]) (R:=λv ob=>∃ l:List Nat,Sl 3 1 v l.length (l.map encN) ob/\ListS d.sh nm l) (λw hO=>sList_any d nm w (iD w _ (hO.past 7 (ob++obp++obq++oa++ob2++oc++od++o3)) (λx h=>List.mem_append_left _ (List.mem_append_right _ h))) mD (hK.on hO.below)) ?_)
 rintro v4 o4 ⟨u,hSu,hLu⟩
 have hsl:∀ {v:Value} {o:List Blk} {t:List Nat},Sl 3 1 v t.length (t.map encN) o→∃ A c,v= .slice A t.length c:=λ{v o t} h=>by
  rcases h.2 with ⟨rfl,h,_⟩|⟨g,cap,cur,rfl,_⟩
  ·exact ⟨none,0,by rw [h]⟩
  ·exact ⟨_,_,rfl⟩
 obtain ⟨A3,c3,rfl⟩:=hsl hSt
 obtain ⟨A4,c4,rfl⟩:=hsl hSu
 obtain ⟨OO,hOO⟩:∃ OO,(ob++obp++obq++oa++ob2++oc++od++o3++o4)=OO:=⟨_,rfl⟩
 have hld:∀ {A:Option Addr} {c:Nat} {o:List Blk} {t:List Nat},Sl 3 1 (.slice A t.length c) t.length (t.map encN) o->(∀ x∈o,x∈OO)→∀ j (hj:j<t.length),∃ b off,A=some ⟨b,off,none⟩∧∀ w,Own [] W w OO->(loadVar 3 ⟨b,off+j*1+0,none⟩).run YP w= .ok (YI (t[j]:Int)) w:=λ{A c o t} h hsub j hj=>by
  obtain ⟨g,cur,e1,e2,_⟩:=Sl.block h Om
  refine ⟨g,0,e1,λw hO=> ?_⟩
  obtain ⟨b,off,e,hel⟩:=(Sl.reads (g:=λi=>[encN i]) (by rw [←List.map_eq_flatMap];exact h) rfl hO hsub).elem (sz:=1) (λ_=>rfl) j hj
  rw [e1] at e
  simp only [Option.some.injEq,Addr.mk.injEq] at e
  obtain ⟨rfl,rfl,_⟩:=e
  exact hel w (Below.refl _ _) _ 0 _ Kr
 have hle:∀ {z:Hv} {o:List Blk},ShO z o->yE z.sh->(∀ x∈o,x∈OO)→∀ p (hp:p<z.es.length),∃ b off,z.A=some ⟨b,off,none⟩∧∀ w,Own [] W w OO->(loadVar 57 ⟨b,off+p*11+0,none⟩).run YP w= .ok (evV z.es[p]) w:=λ{z o} hz hMz hsub p hp=>by
  have hz':=hz
  obtain ⟨z1,z2,_,hL⟩:=hz
  obtain ⟨g,cur,e1,e2,_⟩:=Sl.block hL.top Om
  refine ⟨g,0,e1,λw hO=> ?_⟩
  obtain ⟨b,off,e,hel⟩:=(hz'.inn hO hsub hMz).es.top.elem gQ p hp
  rw [e1] at e
  simp only [Option.some.injEq,Addr.mk.injEq] at e
  obtain ⟨rfl,rfl,_⟩:=e
  exact hel w (Below.refl _ _) _ 0 _ Kr
 have m3:∀ x∈o3,x∈OO:=λx h=>by simp [←hOO,h]
 have m4:∀ x∈o4,x∈OO:=λx h=>by simp [←hOO,h]
 have m2:∀ x∈ob2,x∈OO:=λx h=>by simp [←hOO,h]
 have mo:∀ x∈od,x∈OO:=λx h=>by simp [←hOO,h]
 have hperm:b.sh.es.Perm d.sh.es:=by rw [hbes,hdes];exact (List.Perm.swap _ _ _).append_left _
 have hmap:=list_two (etP p.rt) mB mD hperm hLt hLu
 have hlen:t.length=u.length:=by have:=congrArg List.length hmap;simpa using this
 have hmt:∀ j (hj:j<t.length),t[j]<b.es.length:=λj hj=>by have:=(idx_mem.1 (hLt.1.mem_iff.1 (List.getElem_mem hj))).1;omega
 have hmu:∀ j (hj:j<u.length),u[j]<d.es.length:=λj hj=>by have:=(idx_mem.1 (hLu.1.mem_iff.1 (List.getElem_mem hj))).1;omega
 have hsame:∀ j (h1:j<t.length) (h2:j<u.length),(b.es[t[j]]'(hmt j h1)).et=(d.es[u[j]]'(hmu j h2)).et:=λj h1 h2=>by
  have:=congrArg (λl=>l[j]?) hmap
  simp only [List.getElem?_map,List.getElem?_eq_getElem h1,List.getElem?_eq_getElem h2,Option.map_some,Option.some.injEq] at this
  have k1:b.sh.es.getD t[j] (etP p.rt)=(b.es[t[j]]'(hmt j h1)).et:=by simp [Hv.sh,hmt j h1]
  have k2:d.sh.es.getD u[j] (etP p.rt)=(d.es[u[j]]'(hmu j h2)).et:=by simp [Hv.sh,hmu j h2]
  rw [k1,k2] at this;exact this
 have hstep:∀ i (h1:i<t.length) (h2:i<u.length),∃ (x1 x2:Nat) (E1 E2:Ev),x1<b.es.length/\x2<d.es.length/\(∃ tb tn,A3=some ⟨tb,tn,none⟩∧∀ w,Own [] W w OO->(loadVar 3 ⟨tb,tn+i*1+0,none⟩).run YP w= .ok (YI (x1:Int)) w)/\(∃ tb tn,A4=some ⟨tb,tn,none⟩∧∀ w,Own [] W w OO->(loadVar 3 ⟨tb,tn+i*1+0,none⟩).run YP w= .ok (YI (x2:Int)) w)/\(∃ eb eo,b.A=some ⟨eb,eo,none⟩∧∀ w,Own [] W w OO->(loadVar 57 ⟨eb,eo+x1*11+0,none⟩).run YP w= .ok (evV E1) w)/\(∃ eb eo,d.A=some ⟨eb,eo,none⟩∧∀ w,Own [] W w OO->(loadVar 57 ⟨eb,eo+x2*11+0,none⟩).run YP w= .ok (evV E2) w)/\E1.et=E2.et/\(∀ w,Own [] W w OO->RcIn w w.heap.size E1.rec')/\(∀ w,Own [] W w OO->RcIn w w.heap.size E2.rec'):=λi h1 h2=>
  ⟨_,_,_,_,hmt i h1,hmu i h2,hld hSt m3 i h1,hld hSu m4 i h2,hle hbO mB m2 _ (hmt i h1),hle hdO mD mo _ (hmu i h2),hsame i h1 h2,λw hO=>(ib w _ hO m2).es.each _ (List.getElem_mem (hmt i h1)),λw hO=>(iD w _ hO mo).es.each _ (List.getElem_mem (hmu i h2))⟩
 have ht66:t.length<=64:=by have h1:=idx_len (l:=b.sh.es) (n:=nm) b.sh.es.length;have h2:=hLt.1.length_eq;have h3:=mB.few;omega
 refine kD 95 [] ((t.length:Int)=(u.length:Int)) (λ_=> ?_) (λh=>absurd Om h)
 refine zK [] ([hvB b16 d,hvB b14 c,hvB b12 b,hvB b10 a,rvB b9 q,rvB b8 p,hvB b7 y]++OO) (λw hO=>(hO.past 0 ([hvB b16 d,hvB b14 c,hvB b12 b,hvB b10 a,rvB b9 q,rvB b8 p,hvB b7 y]++(ob++obp++obq++oa++ob2++oc++od++o3++o4))).cast (by rw [hOO])) (zL (α:=Nat) (λi=>[(8,Zp b8 0),(9,Zp b9 0),(12,Zp b12 0),(16,Zp b16 0),(19,.slice A3 t.length c3),(20,.slice A4 u.length c4),(21,YI (i:Int))]) (λ_=>[hvB b16 d,hvB b14 c,hvB b12 b,hvB b10 a,rvB b9 q,rvB b8 p,hvB b7 y]++OO) (λi m=>i<=t.length/\m=t.length-i) 0 t.length [] ⟨Nat.zero_le _,rfl⟩ ?_)
 rintro i mm g kk ⟨hi,hmm⟩ nx hkk
 subst hkk
 refine zA 99 [] ((i:Int)<(t.length:Int)) (λh99=> ?_) (λh99=> ?_)
 rotate_left
 ·have hfind:∀ {z:Hv} {r:Rt},yE z.sh->(zM r).1=0->etP r∈z.sh.es->findS z.sh r.name r.ver>=0:=λ{z r} hMz hc hin=>by
   rw [find_is hMz]
   rcases tG z.sh.es r.name r.ver with h|h
   ·exact absurd (place_none.1 h _ hin) (by rw [show vU r.name r.ver (etP r)=true from hit_self (e:=etP r) hc];simp)
   ·exact h
  have f1:=hfind (z:=b) mB hc1 (by rw [hbes];simp)
  have f2:=hfind (z:=d) mD hc2 (by rw [hdes];simp)
  have k1:∀ w,Own [] W w OO->YC 33 #[hvV b,YS p.name,y9 p.ver] w (YR (YI (findS b.sh p.rt.name p.rt.ver)) w):=λw hO=>sFind_any b p.name p.ver w (ib w _ hO m2) hP.bnd.pre hP.bnd.bld (hK.on hO.below)
  have k2:∀ w,Own [] W w OO->YC 33 #[hvV d,YS q.name,y9 q.ver] w (YR (YI (findS d.sh q.rt.name q.rt.ver)) w):=λw hO=>sFind_any d q.name q.ver w (iD w _ hO mo) hQ.bnd.pre hQ.bnd.bld (hK.on hO.below)
  generalize findS b.sh p.rt.name p.rt.ver=z1 at*
  generalize findS d.sh q.rt.name q.rt.ver=z2 at*
  refine z6 (v:= .bool true) [] (λw hO=>awake13_any w (hK.on hO.below)) (z6 (v:=YI z1) [2,5,5] (λw hO=>k1 w (hO.past 7 OO)) (x_yes 162 [] (z1>=0) f1 (z6 (v:=YI z2) [0,4,4] (λw hO=>k2 w (hO.past 7 OO)) (x_yes 171 [] (z2>=0) f2 ?_))))
  exact z7 [] Z4 λw hO=>⟨rfl,hO.below⟩
 have hj:i<t.length:=by omega
 have hj2:i<u.length:=by omega
 obtain ⟨x1,x2,E1,E2,hp1,hp2,⟨tb,tn,hT,htl⟩,⟨ub,un,hU,hul⟩,⟨eb,eo,hA,hel⟩,⟨fb,fo,hB,hel2⟩,hee,r1,r2⟩:=hstep i hj hj2
 have cS:∀ w,Own [] W w OO->YC 50 #[evV E1,evV E2] w (YR (.bool true) w):=λw hO=>by
  have h:=r13SameE_any E1 E2 w (r1 w hO).sm (r2 w hO).sm
  rw [hee,decide_eq_true rfl] at h;exact h
 refine zH 104 [] hT t.length c3 i 1 hj (zD 105 [] 3 tb (tn+i*1+0) (YI (x1:Int)) (λw hO=>htl w (hO.past 7 OO)) (zA 106 [] ((x1:Int)<0) (λh=>absurd h Om) (λ_=> ?_)))
 refine zH 110 [] hU u.length c4 i 1 hj2 (zD 111 [] 3 ub (un+i*1+0) (YI (x2:Int)) (λw hO=>hul w (hO.past 7 OO)) (zA 112 [] ((x2:Int)<0) (λh=>absurd h Om) (λ_=> ?_)))
 refine zH 117 [] hT t.length c3 i 1 hj (zD 118 [] 3 tb (tn+i*1+0) (YI (x1:Int)) (λw hO=>htl w (hO.past 7 OO)) (zA 122 [2] ((x1:Int)>=(b.es.length:Int)) (λh=>absurd h Om) (λ_=> ?_)))
 refine zH 127 [] hU u.length c4 i 1 hj2 (zD 128 [] 3 ub (un+i*1+0) (YI (x2:Int)) (λw hO=>hul w (hO.past 7 OO)) (zA 132 [0] ((x2:Int)>=(d.es.length:Int)) (λh=>absurd h Om) (λ_=> ?_)))
 refine zH 139 [2] hT t.length c3 i 1 hj (zD 140 [] 3 tb (tn+i*1+0) (YI (x1:Int)) (λw hO=>htl w (hO.past 7 OO)) (zH 141 [] hA b.es.length b.cap x1 11 hp1 (zD 142 [] 57 eb (eo+x1*11+0) (evV E1) (λw hO=>hel w (hO.past 7 OO)) ?_)))
 refine zH 147 [0] hU u.length c4 i 1 hj2 (zD 148 [] 3 ub (un+i*1+0) (YI (x2:Int)) (λw hO=>hul w (hO.past 7 OO)) (zH 149 [] hB d.es.length d.cap x2 11 hp2 (zD 150 [] 57 fb (fo+x2*11+0) (evV E2) (λw hO=>hel2 w (hO.past 7 OO)) ?_)))
 exact z6 (v:= .bool true) [] (λw hO=>cS w (hO.past 7 OO)) (x_i 101 [] ((i+1:Nat):Int) (nx (i+1) (t.length-(i+1)) [] Om ⟨hj,rfl⟩ Kr Kr))
end Go.Proofs.YteghandhpbmpgaaGreatDoor
end

section
/-
 ShelfTwo: for every input the call returns true, and each argument reads afterwards as it read before. Conditions: none but the row's own, that the listed package-level variables read as the program's text lays them.
-/
namespace Go.Proofs.YteghandhpbmpgaaGreatDoor.shelfTwo
open Go.ChangeShapes Go.WideShapes Go.ChangeAt Go.RowKit
open Go.ChangeMaps (open_string shut_string)
set_option linter.unusedVariables false

set_option maxRecDepth 100000 in
theorem contract (H:Type)(enc:TypeId×Value->H)(W:World)(base:Nat)(args:Array Value)(ds gs:List (DataW H))(before:List MemPlace)
  (hval:∀ (j:Nat) t v,Tryz.f13.params[j]?=some t->args[j]?=some v->Value.okWide YP W .any base t v)
  (hW:DataW.Whole enc YP Tryz.f13.params.toList Rows.shelfTwoSpec.vars false W args.toList ds gs before) (hL:laidMetH YP Rows.shelfTwoRow.laid W) (hS:W.ShapedOpen YP):
  YC 13 args W λe W'=>∃ v,e= .returned v/\Rows.shelfTwoSpec.post enc YP Tryz.f13 false true false false W args v W':=by
 have ht:HasLib W:=hasLib_of (hasTab_of hL (by rfl)) hS
 have hW':=hW
 obtain ⟨p,q,hA0,hV,rfl,hfz,hnd⟩:=hW
 have hA:DataW.TrodAll enc YP W 0 (λ_=>true) true Tryz.f13.params.toList args.toList ds p:=hA0
 rw [Tryz.params13] at hA hval
 obtain ⟨v0,vs0,d0,ds0,p0,q0,hargs,rfl,rfl,h0,r0⟩:=trodAll_cons hA
 obtain ⟨v1,vs1,d1,ds1,p1,q1,rfl,rfl,rfl,h1,r1⟩:=trodAll_cons r0
 obtain ⟨v2,vs2,d2,ds2,p2,q2,rfl,rfl,rfl,h2,r2⟩:=trodAll_cons r1
 obtain ⟨rfl,rfl,rfl⟩:=trodAll_nil r2
 obtain rfl:args= #[v0,v1,v2]:=by cases args;simp_all
 obtain ⟨rfl,rfl⟩:=trodVars_none hV
 obtain ⟨own,rfl,rfl,rfl,w2⟩:=open_int Tryz.underlying3 (hval 2 3 v2 rfl rfl) h2
 clear hA0
 obtain ⟨l,l_reads,l_len⟩:=open_nums (hval 0 43 v0 rfl rfl) h0
 obtain ⟨m,m_reads,m_len⟩:=open_nums (hval 1 43 v1 rfl rfl) h1
 refine (shelfTwo.law v0 l v1 m own W l_reads l_len m_reads m_len ⟨ht,mkLib_of hL (by rfl)⟩).mono λe W' ⟨he,hb⟩=> ?_
 subst he
 exact ⟨_,rfl,law_end laidOut (λt ht=>by rw [Tryz.params13] at ht;simp at ht;rcases ht with rfl|rfl|rfl<;>exact ⟨by kernel_rfl,of_decide_eq_true Kr⟩) rfl rfl Tryz.underlying4 hW' (by rfl) hb⟩

noncomputable def laidWorld (os:Os):World:=
 {World.holding YP os ⟨#[], #[],[]⟩ with heap:=layAt (layAt (layAt (layAt (layAt (layAt ((World.holding YP os ⟨#[], #[],[]⟩).heap) 6 Rows.laid_math_bits_deBruijn32tab) 7 Rows.laid_math_bits_deBruijn64tab) 3 Rows.laid_internal_strconv_uint64pow10) 5 Rows.laid_unicode_utf8_acceptRanges) 2 Rows.laid_linchpin_mark_keys) 4 Rows.laid_unicode_utf8_first}
theorem laid_met (os:Os):laidMet YP Rows.shelfTwoRow.laid ((laidWorld os).forCall (λ_ _=>0) ⟨#[], #[.slice none 0 0,.slice none 0 0,YI 0],[]⟩).memory:=
 laidMet_of_run' 8 Kr Kr
theorem reads (os:Os){H:Type}(enc:TypeId×Value->H):∃ places,DataW.whole enc YP ((laidWorld os).forCall (λ_ _=>0) ⟨#[], #[.slice none 0 0,.slice none 0 0,.int .i64 0],[]⟩).memory Tryz.f13.params.toList Rows.shelfTwoSpec.vars false (#[.slice none 0 0,.slice none 0 0,.int .i64 0]:Array Value).toList 8=some ([.nil,.nil,.lit (.int .i64 0)],[],places):=
 ⟨[],by kernel_rfl⟩

set_option maxRecDepth 100000 in
theorem lifted (os:Os)(started:os.Started)(H:Type)(enc:TypeId×Value->H)(F:Stop.Interp):
  ReturnsInHanded {} Tryz.checked os 13 .any ((OpenSpec.ofChange Rows.shelfTwoSpec).preRow enc YP Tryz.f13 Rows.shelfTwoRow.domain false Rows.shelfTwoRow.laid) (((OpenSpec.ofChange Rows.shelfTwoSpec).at F).post enc YP Tryz.f13 false true false false):=by
 obtain ⟨places,hx⟩:=reads os enc
 refine returnsInHanded_of_row (C:=Tryz.checked) (s:=OpenSpec.ofChange Rows.shelfTwoSpec) own started Kr Tryz.func13
  (witness_row_at (enc:=enc) (C:=Tryz.checked) false (laidWorld os) #[.slice none 0 0,.slice none 0 0,YI 0] rfl Kr Kr Kr
   (OpenSpec.preRow_of_cond 8 hx Kr (λk hk=>by cases hk) Kr (laid_met os))) ?_
 intro W base args ds gs before hval hW _ _ _ hL hS _
 exact contract H enc W base args ds gs before hval hW hL hS

theorem j1:(Rows.shelfTwoRow.inPlace==Tryz.pinned.checked.prog.inPlace 13)=true:=by kernel_rfl
theorem j2:(Rows.shelfTwoRow.unfollowed==Tryz.pinned.checked.prog.unfollowed 13)=true:=by kernel_rfl
theorem j3:(Rows.shelfTwoRow.recurses==Tryz.pinned.checked.prog.recurses 13)=true:=by kernel_rfl
theorem j4:(Rows.shelfTwoRow.named==Tryz.pinned.checked.prog.varsNamed 13)=true:=by kernel_rfl
theorem j5:(Rows.shelfTwoRow.lifted==Tryz.pinned.checked.prog.liftsFinal)=true:=by kernel_rfl
theorem closed:joinedFacts Tryz.pinned.checked.prog 13 Tryz.f13 (OpenSpec.ofChange Rows.shelfTwoSpec).bare Rows.shelfTwoRow=true:=by
 unfold joinedFacts
 rw [jfLaid,jfMaps,j1,j2,j3,j4,jfHeard,jfEnter,j5]
 kernel_rfl

theorem said:Rows.ShelfTwoSaid:=
 OpenClaim.holds_of_cond 13 Tryz.f13 rfl rfl rfl rfl rfl rfl rfl ⟨rfl,rfl,rfl,rfl,rfl⟩ rfl rfl rfl rfl rfl Kr Tryz.func13 closed
  (of_decide_eq_true Kr) (by unfold Func.isWrapper;first|(rw [if_pos (by decide+kernel)];kernel_rfl)|(rw [if_neg (by decide+kernel)];exact ⟨rfl,rfl⟩))
  (λos started H enc _ F=>by rw [OpenClaim.pre_eq_preRow];exact lifted os started H enc F)

theorem plain (f : FuncId) (fn : Func) (hf : Tryz.pinned.checked.prog.funcNamed "linchpin/linchpinlaw13.ShelfTwo" = some f) (hfn : Tryz.pinned.checked.prog.funcs[f]? = some fn) :
  false=Tryz.pinned.checked.prog.looks []∧∀ (j:Nat) t,fn.params[j]?=some t->Tryz.pinned.checked.prog.wantsStandIn t=false:=by
 obtain rfl : f = 13 := Option.some.inj ((show Tryz.prog.funcNamed "linchpin/linchpinlaw13.ShelfTwo" = some 13 by kernel_rfl).symm.trans hf) |>.symm
 obtain rfl:fn=Tryz.f13:=(Option.some.inj (Tryz.func13.symm.trans hfn)).symm
 refine ⟨by kernel_rfl,λj t ht=> ?_⟩
 rw [Tryz.params13] at ht
 have hm:=Array.mem_of_getElem? ht
 simp at hm
 rcases hm with rfl|rfl
 ·exact (show Tryz.prog.wantsStandIn 43=false by kernel_rfl)
 ·exact (show Tryz.prog.wantsStandIn 3=false by kernel_rfl)

theorem goes:false=Rows.shelfTwoRow.goesBy Tryz.pinned.checked.prog:=by kernel_rfl
theorem card:Rows.ShelfTwoCardSaid:=
 Claim7.holds_tied_plain_at .later [] _ _ _ _ said (λ_ h=>by cases h) Kr (λ_ h=>by cases h) shelfTwo_row_tie rfl ⟨rfl,rfl⟩ Kr rfl plain goes

#print axioms card
end Go.Proofs.YteghandhpbmpgaaGreatDoor.shelfTwo
end
