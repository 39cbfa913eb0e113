import Derived.Laws.OwnMore
import Derived.Test.YtobimfnmnkegdaaGreatDoorMA4
set_option maxRecDepth 1000000
set_option maxHeartbeats 8000000
set_option linter.unusedVariables false
set_option linter.unusedSimpArgs false
set_option linter.unnecessarySimpa false
namespace Go.Proofs.YtobimfnmnkegdaaGreatDoor
open Go.RowKit

section
def jR (b:UInt8):Nat->YL->List YL
 |0,s=>[s]
 |k+1,s=>if (zA b s).2.2 then (zA b s).1::jR b k (zA b s).2.1 else [s]
theorem split_one (b:UInt8){s:YL}(h:(zA b s).2.2=false):zB b [] s=[s]:=by
 have hb:=d8 b s
 rw [h,if_neg Bool.false_ne_true] at hb
 rw [xK,h,if_neg Bool.false_ne_true,List.nil_append]
 simpa using hb.symm
theorem pcsB_is (b:UInt8):∀ (k:Nat) (s:YL),jR b k s=if (zB b [] s).length<=k then zB b [] s else (zB b [] s).take k++[zD b ((zB b [] s).drop k)]
 |0,s=>by
  have h1:¬ (zB b [] s).length<=0:=λh=>vE b s [] (List.eq_nil_of_length_eq_zero (Nat.le_zero.1 h))
  rw [if_neg h1,List.drop_zero,mH b s [],List.nil_append];rfl
 |k+1,s=>by
  unfold jR
  cases hq:(zA b s).2.2 with
  |false=>
   rw [if_neg Bool.false_ne_true,split_one b hq,if_pos (by simp)]
  |true=>
   have hsp:zB b [] s=(zA b s).1::zB b [] (zA b s).2.1:=by rw [xK,hq,if_pos rfl,List.nil_append]
   rw [if_pos rfl,pcsB_is b k (zA b s).2.1,hsp,List.length_cons,List.take_succ_cons,List.drop_succ_cons]
   by_cases h:(zB b [] (zA b s).2.1).length<=k
   ·rw [if_pos h,if_pos Om]
   ·rw [if_neg h,if_neg Om];rfl
structure La where
 kind:Nat
 word:YL
 lo:Nat
 hi:Nat
 parts:Nat
 opn:Bool
 more:Bool
deriving DecidableEq
def lays:List La:=[⟨1,vG,0,0,3,false,false⟩,⟨2,qH,1,5,1,false,false⟩,⟨3,jO,2,3,5,true,false⟩,⟨4,kD,2,3,2,true,false⟩,⟨5,wW,2,4,2,false,false⟩,⟨6,j7,1,7,3,true,false⟩,⟨7,kD,6,6,2,true,false⟩,⟨8,y9,1,8,2,false,true⟩]
def x7 (l:La)(s:YL):List YL:=if l.opn then jR 32 (l.parts-1) s else zB 32 [] s
def wQ (l:La)(s:YL):Bool:=(decide ((x7 l s).length=l.parts)||(l.more && decide (l.parts<(x7 l s).length))) && decide ((x7 l s).getD 0 []=l.word) && noE (x7 l s)
def dZ (x:Rt)(kind:Nat)(p:List YL):Rt×Bool:=
 match kind with
 |1=>({x with name:=p.getD 1 [],ver:=bG (p.getD 2 [])},decide (pU (p.getD 2 [])=0))
 |2=>({x with needs:=x.needs++[⟨[],[],[]⟩]},true)
 |3=>({x with needs:=yM (λn=>{n with any:=n.any++[anyW p (p.getD 4 [])]}) x.needs},decide (p.getD 3 []=g0)||decide (p.getD 3 []=jC))
 |4=>({x with needs:=yM (λn=>{n with wh:=p.getD 1 []}) x.needs},true)
 |5=>({x with needs:=yM (λn=>{n with opt:=p.getD 1 []}) x.needs},true)
 |6=>({x with bars:=x.bars++[⟨p.getD 1 [],p.getD 2 [],[]⟩]},true)
 |7=>({x with bars:=yM (λb=>{b with wh:=p.getD 1 []}) x.bars},true)
 |8=>({x with fts:=x.fts++[⟨p.getD 1 [],p.drop 2⟩]},true)
 |_=>(x,true)
def k6 (x:Rt)(last:Nat)(s:YL):List La->Option (Rt×Nat)
 | []=>none
 |l::r=>if l.lo<=last/\last<=l.hi/\wQ l s=true then (if (dZ x l.kind (x7 l s)).2 then some ((dZ x l.kind (x7 l s)).1,l.kind) else none) else k6 x last s r
def stg:Nat->Int
 |0=>0|1=>1|2=>2|3=>2|4=>3|5=>4|6=>5|7=>6|_=>7
structure InvA (x:Rt)(k:Nat):Prop where
 le:k<=8
 z:k=0->x=jI
 n:2<=k->k<=5->x.needs≠[]
 b:6<=k->k<=7->x.bars≠[]
theorem open_ok {l:La}{s:YL}(ho:l.opn=true)(hm:l.more=false){k:Nat}(hk:l.parts=k+1):wQ l s=true↔∃ w t,qW s k=some (w,t)/\x7 l s=w++[t]/\(w++[t]).getD 0 []=l.word:=by
 have hP:x7 l s=if (zB 32 [] s).length<=k then zB 32 [] s else (zB 32 [] s).take k++[zD 32 ((zB 32 [] s).drop k)]:=by
  unfold x7;rw [if_pos ho,hk];exact pcsB_is 32 k s
 unfold wQ qW
 rw [hm,hk]
 simp only [Bool.false_and,Bool.or_false,Bool.and_eq_true,decide_eq_true_eq]
 by_cases hl:(zB 32 [] s).length<=k
 ·rw [if_pos hl] at hP ⊢
  rw [hP]
  constructor
  ·rintro ⟨⟨h1,_⟩,_⟩;omega
  ·rintro ⟨w,t,h,_⟩;cases h
 ·rw [if_neg hl] at hP ⊢
  rw [hP]
  have hlen:((zB 32 [] s).take k++[zD 32 ((zB 32 [] s).drop k)]).length=k+1:=by simp;omega
  have hno:noE ((zB 32 [] s).take k++[zD 32 ((zB 32 [] s).drop k)])=(noE ((zB 32 [] s).take k) && decide (zD 32 ((zB 32 [] s).drop k)≠[])):=by unfold noE;simp [List.all_append]
  rw [hno,hlen]
  cases h2:noE ((zB 32 [] s).take k) with
  |false=>simp
  |true=>
   by_cases h3:zD 32 ((zB 32 [] s).drop k)=[]
   ·simp [h3]
   ·simp only [h3,true_and,decide_true,ne_eq,not_false_eq_true,Bool.and_self,and_true,if_false,Bool.true_eq_false,Option.some.injEq,Prod.mk.injEq]
    constructor
    ·intro h;exact ⟨_,_,⟨rfl,rfl⟩,rfl,h⟩
    ·rintro ⟨w,t,⟨rfl,rfl⟩,_,h⟩;exact h
theorem fI {s:YL}{k:Nat}{w:List YL}{t:YL}(h:qW s (k+1)=some (w,t)):(w++[t]).getD 0 []=(zB 32 [] s).getD 0 []/\w.length=k+1:=by
 unfold qW at h
 split at h
 ·cases h
 ·split at h
  ·cases h
  ·split at h
   ·cases h
   ·rename_i h1 h2 h3
    simp only [Option.some.injEq,Prod.mk.injEq] at h
    obtain ⟨rfl,rfl⟩:=h
    cases hs:zB 32 [] s with
    |nil=>exact absurd hs (vE 32 _ _)
    |cons a r=>rw [hs] at h1;simp only [List.length_cons] at h1;simp;omega
theorem dG {l:La}{s:YL}(ho:l.opn=false):x7 l s=zB 32 [] s:=by unfold x7;rw [if_neg (by rw [ho];simp)]
theorem la_word {l:La}{s:YL}(hp:l.opn=true->2<=l.parts)(h:wQ l s=true):(zB 32 [] s).getD 0 []=l.word:=by
 have hw:(x7 l s).getD 0 []=l.word:=by
  unfold wQ at h;simp only [Bool.and_eq_true,decide_eq_true_eq] at h;exact h.1.2
 rw [←hw]
 unfold x7
 split
 ·rename_i ho
  have h2:=hp ho
  obtain ⟨k,hk⟩:∃ k,l.parts-1=k+1:=⟨l.parts-2,by omega⟩
  rw [hk,pcsB_is]
  split
  ·rfl
  ·cases hs:zB 32 [] s with
   |nil=>exact absurd hs (vE 32 _ _)
   |cons a r=>simp
 ·rfl
theorem lays_open:∀ l∈lays,l.opn=true->2<=l.parts:=by decide
abbrev mK (l:La)(last:Nat)(s:YL):Prop:=l.lo<=last/\last<=l.hi/\wQ l s=true
def outA (x:Rt)(s:YL)(l:La):Option (Rt×Nat):=if (dZ x l.kind (x7 l s)).2 then some ((dZ x l.kind (x7 l s)).1,l.kind) else none
theorem gL {x:Rt}{last:Nat}{s:YL}:∀ {L:List La},(∀ l∈L,¬ mK l last s)->k6 x last s L=none
 | [],_=>rfl
 |l::r,h=>by rw [k6,if_neg (h l (List.mem_cons_self ..)),gL λy hy=>h y (List.mem_cons_of_mem _ hy)]
theorem vD {x:Rt}{last:Nat}{s:YL}{l:La}(hf:mK l last s):∀ {L:List La},(∀ y∈L,mK y last s->y=l)->l∈L->k6 x last s L=outA x s l
 |y::r,h,hl=>by
  by_cases hy:mK y last s
  ·obtain rfl:=h y (List.mem_cons_self ..) hy
   rw [k6,if_pos hy];rfl
  ·rw [k6,if_neg hy]
   rcases List.mem_cons.1 hl with rfl|hl
   ·exact absurd hf hy
   ·exact vD hf (λz hz=>h z (List.mem_cons_of_mem _ hz)) hl
theorem mE {last:Nat}{s:YL}{l:La}(hw:(zB 32 [] s).getD 0 []=l.word)(h:∀ y∈lays,y.word=l.word->y.lo<=last->last<=y.hi->y=l):∀ y∈lays,mK y last s->y=l:=λy hy hf=>h y hy ((la_word (lays_open y hy) hf.2.2).symm.trans hw) hf.1 hf.2.1
def SameA (a:Option (Rt×Nat))(b:Option Rs):Prop:=match a,b with
 |none,none=>True
 |some (x,k),some y=>y=⟨x,stg k⟩/\InvA x k
 |_,_=>False
theorem m8 {α:Type}{f:α->α}{l:List α}(h:l≠[]):yM f l≠[]:=by
 match l,h with
 | [a],_=>simp [yM]
 |a::b::r,_=>simp [yM]
theorem noE_three {l:List YL}(h:l.length=3):noE l=true↔l.getD 0 []≠[]/\l.getD 1 []≠[]/\l.getD 2 []≠[]:=by
 match l,h with
 | [a,b,c],_=>simp [noE]
theorem stg_pos {k:Nat}(h:1<=k):stg k≠0:=by
 match k,h with
 |1,_=>decide
 |2,_=>decide
 |3,_=>decide
 |4,_=>decide
 |5,_=>decide
 |6,_=>decide
 |7,_=>decide
 |k+8,_=>exact (by show (7:Int)≠0;decide)
theorem stg_two {k:Nat}(h:k<=8):(stg k=2↔2<=k/\k<=3)/\(stg k=5↔k=6)/\(stg k<5↔k<=5)/\(stg k<=6↔k<=7)/\(stg k=3↔k=4):=by
 have:∀ j,j<=8->(stg j=2↔2<=j/\j<=3)/\(stg j=5↔j=6)/\(stg j<5↔j<=5)/\(stg j<=6↔j<=7)/\(stg j=3↔j=4):=by decide
 exact this k h
theorem parE_nil:pU []≠0:=by decide+kernel
theorem pJ {l:La}{s:YL}{k:Nat}{w:List YL}{t:YL}(ho:l.opn=true)(hk:l.parts=k+1)(h:qW s k=some (w,t)):x7 l s=w++[t]:=by
 unfold x7
 rw [if_pos ho,hk]
 show jR 32 k s=_
 rw [pcsB_is]
 unfold qW at h
 split at h
 ·cases h
 ·split at h
  ·cases h
  ·split at h
   ·cases h
   ·simp only [Option.some.injEq,Prod.mk.injEq] at h
    obtain ⟨rfl,rfl⟩:=h
    rw [if_neg (by assumption)]
theorem anyS_of {x:Rs}{s:YL}{w:List YL}{t:YL}(h:qW s 4=some (w,t)):anyS x s=if x.st=2/\(w.getD 3 []=g0\/w.getD 3 []=jC) then some ⟨{x.rc with needs:=yM (λn=>{n with any:=n.any++[anyW w t]}) x.rc.needs},2⟩ else none:=by unfold anyS;rw [h]
theorem whenS_of {x:Rs}{s:YL}{w:List YL}{t:YL}(h:qW s 1=some (w,t)):whenS x s=if x.st=2 then some ⟨{x.rc with needs:=yM (λn=>{n with wh:=t}) x.rc.needs},3⟩ else if x.st=5 then some ⟨{x.rc with bars:=yM (λb=>{b with wh:=t}) x.rc.bars},6⟩ else none:=by unfold whenS;rw [h]
theorem barS_of {x:Rs}{s:YL}{w:List YL}{t:YL}(h:qW s 2=some (w,t)):barS x s=if x.st<=6 then some ⟨{x.rc with bars:=x.rc.bars++[⟨w.getD 1 [],t,[]⟩]},5⟩ else none:=by unfold barS;rw [h]
theorem S_none {x:Rs}{s:YL}:(qW s 4=none->anyS x s=none)/\(qW s 1=none->whenS x s=none)/\(qW s 2=none->barS x s=none):=
 ⟨λh=>by unfold anyS;rw [h],λh=>by unfold whenS;rw [h],λh=>by unfold barS;rw [h]⟩
theorem take_line {x:Rt}{k:Nat}(hI:InvA x k)(s:YL):SameA (k6 x k s lays) (gR ⟨x,stg k⟩ s):=by
 obtain ⟨P,hP⟩:∃ P,zB 32 [] s=P:=⟨_,rfl⟩
 have h8:=hI.le
 have hs:=stg_two h8
 by_cases h0:k=0
 ·subst h0
  obtain rfl:=hI.z rfl
  have hone:∀ y∈lays,mK y 0 s->y=⟨1,vG,0,0,3,false,false⟩:=λy hy hf=>by
   simp only [lays,List.mem_cons,List.not_mem_nil,or_false] at hy
   rcases hy with rfl|rfl|rfl|rfl|rfl|rfl|rfl|rfl
   ·rfl
   all_goals exact absurd hf.1 (by decide)
  have hl:gR ⟨jI,stg 0⟩ s=headS P:=by unfold gR;rw [if_pos (show Rs.st ⟨jI,stg 0⟩=0 from rfl),hP]
  rw [hl]
  by_cases hf:mK ⟨1,vG,0,0,3,false,false⟩ 0 s
  ·rw [vD hf hone (by decide)]
   have hk:=hf.2.2
   unfold wQ at hk
   rw [dG rfl,hP] at hk
   simp only [Bool.false_and,Bool.or_false,Bool.and_eq_true,decide_eq_true_eq] at hk
   obtain ⟨⟨h1,h2⟩,h3⟩:=hk
   have h4:=(noE_three h1).1 h3
   unfold outA headS
   rw [dG rfl,hP]
   by_cases h5:pU (P.getD 2 [])=0
   ·rw [if_pos (by simpa [dZ] using h5),if_pos ⟨h1,h2,h4.2.1,h5⟩]
    exact ⟨rfl,⟨by decide,λh=>absurd h (by decide),λh=>absurd h (by decide),λh=>absurd h (by decide)⟩⟩
   ·rw [if_neg (by simpa [dZ] using h5),if_neg (λq=>h5 q.2.2.2)];trivial
  ·rw [gL λy hy hq=>hf (hone y hy hq▸hq)]
   unfold headS
   rw [if_neg];· trivial
   rintro ⟨h1,h2,h3,h4⟩
   refine hf ⟨Nat.le_refl _,Nat.le_refl _, ?_⟩
   unfold wQ
   rw [dG rfl,hP,(noE_three h1).2 ⟨by rw [h2];decide,h3,λe=>parE_nil (by rw [←e];exact h4)⟩]
   simp only [h1,h2,decide_true,Bool.true_or,Bool.and_self]
 have h1:1<=k:=by omega
 have hne:=stg_pos h1
 have hL:gR ⟨x,stg k⟩ s=if P.getD 0 []=qH then needS ⟨x,stg k⟩ P else if P.getD 0 []=jO then anyS ⟨x,stg k⟩ s else if P.getD 0 []=kD then whenS ⟨x,stg k⟩ s else if P.getD 0 []=wW then optS ⟨x,stg k⟩ P else if P.getD 0 []=j7 then barS ⟨x,stg k⟩ s else if P.getD 0 []=y9 then featS ⟨x,stg k⟩ P else none:=by
  unfold gR;rw [if_neg hne,hP]
 rw [hL]
 clear hL
 have lays_cases:∀ {Q:La->Prop},Q ⟨1,vG,0,0,3,false,false⟩->Q ⟨2,qH,1,5,1,false,false⟩->Q ⟨3,jO,2,3,5,true,false⟩->Q ⟨4,kD,2,3,2,true,false⟩->Q ⟨5,wW,2,4,2,false,false⟩->Q ⟨6,j7,1,7,3,true,false⟩->Q ⟨7,kD,6,6,2,true,false⟩->Q ⟨8,y9,1,8,2,false,true⟩→∀ y∈lays,Q y:=λ{Q} q1 q2 q3 q4 q5 q6 q7 q8 y hy=>by
  simp only [lays,List.mem_cons,List.not_mem_nil,or_false] at hy
  rcases hy with rfl|rfl|rfl|rfl|rfl|rfl|rfl|rfl<;>assumption
 by_cases w2:P.getD 0 []=qH
 ·rw [if_pos w2]
  have hone:∀ y∈lays,mK y k s->y=⟨2,qH,1,5,1,false,false⟩:=mE (by rw [hP];exact w2) (lays_cases (λh=>absurd h (by decide)) (λ_ _ _=>rfl) (λh=>absurd h (by decide)) (λh=>absurd h (by decide)) (λh=>absurd h (by decide)) (λh=>absurd h (by decide)) (λh=>absurd h (by decide)) (λh=>absurd h (by decide)))
  have hk:wQ ⟨2,qH,1,5,1,false,false⟩ s=true↔P.length=1:=by
   unfold wQ
   rw [dG rfl,hP]
   simp only [Bool.false_and,Bool.or_false,Bool.and_eq_true,decide_eq_true_eq]
   refine ⟨λh=>h.1.1,λh=>⟨⟨h,w2⟩, ?_⟩⟩
   match P,h,w2 with
   | [a],_,w2=>
    have:a=qH:=w2
    subst this;decide
  unfold needS
  by_cases hf:mK ⟨2,qH,1,5,1,false,false⟩ k s
  ·rw [vD hf hone (by decide),if_pos ⟨hk.1 hf.2.2,hs.2.2.1.2 hf.2.1⟩]
   exact ⟨rfl,⟨by decide,λh=>absurd h (by decide),λ_ _=>by simp [dZ],λh=>absurd h (by decide)⟩⟩
  ·rw [gL λy hy hq=>hf (hone y hy hq▸hq),if_neg λq=>hf ⟨h1,hs.2.2.1.1 q.2,hk.2 q.1⟩];trivial
 rw [if_neg w2]
 by_cases w3:P.getD 0 []=jO
 ·rw [if_pos w3]
  have hone:∀ y∈lays,mK y k s->y=⟨3,jO,2,3,5,true,false⟩:=mE (by rw [hP];exact w3) (lays_cases (λh=>absurd h (by decide)) (λh=>absurd h (by decide)) (λ_ _ _=>rfl) (λh=>absurd h (by decide)) (λh=>absurd h (by decide)) (λh=>absurd h (by decide)) (λh=>absurd h (by decide)) (λh=>absurd h (by decide)))
  have hk:=open_ok (l:=⟨3,jO,2,3,5,true,false⟩) (s:=s) rfl rfl (k:=4) rfl
  by_cases hf:mK ⟨3,jO,2,3,5,true,false⟩ k s
  ·rw [vD hf hone (by decide)]
   obtain ⟨w,t,e1,e2,e3⟩:=hk.1 hf.2.2
   have hw:=(fI e1).2
   rw [anyS_of e1]
   unfold outA
   rw [e2]
   match w,hw with
   | [a,b,c,d],_=>
    by_cases h5:d=g0\/d=jC
    ·rw [if_pos (by simpa [dZ] using h5),if_pos ⟨hs.1.2 ⟨hf.1,hf.2.1⟩,h5⟩]
     exact ⟨rfl,⟨by decide,λh=>absurd h (by decide),λ_ _=>m8 (hI.n hf.1 (by have:=hf.2.1;simp only at this;omega)),λh=>absurd h (by decide)⟩⟩
    ·rw [if_neg (by simpa [dZ] using h5),if_neg λq=>h5 q.2];trivial
  ·rw [gL λy hy hq=>hf (hone y hy hq▸hq)]
   cases e1:qW s 4 with
   |none=>rw [S_none.1 e1];trivial
   |some p=>
    obtain ⟨w,t⟩:=p
    rw [anyS_of e1,if_neg];· trivial
    intro q
    have h23:=hs.1.1 q.1
    exact hf ⟨h23.1,h23.2,hk.2 ⟨w,t,e1,pJ rfl rfl e1,by rw [(fI e1).1,hP];exact w3⟩⟩
 rw [if_neg w3]
 by_cases w4:P.getD 0 []=kD
 ·rw [if_pos w4]
  have hk4:=open_ok (l:=⟨4,kD,2,3,2,true,false⟩) (s:=s) rfl rfl (k:=1) rfl
  have hk7:=open_ok (l:=⟨7,kD,6,6,2,true,false⟩) (s:=s) rfl rfl (k:=1) rfl
  have hone4:k<=5→∀ y∈lays,mK y k s->y=⟨4,kD,2,3,2,true,false⟩:=λh5=>mE (by rw [hP];exact w4) (lays_cases (λh=>absurd h (by decide)) (λh=>absurd h (by decide)) (λh=>absurd h (by decide)) (λ_ _ _=>rfl) (λh=>absurd h (by decide)) (λh=>absurd h (by decide)) (λ_ h _=>absurd (show 6<=k from h) Om) (λh=>absurd h (by decide)))
  have hone7:4<=k→∀ y∈lays,mK y k s->y=⟨7,kD,6,6,2,true,false⟩:=λh5=>mE (by rw [hP];exact w4) (lays_cases (λh=>absurd h (by decide)) (λh=>absurd h (by decide)) (λh=>absurd h (by decide)) (λ_ _ h=>absurd (show k<=3 from h) Om) (λh=>absurd h (by decide)) (λh=>absurd h (by decide)) (λ_ _ _=>rfl) (λh=>absurd h (by decide)))
  cases e1:qW s 1 with
  |none=>
   rw [S_none.2.1 e1,gL];· trivial
   intro y hy hf
   by_cases h5:k<=5
   ·obtain rfl:=hone4 h5 y hy hf
    obtain ⟨w,t,e,_⟩:=hk4.1 hf.2.2
    rw [e1] at e;cases e
   ·obtain rfl:=hone7 Om y hy hf
    obtain ⟨w,t,e,_⟩:=hk7.1 hf.2.2
    rw [e1] at e;cases e
  |some p=>
   obtain ⟨w,t⟩:=p
   have hw:=(fI e1).2
   have hw0:(w++[t]).getD 0 []=kD:=by rw [(fI e1).1,hP];exact w4
   rw [whenS_of e1]
   match w,hw with
   | [a],_=>
    by_cases h2:stg k=2
    ·have h23:=hs.1.1 h2
     rw [if_pos h2,vD (l:=⟨4,kD,2,3,2,true,false⟩) ⟨h23.1,h23.2,hk4.2 ⟨_,t,e1,pJ rfl rfl e1,hw0⟩⟩ (hone4 Om) (by decide)]
     unfold outA
     rw [pJ (l:=⟨4,kD,2,3,2,true,false⟩) rfl rfl e1]
     exact ⟨rfl,⟨by decide,λh=>absurd h (by decide),λ_ _=>m8 (hI.n h23.1 Om),λh=>absurd h (by decide)⟩⟩
    ·rw [if_neg h2]
     by_cases h5:stg k=5
     ·have h6:=hs.2.1.1 h5
      subst h6
      rw [if_pos h5,vD (l:=⟨7,kD,6,6,2,true,false⟩) ⟨Nat.le_refl _,Nat.le_refl _,hk7.2 ⟨_,t,e1,pJ rfl rfl e1,hw0⟩⟩ (hone7 Om) (by decide)]
      unfold outA
      rw [pJ (l:=⟨7,kD,6,6,2,true,false⟩) rfl rfl e1]
      exact ⟨rfl,⟨by decide,λh=>absurd h (by decide),λ_ h=>absurd h (by decide),λ_ _=>m8 (hI.b Om Om)⟩⟩
     ·rw [if_neg h5,gL];· trivial
      intro y hy hf
      by_cases h9:k<=5
      ·obtain rfl:=hone4 h9 y hy hf
       exact h2 (hs.1.2 ⟨hf.1,hf.2.1⟩)
      ·obtain rfl:=hone7 Om y hy hf
       have q1:6<=k:=hf.1
       have q2:k<=6:=hf.2.1
       exact h5 (hs.2.1.2 Om)
 rw [if_neg w4]
 by_cases w5:P.getD 0 []=wW
 ·rw [if_pos w5]
  have hone:∀ y∈lays,mK y k s->y=⟨5,wW,2,4,2,false,false⟩:=mE (by rw [hP];exact w5) (lays_cases (λh=>absurd h (by decide)) (λh=>absurd h (by decide)) (λh=>absurd h (by decide)) (λh=>absurd h (by decide)) (λ_ _ _=>rfl) (λh=>absurd h (by decide)) (λh=>absurd h (by decide)) (λh=>absurd h (by decide)))
  have hk:wQ ⟨5,wW,2,4,2,false,false⟩ s=true↔P.length=2/\noE P=true:=by
   unfold wQ
   rw [dG rfl,hP]
   simp only [Bool.false_and,Bool.or_false,Bool.and_eq_true,decide_eq_true_eq]
   exact ⟨λh=>⟨h.1.1,h.2⟩,λh=>⟨⟨h.1,w5⟩,h.2⟩⟩
  have h24:(stg k=2\/stg k=3)↔2<=k/\k<=4:=by rw [hs.1,hs.2.2.2.2];omega
  unfold optS
  by_cases hf:mK ⟨5,wW,2,4,2,false,false⟩ k s
  ·obtain ⟨h2,h3⟩:=hk.1 hf.2.2
   rw [vD hf hone (by decide),if_pos ⟨h2,h3,h24.2 ⟨hf.1,hf.2.1⟩⟩]
   unfold outA
   rw [dG rfl,hP]
   exact ⟨rfl,⟨by decide,λh=>absurd h (by decide),λ_ _=>m8 (hI.n hf.1 (by have:=hf.2.1;simp only at this;omega)),λh=>absurd h (by decide)⟩⟩
  ·rw [gL λy hy hq=>hf (hone y hy hq▸hq),if_neg λq=>hf ⟨(h24.1 q.2.2).1,(h24.1 q.2.2).2,hk.2 ⟨q.1,q.2.1⟩⟩];trivial
 rw [if_neg w5]
 by_cases w6:P.getD 0 []=j7
 ·rw [if_pos w6]
  have hone:∀ y∈lays,mK y k s->y=⟨6,j7,1,7,3,true,false⟩:=mE (by rw [hP];exact w6) (lays_cases (λh=>absurd h (by decide)) (λh=>absurd h (by decide)) (λh=>absurd h (by decide)) (λh=>absurd h (by decide)) (λh=>absurd h (by decide)) (λ_ _ _=>rfl) (λh=>absurd h (by decide)) (λh=>absurd h (by decide)))
  have hk:=open_ok (l:=⟨6,j7,1,7,3,true,false⟩) (s:=s) rfl rfl (k:=2) rfl
  by_cases hf:mK ⟨6,j7,1,7,3,true,false⟩ k s
  ·rw [vD hf hone (by decide)]
   obtain ⟨w,t,e1,e2,e3⟩:=hk.1 hf.2.2
   have hw:=(fI e1).2
   rw [barS_of e1,if_pos (hs.2.2.2.1.2 hf.2.1)]
   unfold outA
   rw [e2]
   match w,hw with
   | [a,b],_=>exact ⟨rfl,⟨by decide,λh=>absurd h (by decide),λ_ h=>absurd h (by decide),λ_ _=>by simp [dZ]⟩⟩
  ·rw [gL λy hy hq=>hf (hone y hy hq▸hq)]
   cases e1:qW s 2 with
   |none=>rw [S_none.2.2 e1];trivial
   |some p=>
    obtain ⟨w,t⟩:=p
    rw [barS_of e1,if_neg];· trivial
    intro q
    exact hf ⟨h1,hs.2.2.2.1.1 q,hk.2 ⟨w,t,e1,pJ rfl rfl e1,by rw [(fI e1).1,hP];exact w6⟩⟩
 rw [if_neg w6]
 by_cases w8:P.getD 0 []=y9
 ·rw [if_pos w8]
  have hone:∀ y∈lays,mK y k s->y=⟨8,y9,1,8,2,false,true⟩:=mE (by rw [hP];exact w8) (lays_cases (λh=>absurd h (by decide)) (λh=>absurd h (by decide)) (λh=>absurd h (by decide)) (λh=>absurd h (by decide)) (λh=>absurd h (by decide)) (λh=>absurd h (by decide)) (λh=>absurd h (by decide)) (λ_ _ _=>rfl))
  have hk:wQ ⟨8,y9,1,8,2,false,true⟩ s=true↔2<=P.length/\noE P=true:=by
   unfold wQ
   rw [dG rfl,hP]
   simp only [Bool.true_and,Bool.and_eq_true,Bool.or_eq_true,decide_eq_true_eq]
   exact ⟨λh=>⟨by omega,h.2⟩,λh=>⟨⟨by omega,w8⟩,h.2⟩⟩
  unfold featS
  by_cases hf:mK ⟨8,y9,1,8,2,false,true⟩ k s
  ·rw [vD hf hone (by decide),if_pos (hk.1 hf.2.2)]
   unfold outA
   rw [dG rfl,hP]
   exact ⟨rfl,⟨by decide,λh=>absurd h (by decide),λ_ h=>absurd h (by decide),λ_ h=>absurd h (by decide)⟩⟩
  ·rw [gL λy hy hq=>hf (hone y hy hq▸hq),if_neg λq=>hf ⟨h1,h8,hk.2 q⟩];trivial
 rw [if_neg w8,gL];· trivial
 intro y hy hf
 have hw:=la_word (lays_open y hy) hf.2.2
 rw [hP] at hw
 have:y.word=vG\/y.word=qH\/y.word=jO\/y.word=kD\/y.word=wW\/y.word=j7\/y.word=y9:=lays_cases (Q:=λy=>y.word=vG\/y.word=qH\/y.word=jO\/y.word=kD\/y.word=wW\/y.word=j7\/y.word=y9) (by simp) (by simp) (by simp) (by simp) (by simp) (by simp) (by simp) (by simp) y hy
 rcases this with e|e|e|e|e|e|e
 ·have hy1:y=⟨1,vG,0,0,3,false,false⟩:=by
   revert e
   exact lays_cases (Q:=λy=>y.word=vG->y=⟨1,vG,0,0,3,false,false⟩) (λ_=>rfl) (λh=>absurd h (by decide)) (λh=>absurd h (by decide)) (λh=>absurd h (by decide)) (λh=>absurd h (by decide)) (λh=>absurd h (by decide)) (λh=>absurd h (by decide)) (λh=>absurd h (by decide)) y hy
  subst hy1
  exact h0 (Nat.le_zero.1 hf.2.1)
 ·exact w2 (hw.trans e)
 ·exact w3 (hw.trans e)
 ·exact w4 (hw.trans e)
 ·exact w5 (hw.trans e)
 ·exact w6 (hw.trans e)
 ·exact w8 (hw.trans e)
end
section
set_option linter.unnecessarySimpa false
theorem reads_t {w:World}{A:Option Addr}{cap:Nat}{l:List YL}{B:Nat}(h:Reads zW w B A l)(hB:B<=B):ReadsT w B (.slice A l.length cap) l:=
 ⟨A,cap,rfl,λh0=>by
  obtain ⟨b,off,e,hlt,hc⟩:=h h0
  refine ⟨⟨b,off,none⟩,e,hlt,λj hj=> ?_⟩
  rw [yX]
  refine hc j _ ?_
  rw [←x6]
  unfold vV
  rw [List.getElem?_map,List.getElem?_eq_getElem hj];rfl⟩
theorem r12when_any (s:YL)(W:World)(hs:s.length<=1048576):YC 82 #[.string (mkS s)] W (YR (.string (mkS (gP s))) W):=by
 refine zF Tryz.func82 (qF 4 [] s [] (λh=> ?_) (λh=> ?_))
 ·exact z8 [] (.string ⟨#[]⟩) λw hO=>⟨by rw [show gP s=[] from if_pos h];rfl,hO.below⟩
 ·refine xB 6 [] m4 s (xB 7 [] (m4++s) [10] ?_ ?_) ?_
  ·exact z8 [] (.string (mkS (m4++s++[10]))) λw hO=>⟨by rw [show gP s=m4++s++[10] from if_neg h],hO.below⟩
  ·unfold m4;simp only [List.length_append,List.length_cons,List.length_nil];omega
  ·unfold m4;simp only [List.length_cons,List.length_nil];omega
theorem r12wished_any (x:Wv)(W:World)(hv:Reads zW W W.heap.size x.A x.fs)(hn:x.fs.length<=5000)(ht:(xP x.wt).length<=100000000):YC 81 #[wvV x] W (YR (.string (mkS (xP x.wt))) W):=by
 have hT:(xP x.wt).length=4+x.name.length+1+(gV x.fs).length+1+4+1+x.rng.length+1:=by
  unfold xP gH txAny g0 jC Wv.wt
  cases x.bare<;>simp only [List.length_append,List.length_cons,List.length_nil,if_true,Bool.false_eq_true,if_false]
 rw [hT] at ht
 have main:∀ (fl kd:YL),fl=gV x.fs->kd=gH x.bare->txAny++x.name++[32]++fl++[32]++kd++[32]++x.rng++[10]=xP x.wt:=λfl kd h1 h2=>by rw [h1,h2];rfl
 have hk4:(gH x.bare).length=4:=by unfold gH;cases x.bare<;>rfl
 have hJ:∀ w,YB W w->x.fs≠[]->YC 55 #[.slice x.A x.fs.length x.cap,.int .u8 44] w (YR (.string (mkS (gV x.fs))) w):=λw hb hne=>by
  have hw:gV x.fs=zD 44 x.fs:=if_neg hne
  rw [hw]
  exact pB _ x.fs 44 w (reads_t (hv.on hb hb.size) (Nat.le_refl _)) (by rw [←hw];omega) Om
 refine zF Tryz.func81 (x1 [] λb1=>vS 8 (α:=YL) (λfl=>[(1,Zp b1 0),(3,.string (mkS fl)),(4,.string (mkS jC))]) (λ_=>[⟨b1, #[.string (mkS x.name),.string (mkS x.rng),.slice x.A x.fs.length x.cap,.bool x.bare],134⟩]) (λfl=>fl=gV x.fs) [0] (λnj=>bO 8 ((0:Int)<(x.fs.length:Int)) (λh=> ?_) (λh=> ?_)) (λfl g hfl=> ?_))
 ·refine z7 (v:= .string (mkS (gV x.fs))) [0] (λw hO=>hJ w hO.below (λe=>by rw [e] at h;simp at h)) (nj (gV x.fs) [] rfl Kr)
 ·exact nj [45] [] (show [45]=gV x.fs from by unfold gV;rw [if_pos (List.eq_nil_of_length_eq_zero Om)]) Kr
 refine vS 13 (α:=YL) (λkd=>[(1,Zp b1 0),(3,.string (mkS fl)),(4,.string (mkS kd))]) (λ_=>[⟨b1, #[.string (mkS x.name),.string (mkS x.rng),.slice x.A x.fs.length x.cap,.bool x.bare],134⟩]) (λkd=>kd=gH x.bare) [0] (λnj=>zS 13 x.bare (λh=>nj g0 [] (by rw [h];rfl) Kr) (λh=>nj jC [] (by rw [h];rfl) Kr)) (λkd g2 hkd=> ?_)
 have hfl':fl.length=(gV x.fs).length:=by rw [hfl]
 have hkd':kd.length=4:=by rw [hkd];exact hk4
 have ha:txAny.length=4:=rfl
 refine xB 16 [0] txAny x.name (xB 17 [] (txAny++x.name) [32] (xB 19 [] (txAny++x.name++[32]) fl (xB 20 [] (txAny++x.name++[32]++fl) [32] (xB 22 [] (txAny++x.name++[32]++fl++[32]) kd (xB 23 [] (txAny++x.name++[32]++fl++[32]++kd) [32] (xB 26 [0] (txAny++x.name++[32]++fl++[32]++kd++[32]) x.rng (xB 27 [] (txAny++x.name++[32]++fl++[32]++kd++[32]++x.rng) [10] ?_)))))))
 exact z8 [] (.string (mkS (txAny++x.name++[32]++fl++[32]++kd++[32]++x.rng++[10]))) λw hO=>⟨by rw [main fl kd hfl hkd],hO.below⟩
end
section
theorem wN (b:UInt8):∀ (k:Nat) (s:YL),Lib.splitK [b] 0 k s=jR b k s
 |0,s=>rfl
 |k+1,s=>by
  have hc:=cutAt_cut b s
  have hge:=Lib.index_ge s [b]
  unfold Lib.splitK jR
  rw [←hc]
  unfold Lib.cut
  by_cases h:Lib.index s [b]= -1
  ·have h2:¬ 0<=Lib.index s [b]:=by omega
   simp [h]
  ·have h2:0<=Lib.index s [b]:=by omega
   simp [h,h2,wN b k]
theorem pcsB_more (b:UInt8):∀ (k:Nat) (s:YL),s.length<=k->jR b k s=jR b (k+1) s
 |0,s,h=>by
  obtain rfl:=List.eq_nil_of_length_eq_zero (Nat.le_zero.1 h)
  rfl
 |k+1,s,h=>by
  have hl:=pO b s
  rw [jR]
  conv=>rhs;rw [jR]
  cases hq:(zA b s).2.2 with
  |false=>rw [if_neg Bool.false_ne_true,if_neg Bool.false_ne_true]
  |true=>
   rw [hq,if_pos rfl] at hl
   rw [if_pos rfl,if_pos rfl,pcsB_more b k _ Om]
theorem pcsB_min (b:UInt8)(s:YL):∀ k:Nat,jR b (min k s.length) s=jR b k s
 |0=>by rw [Nat.zero_min]
 |k+1=>by
  by_cases h:s.length<=k
  ·rw [Nat.min_eq_right Om,←pcsB_more b k s h,←pcsB_min b s k,Nat.min_eq_right h]
  ·rw [Nat.min_eq_left Om]
theorem bT (b:UInt8):∀ (k:Nat) (s:YL),1<=(jR b k s).length/\(jR b k s).length<=k+1
 |0,s=>⟨Nat.le_refl _,Nat.le_refl _⟩
 |k+1,s=>by
  have h:=bT b k (zA b s).2.1
  unfold jR
  split
  ·simp only [List.length_cons];omega
  ·simp
theorem split_len32 (b:UInt8)(s:YL):(zB b [] s).length<=s.length+1:=by
 rw [←m6 b s,wN]
 have h:=(bT b (min (Lib.count s [b]) s.length) s).2
 rw [pcsB_min] at h
 omega
theorem splitC_any (c0:UInt8)(s:YL)(n:Int)(W:World)(hs:s.length<=1048576)(hn:n= -1\/1<=n/\n<=1000):
  YC 150 #[.string (mkS s),.string ⟨#[c0]⟩,YI 0,YI n] W λe w'=>∃ v' ob',e= .returned v'/\SlT v' (if n<0 then zB c0 [] s else jR c0 (n.toNat-1) s) ob'/\Own [] W w' ob':=by
 have hsz:=y7 s
 have hI:∀ (x:ByteArray) (c:Array Value),x.size<=(mkS s).size->YC 192 #[.string x,.string ⟨#[c0]⟩] (W.alloc (.cells c 9)) λe w'=>e= .returned (YI (Lib.indexB x ⟨#[c0]⟩))/\w'=W.alloc (.cells c 9):=
  λx c _=>(Tryz.strings_Index_one x c0 _).mono λe w' ⟨he,hw⟩=>⟨by rw [he,dW];try rfl,hw⟩
 have hC:YC 191 #[.string (mkS s),.string ⟨#[c0]⟩] W λe w'=>e= .returned (YI (Lib.countB (mkS s) ⟨#[c0]⟩))/\w'=W:=
  (Tryz.strings_Count_one (mkS s) c0 W).mono λe w' ⟨he,hw⟩=>⟨by rw [he];show _=Ending.returned (Value.int .i64 ((Lib.count (mkS s).data.toList [c0]:Nat):Int));rw [Lib.count_one];rfl,hw⟩
 obtain ⟨cn,hcn⟩:∃ cn,Lib.count s [c0]=cn:=⟨_,rfl⟩
 have hcB:Lib.countB (mkS s) ⟨#[c0]⟩=cn:=by unfold Lib.countB;rw [mk_data,show (⟨#[c0]⟩:ByteArray).data.toList=[c0] from rfl,hcn]
 have hcl:cn<=s.length:=by rw [←hcn,Lib.count_one];exact List.count_le_length
 obtain ⟨N,hN⟩:∃ N:Nat,(N:Int)=min (if n<0 then (Lib.countB (mkS s) ⟨#[c0]⟩:Int)+1 else n) (((mkS s).size:Int)+1):=by
  refine ⟨(min (if n<0 then (Lib.countB (mkS s) ⟨#[c0]⟩:Int)+1 else n) (((mkS s).size:Int)+1)).toNat,Int.toNat_of_nonneg ?_⟩
  split<;>omega
 have c:=Any.strings_genSplit_core Tryz.lays221 Kr (mkS s) ⟨#[c0]⟩ 0 n N W Om (Nat.le_refl 1) (Nat.zero_le _) hI hC Om Om hN
 rw [hcB,hsz] at hN
 have hB:Lib.splitB ⟨#[c0]⟩ 0 (N-1) (mkS s)=(if n<0 then zB c0 [] s else jR c0 (n.toNat-1) s).map mkS:=by
  have h:=nH [c0] (N-1) s
  rw [show (mkS [c0]:ByteArray)=⟨#[c0]⟩ from rfl] at h
  rw [h,wN]
  congr 1
  split
  ·rename_i h0
   rw [if_pos h0] at hN
   rw [show N-1=cn by omega,←wN,←hcn,m6]
  ·rename_i h0
   rw [if_neg h0] at hN
   rw [←pcsB_min c0 s (n.toNat-1)]
   congr 1
   omega
 rw [hB] at c
 generalize hl:(if n<0 then zB c0 [] s else jR c0 (n.toNat-1) s)=l at c ⊢
 have hle:l.length<=N:=by
  rw [←hl]
  split
  ·rename_i h0
   rw [if_pos h0] at hN
   rw [←m6 c0 s,wN,hcn]
   have:=(bT c0 cn s).2
   omega
  ·rename_i h0
   rw [if_neg h0] at hN
   have h1:=(bT c0 (n.toNat-1) s).2
   have h2:=(bT c0 (min (n.toNat-1) s.length) s).2
   rw [pcsB_min] at h2
   omega
 have hNm:N<=1048577:=by omega
 rw [List.length_map] at c
 refine Calls.mono c λe w' ⟨he,hw⟩=> ?_
 subst hw
 refine ⟨_,_,he,⟨by rw [wM];omega,.inr ⟨W.heap.size,N,_,rfl,rfl,hle,by unfold maxLen;omega,by rw [Lib.cellsOf_size (by rw [List.length_map];exact hle),Nat.mul_one], ?_⟩⟩,(Own.start [] W).alloc _ _⟩
 unfold Lib.cellsOf
 rw [List.map_map,List.take_append_of_le_length (by rw [List.length_map];omega),List.take_of_length_le (by rw [List.length_map];omega)]
 rfl
theorem split32_any (s:YL)(n:Int)(W:World)(hs:s.length<=1048576)(hn:n= -1\/1<=n/\n<=1000):
  YC 150 #[.string (mkS s),.string ⟨#[32]⟩,YI 0,YI n] W λe w'=>∃ v' ob',e= .returned v'/\SlT v' (if n<0 then zB 32 [] s else jR 32 (n.toNat-1) s) ob'/\Own [] W w' ob':=splitC_any 32 s n W hs hn
theorem splitN32_any (s:YL)(n:Int)(W:World)(hs:s.length<=1048576)(hn:n= -1\/1<=n/\n<=1000):YC 103 #[.string (mkS s),.string ⟨#[32]⟩,YI n] W λe w'=>∃ v' ob',e= .returned v'/\SlT v' (if n<0 then zB 32 [] s else jR 32 (n.toNat-1) s) ob'/\Own [] W w' ob':=by
 have hc:∀ w,YB W w->YC 150 #[.string (mkS s),.string ⟨#[32]⟩,YI 0,YI n] w λe w'=>∃ v ob,e= .returned v/\SlT v (if n<0 then zB 32 [] s else jR 32 (n.toNat-1) s) ob/\Own [] w w' ob:=λw _=>split32_any s n w hs hn
 generalize (if n<0 then zB 32 [] s else jR 32 (n.toNat-1) s)=l at hc ⊢
 refine zF Tryz.func103 (k7 (R:=λv ob=>SlT v l ob) [] (λw hO=>hc w hO.below) λv ob hR=> ?_)
 exact z8 [] v λw hO=>⟨v,ob,rfl,hR,hO.past 0 _⟩
theorem qHole_any (A:Option Addr)(cap:Nat)(l:List YL)(W:World)(hv:Reads zW W W.heap.size A l)(hn:l.length<=2097152):YC 104 #[.slice A l.length cap,.string ⟨#[]⟩] W (YR (.bool (!noE l)) W):=by
 have key:∀ w,YB W w->YC 151 #[.slice A l.length cap,.string ⟨#[]⟩] w λe w'=>∃ v,e= .returned v/\(∃ z:Int,v=YI z/\decide (0<=z)= !noE l)/\YB w w':=λw0 hb0=>by
  have hv0:=hv.on hb0 hb0.size
  refine zF Tryz.func151 (zX (α:=Nat) (λi=>[(0,.slice A l.length cap),(1,.string (mkS [])),(7,YI (l.length:Int)),(8,YI (i:Int))]) (λ_=>[]) (λi m=>(i<=l.length∧∀ y∈l.take i,y≠[])/\m=l.length-i) 0 l.length [] ⟨⟨Nat.zero_le _,λy h=>by simp at h⟩,rfl⟩ ?_)
  rintro i mm g kk ⟨⟨hi,hno⟩,hmm⟩ nx hkk
  subst hkk
  refine zG 9 [] ((i:Int)<(l.length:Int)) (λh9=> ?_) (λh9=> ?_)
  rotate_left
  ·refine z8 [] (YI (-1)) λw hO=>⟨_,rfl,⟨-1,rfl, ?_⟩,hO.below⟩
   have hall:=yZ (p:=λy:YL=>y≠[]) (show l.length<=i by omega) hno
   rw [show noE l=true from List.all_eq_true.2 λy hy=>by simpa using hall y hy];rfl
  have hj:i<l.length:=by omega
  obtain ⟨eb,eo,hA,hel⟩:=hv0.elem zU i hj
  have hgo:=yD (p:=λy:YL=>y≠[]) hj hno
  have hsm:l[i]∈l:=List.getElem_mem hj
  have hel0:∀ w,YB w0 w->(loadVar 9 ⟨eb,eo+i*1+0,none⟩).run YP w= .ok (.string (mkS l[i])) w:=λw hw=>hel w hw _ 0 _ Kr
  generalize l[i]=y at hel0 hgo hsm
  refine zO 14 [] hA l.length cap i 1 hj (zL 15 [] 9 eb (eo+i*1+0) (.string (mkS y)) (λw hO=>hel0 w hO.below) (qF 16 [] [] y (λh16=> ?_) (λh16=> ?_)))
  ·refine z8 [] (YI (i:Int)) λw hO=>⟨_,rfl,⟨(i:Int),rfl, ?_⟩,hO.below⟩
   rw [show noE l=false from List.all_eq_false.2 ⟨y,hsm,by simp [←h16]⟩,decide_eq_true Om];rfl
  ·exact x_i 18 [] ((i+1:Nat):Int) (nx (i+1) (l.length-(i+1)) [] Om ⟨⟨hj,hgo (λe=>h16 e.symm)⟩,rfl⟩ Kr Kr)
 refine zF Tryz.func104 (bD (R:=λv=>∃ z:Int,v=YI z/\decide (0<=z)= !noE l) [] (λw hO=>key w hO.below) ?_)
 rintro v ⟨z,rfl,hz⟩
 exact z8 [] (.bool (decide (0<=z))) λw hO=>⟨by rw [hz],hO.below⟩
end
section
structure PV (W:World) where
 k:FuncId
 f:List Value->Option Value
 ok:∀ args v,f args=some v→∀ w,YB W w->Calls YP k args.toArray w λen w'=>en= .returned v/\YB w w'
structure PS (W:World) where
 k:FuncId
 f:List YL->List Value->Option Value
 ok:∀ l A cap rest v,f l rest=some v->l.length<=cap→∀ w,YB W w->Reads zW w w.heap.size A l->Calls YP k (Value.slice A l.length cap::rest).toArray w λen w'=>en= .returned v/\YB w w'
structure PL (W:World) where
 k:FuncId
 f:List Value->Option (List YL)
 ok:∀ args l,f args=some l→∀ w,YB W w->Calls YP k args.toArray w λen w'=>∃ v ob,en= .returned v/\SlT v l ob/\Own [] w w' ob
def strsQ:List Value->Option (List YL)
 | []=>some []
 | .string s::r=>match strsQ r with
  |some l=>some (s.data.toList::l)
  |none=>none
 |_=>none
theorem strsQ_ok:∀ {xs:List Value} {l:List YL},strsQ xs=some l->xs=l.flatMap zW/\xs.length=l.length
 | [],l,h=>by cases h;exact ⟨rfl,rfl⟩
 |x::r,l,h=>by
  cases x with
  |string s=>
   unfold strsQ at h
   cases hr:strsQ r with
   |none=>rw [hr] at h;cases h
   |some l'=>
    rw [hr] at h;cases h
    obtain ⟨h1,h2⟩:=strsQ_ok hr
    refine ⟨?_,by simp [h2]⟩
    rw [List.flatMap_cons,←h1];rfl
  |_=>unfold strsQ at h;cases h
section
variable {W:World}
def prL (vs:List (PV W))(ss:List (PS W))(ls:List (PL W)):Prm where
 sa k:=bif ss.any λp=>Nat.beq p.k k then some 0 else none
 val k args xs:=match ss.find? λp=>Nat.beq p.k k with
  |some p=>match strsQ xs,args.toList with
   |some l,_::rest=>p.f l rest
   |_,_=>none
  |none=>match vs.find? λp=>Nat.beq p.k k with
   |some p=>p.f args.toList
   |none=>none
 lst k args:=match ls.find? λp=>Nat.beq p.k k with
  |some p=>match p.f args.toList with
   |some l=>some (9,l.map λs=> .string (mkS s))
   |none=>none
  |none=>none
theorem prL_ok (vs:List (PV W))(ss:List (PS W))(ls:List (PL W)):PrOk YP (prL vs ss ls) [] W:=by
 have hsa:∀ {k:FuncId} {a:Nat},(prL vs ss ls).sa k=some a->a=0:=λ{k a} h=>by
  unfold prL at h
  dsimp only at h
  cases hb:ss.any λp=>Nat.beq p.k k with
  |true=>rw [hb] at h;exact (Option.some.inj h).symm
  |false=>rw [hb] at h;cases h
 have key:∀ {k:FuncId} {args:Array Value} {v:Value} {xs:List Value} {A:Option Addr} {n cap:Nat},(prL vs ss ls).sa k=some 0->args.getD 0 undef= .slice A n cap->n<=cap->xs.length=n->(prL vs ss ls).val k args xs=some v→∀ w,Own [] W w []->(0<n→∃ b o,A=some ⟨b,o,none⟩/\b<w.heap.size∧∀ j u,xs[j]?=some u->w.cell? ⟨b,o+j,none⟩=some u)->Calls YP k args w λen w'=>en= .returned v/\YB w w':=λ{k args v xs A n cap} hs ha hcap hl hv w hO hc=>by
  obtain ⟨ar⟩:=args
  unfold prL at hv hs
  dsimp only at hv hs
  cases hf:ss.find? λp=>Nat.beq p.k k with
  |none=>
   rw [List.find?_eq_none] at hf
   cases hb:ss.any λp=>Nat.beq p.k k with
   |true=>
    obtain ⟨p,hp,hq⟩:=List.any_eq_true.1 hb
    exact absurd hq (hf p hp)
   |false=>rw [hb] at hs;cases hs
  |some p=>
   rw [hf] at hv
   dsimp only at hv
   have hk:=Nat.eq_of_beq_eq_true (List.find?_some (p:=λp:PS W=>Nat.beq p.k k) hf)
   cases h1:strsQ xs with
   |none=>rw [h1] at hv;cases hv
   |some l=>
    rw [h1] at hv
    cases ar with
    |nil=>cases hv
    |cons a0 rest=>
     obtain ⟨e1,e2⟩:=strsQ_ok h1
     have ha:a0= .slice A n cap:=ha
     subst ha
     have hln:l.length=n:=by rw [←e2,hl]
     subst hln
     rw [←hk]
     exact p.ok l A cap rest v hv hcap w hO.below λh0=>by
      obtain ⟨b,o,q1,q2,q3⟩:=hc h0
      exact ⟨b,o,q1,q2,by rw [←e1];exact q3⟩
 refine ⟨λ{k args v} hs hv w hO=> ?_,λ{k a args v} hs ha hv w hO=> ?_,λ{k a args v b o n c xs} hs ha hnc hl hv w hO hb hc=> ?_,λ{k args T xs} hv w hO=> ?_⟩
 ·obtain ⟨ar⟩:=args
  unfold prL at hv hs
  dsimp only at hv hs
  have hn:ss.find? (λp=>Nat.beq p.k k)=none:=by
   rw [List.find?_eq_none]
   intro p hp hq
   rw [List.any_eq_true.2 ⟨p,hp,hq⟩] at hs;cases hs
  rw [hn] at hv
  dsimp only at hv
  cases hf:vs.find? λp=>Nat.beq p.k k with
  |none=>rw [hf] at hv;cases hv
  |some p=>
   rw [hf] at hv
   rw [←Nat.eq_of_beq_eq_true (List.find?_some (p:=λp:PV W=>Nat.beq p.k k) hf)]
   exact p.ok ar v hv w hO.below
 ·obtain rfl:=hsa hs
  exact key (xs:=[]) hs ha (Nat.le_refl _) rfl hv w hO λh=>absurd h (by decide)
 ·obtain rfl:=hsa hs
  exact key (n:=n) hs ha hnc hl hv w hO λ_=>⟨b,o,rfl,hb,hc⟩
 ·obtain ⟨ar⟩:=args
  unfold prL at hv
  dsimp only at hv
  cases hf:ls.find? λp=>Nat.beq p.k k with
  |none=>rw [hf] at hv;cases hv
  |some p=>
   rw [hf] at hv
   dsimp only at hv
   cases hl:p.f ar with
   |none=>rw [hl] at hv;cases hv
   |some l=>
    rw [hl] at hv
    cases hv
    rw [←Nat.eq_of_beq_eq_true (List.find?_some (p:=λp:PL W=>Nat.beq p.k k) hf)]
    refine (p.ok ar l hl w hO.below).mono λen w' ⟨v,ob,e1,e2,e3⟩=>⟨v,ob,e1, ?_,e3⟩
    rw [List.length_map]
    exact e2
end
def bsQ (s:ByteArray):YL:=s.data.toList
theorem bs_mk (s:ByteArray):mkS (bsQ s)=s:=rfl
section
variable (W:World)
def peTrim:PV W:=⟨177,fun
 | [.string s,.string ⟨⟨[32]⟩⟩]=>bif Nat.ble s.size 1000 then some (.string (mkS (bareL (bsQ s)))) else none
 |_=>none,λargs v h w hb=>by
  split at h
  ·rename_i s
   cases hc:Nat.ble s.size 1000 with
   |false=>rw [hc] at h;cases h
   |true=>
    rw [hc] at h;cases h
    exact trim_any (bsQ s) w (by have:=Nat.le_of_ble_eq_true hc;rw [←y7,bs_mk];omega)
  ·cases h⟩
def peCutPre:PV W:=⟨161,fun
 | [.string s,.string t]=>some (.tuple #[.string (mkS (cpL (bsQ s) (bsQ t))),.bool (gK (bsQ s) (bsQ t))])
 |_=>none,λargs v h w hb=>by
  split at h
  ·rename_i s t
   cases h
   exact cutpre_any (bsQ s) (bsQ t) w
  ·cases h⟩
def peCut:PV W:=⟨143,fun
 | [.string s,.string ⟨⟨[c]⟩⟩]=>bif Nat.ble s.size 1000 then some (.tuple #[.string (mkS (zA c (bsQ s)).1),.string (mkS (zA c (bsQ s)).2.1),.bool (zA c (bsQ s)).2.2]) else none
 |_=>none,λargs v h w hb=>by
  split at h
  ·rename_i s c
   cases hc:Nat.ble s.size 1000 with
   |false=>rw [hc] at h;cases h
   |true=>
    rw [hc] at h;cases h
    refine (cut_any (bsQ s) c w (by have:=Nat.le_of_ble_eq_true hc;rw [←y7,bs_mk];omega)).mono λen w' ⟨e1,n,e2⟩=>⟨e1, ?_⟩
    subst e2
    exact ⟨rfl,rfl,rfl,Nat.le_refl _,Nat.le_add_right _ _,λ_ _=>rfl⟩
  ·cases h⟩
def peClone:PV W:=⟨31,fun
 | [.string s]=>bif Nat.ble s.size 1000 then some (.string s) else none
 |_=>none,λargs v h w hb=>by
  split at h
  ·rename_i s
   cases hc:Nat.ble s.size 1000 with
   |false=>rw [hc] at h;cases h
   |true=>
    rw [hc] at h;cases h
    exact fW s w (by have:=Nat.le_of_ble_eq_true hc;omega)
  ·cases h⟩
def peNumber:PV W:=⟨156,fun
 | [.string s]=>bif Nat.ble s.size 1000 then some (.tuple #[.int .i64 (numV s),.bool (numOk s)]) else none
 |_=>none,λargs v h w hb=>by
  split at h
  ·rename_i s
   cases hc:Nat.ble s.size 1000 with
   |false=>rw [hc] at h;cases h
   |true=>
    rw [hc] at h;cases h
    exact number_any s w (by have:=Nat.le_of_ble_eq_true hc;unfold maxLen;omega)
  ·cases h⟩
def peWord:PV W:=⟨117,fun
 | [.string s]=>bif Nat.ble s.size 1000 then some (.bool (wordB s)) else none
 |_=>none,λargs v h w hb=>by
  split at h
  ·rename_i s
   cases hc:Nat.ble s.size 1000 with
   |false=>rw [hc] at h;cases h
   |true=>
    rw [hc] at h;cases h
    exact word_any s w (by have:=Nat.le_of_ble_eq_true hc;unfold maxLen;omega)
  ·cases h⟩
def peDigits (ht:HasTab W)(on:∀ w,YB W w->HasTab w):PV W:=⟨148,fun
 | [.int .i64 (.ofNat n)]=>bif Nat.ble n 100000 then some (.string (digS (.ofNat n))) else none
 |_=>none,λargs v h w hb=>by
  split at h
  ·rename_i n
   cases hc:Nat.ble n 100000 with
   |false=>rw [hc] at h;cases h
   |true=>
    rw [hc] at h;cases h
    have:=Nat.le_of_ble_eq_true hc
    exact digits_any (.ofNat n) (by show _<=(n:Int);omega) (by show (n:Int)<=_;omega) w (on w hb)
  ·cases h⟩
def peMayV:PV W:=⟨64,fun
 | [.agg ⟨[.int .i64 a,.int .i64 b,.int .i64 c,.string p,.string q]⟩]=>bif Nat.ble p.size 1000 && Nat.ble q.size 1000 then some (.bool (Ver.may ⟨a,b,c,bsQ p,bsQ q⟩)) else none
 |_=>none,λargs v h w hb=>by
  split at h
  ·rename_i a b c p q
   cases hc:(Nat.ble p.size 1000 && Nat.ble q.size 1000) with
   |false=>rw [hc] at h;cases h
   |true=>
    rw [hc] at h;cases h
    rw [Bool.and_eq_true] at hc
    have h1:=Nat.le_of_ble_eq_true hc.1
    have h2:=Nat.le_of_ble_eq_true hc.2
    exact may_any ⟨a,b,c,bsQ p,bsQ q⟩ w (by rw [←y7,bs_mk];omega) (by rw [←y7,bs_mk];omega)
  ·cases h⟩
def peGen:PL W:=⟨150,fun
 | [.string s,.string ⟨⟨[c]⟩⟩,.int .i64 0,.int .i64 n]=>bif Nat.ble s.size 1000 && (decide (n= -1)||decide (1<=n/\n<=1000)) then some (if n<0 then zB c [] (bsQ s) else jR c (n.toNat-1) (bsQ s)) else none
 |_=>none,λargs l h w hb=>by
  split at h
  ·rename_i s c n
   cases hc:(Nat.ble s.size 1000 && (decide (n= -1)||decide (1<=n/\n<=1000))) with
   |false=>rw [hc] at h;cases h
   |true=>
    rw [hc] at h;cases h
    rw [Bool.and_eq_true,Bool.or_eq_true,decide_eq_true_eq,decide_eq_true_eq] at hc
    exact splitC_any c (bsQ s) n w (by have:=Nat.le_of_ble_eq_true hc.1;rw [←y7,bs_mk];omega) hc.2
  ·cases h⟩
def peBars (ht:∀ w,YB W w->HasLib w):PL W:=⟨154,fun
 | [.string s,.string ⟨⟨[124,124]⟩⟩]=>bif Nat.ble s.size 1000 then some (wV [] (bsQ s)) else none
 |_=>none,λargs l h w hb=>by
  split at h
  ·rename_i s
   cases hc:Nat.ble s.size 1000 with
   |false=>rw [hc] at h;cases h
   |true=>
    rw [hc] at h;cases h
    exact split_bars (bsQ s) w (by have:=Nat.le_of_ble_eq_true hc;rw [←y7,bs_mk];omega) (ht w hb)
  ·cases h⟩
def peSplit:PL W:=⟨193,fun
 | [.string s,.int .u8 (.ofNat b)]=>bif Nat.ble s.size 1000 && Nat.ble b 255 then some (zB (UInt8.ofNat b) [] (bsQ s)) else none
 |_=>none,λargs l h w hb=>by
  split at h
  ·rename_i s b
   cases hc:(Nat.ble s.size 1000 && Nat.ble b 255) with
   |false=>rw [hc] at h;cases h
   |true=>
    rw [hc] at h;cases h
    rw [Bool.and_eq_true] at hc
    have h1:=Nat.le_of_ble_eq_true hc.1
    have h2:=Nat.le_of_ble_eq_true hc.2
    have e:(UInt8.ofNat b).toNat=b:=by rw [UInt8.toNat_ofNat'];omega
    have:=split_any s (UInt8.ofNat b) w Om
    rw [e] at this
    refine this.mono λen w' ⟨v,q1,q2,q3⟩=> ?_
    obtain ⟨ob,k1,k2⟩:=Own.row q2 q3
    unfold qJ at k1
    exact ⟨v,ob,q1,k1,k2⟩
  ·cases h⟩
def peJoin:PS W:=⟨146,λl r=>match r with
 | [.int .u8 (.ofNat b)]=>bif Nat.ble b 255 && Nat.ble (zD (UInt8.ofNat b) l).length 10000 && Nat.ble l.length 10000 && !(zD (UInt8.ofNat b) l).isEmpty then some (.string (mkS (zD (UInt8.ofNat b) l))) else none
 |_=>none,λl A cap rest v h hcp w hb hv=>by
  split at h
  ·rename_i b
   cases hc:(Nat.ble b 255 && Nat.ble (zD (UInt8.ofNat b) l).length 10000 && Nat.ble l.length 10000 && !(zD (UInt8.ofNat b) l).isEmpty) with
   |false=>rw [hc] at h;cases h
   |true=>
    rw [hc] at h;cases h
    simp only [Bool.and_eq_true] at hc
    obtain ⟨⟨⟨h1,h2⟩,h3⟩,h4⟩:=hc
    have h1:=Nat.le_of_ble_eq_true h1
    have h2:=Nat.le_of_ble_eq_true h2
    have h3:=Nat.le_of_ble_eq_true h3
    have e:(UInt8.ofNat b).toNat=b:=by rw [UInt8.toNat_ofNat'];omega
    have:=bZ (.slice A l.length cap) l (UInt8.ofNat b) w ⟨A,cap,rfl,λh0=>by
     obtain ⟨b,o,q1,q2,q3⟩:=hv h0
     refine ⟨⟨b,o,none⟩,q1,q2,λj hj=> ?_⟩
     rw [yX]
     refine q3 j _ ?_
     rw [←x6]
     unfold vV
     rw [List.getElem?_map,List.getElem?_eq_getElem hj];rfl⟩ (by omega) (by omega) (by intro q;rw [q] at h4;exact absurd h4 (by decide))
    rw [e] at this
    exact this
  ·cases h⟩
def peSJoin:PS W:=⟨94,λl r=>match r with
 | [.string ⟨⟨c::t⟩⟩]=>bif Nat.ble t.length 50 && Nat.ble l.length 1000 && l.all (λx=>Nat.ble x.length 1000) then some (.string (mkS (qY (c::t) l))) else none
 |_=>none,λl A cap rest v h hcp w hb hv=>by
  split at h
  ·rename_i c t
   cases hc:(Nat.ble t.length 50 && Nat.ble l.length 1000 && l.all (λx=>Nat.ble x.length 1000)) with
   |false=>rw [hc] at h;cases h
   |true=>
    rw [hc] at h;cases h
    simp only [Bool.and_eq_true] at hc
    obtain ⟨⟨h1,h2⟩,h3⟩:=hc
    exact sjoin_any (c::t) l A cap w hv (by simp) (by have:=Nat.le_of_ble_eq_true h1;simp only [List.length_cons];omega) (Nat.le_of_ble_eq_true h2) (λx hx=>Nat.le_trans (Nat.le_of_ble_eq_true (List.all_eq_true.1 h3 x hx)) (by decide)) hcp
  ·cases h⟩
end
end
section
set_option linter.unnecessarySimpa false
def rt (st:List (Nat×Tr)):List Int:=(st.map λp=>((p.1:Nat):Int)).reverse
def treeB (l:List Nd):Bool:=match runT 0 [] l with|some s=>decide (l=[])||decide (s.length=1)|none=>false
end
section
set_option linter.unnecessarySimpa false
def Tr.opc:Tr->Int
 | .is _ _=>1
 | .no _=>2
 | .both _ _=>3
 | .one _ _=>4
def TextAt (A:Option Addr)(cap:Nat)(l:List Nd)(a:Nat)(t:Tr):Prop:=∀ W:World,Reads nC W W.heap.size A l->YC 260 #[.slice A l.length cap,YI (a:Int)] W (YR (.string (mkS t.text)) W)
def Stands (l:List Nd)(o:Nat)(t:Tr):Prop:=∀ i x,(t.enc o)[i]?=some x->l[o+i]?=some x
def whole10 (l:List Nd):YL:=match treeOf l with|some t=>t.text|none=>[]
end
section
set_option linter.unnecessarySimpa false
def valN (e:Pf)(n:Nd)(vs:List Int):Int:=
 if n.op=1 then (if e n.key.toNat=[] then 1 else if e n.key.toNat=n.text then 2 else 0)
 else if n.op=2 then 2-vs.getD n.a.toNat 0
 else if n.op=3 then min (vs.getD n.a.toNat 0) (vs.getD n.b.toNat 0) else max (vs.getD n.a.toNat 0) (vs.getD n.b.toNat 0)
structure NdOk (n:Nd)(m:Nat):Prop where
 is:n.op=1->0<=n.key/\n.key<3
 a:n.op≠1->0<=n.a/\n.a<m
 b:n.op≠1->n.op≠2->0<=n.b/\n.b<m
end
section
set_option linter.unnecessarySimpa false
theorem Own.lentR {ob R:List Blk}{M:List Nat}{W w:World}(h:Own M W w (R++ob)):Own (ob.map Blk.b) w w ob:=Own.lend (h.sublist (List.sublist_append_right _ _))
end
section
set_option linter.unnecessarySimpa false
def VStands (e:Pf)(vs:List Int)(o:Nat)(t:Tr):Prop:=∀ i z,(vlT e t)[i]?=some z->vs[o+i]?=some z
end
section
set_option linter.unnecessarySimpa false
def Rd (b:Nat)(A:Option Addr)(cap:Nat)(ws:List Tok)(ts:List Tok)(nd:List Nd)(bad:Bool)(ob:List Blk):Prop:=
 ∃ pre C cc g,ws=pre++ts/\ob=⟨b, #[.slice A ws.length cap,YI ((pre.length:Nat):Int),.slice C nd.length cc,.bool bad],269⟩::g/\SlN (.slice C nd.length cc) nd g
structure Lent (B b:Nat)(A:Option Addr)(cap:Nat)(ws ts:List Tok)(nd:List Nd)(bad:Bool)(ob:List Blk)(W:World):Prop where
 rd:Rd b A cap ws ts nd bad ob
 own:Own (ob.map Blk.b) W W ob
 ge:∀ x∈ob,B<=x.b
 le:B<=W.heap.size
 words:Reads zW W B A ws
 short:∀ x∈ws,x.length<=1048576
 few:ws.length<=10000
 small:nd.length+ts.length<=10000
structure Back (b:Nat)(A:Option Addr)(cap:Nat)(ws ts:List Tok)(nd:List Nd)(bad:Bool)(ob ob':List Blk)(W w':World):Prop where
 rd:Rd b A cap ws ts nd bad ob'
 own:Own (ob.map Blk.b) W w' ob'
def nextB (x:Tok)(ts:List Tok):Bool:=decide (ts.head?=some x)
def nextR (x:Tok)(ts:List Tok):List Tok:=if nextB x ts then ts.tail else ts
end
section
set_option linter.unnecessarySimpa false
def Got (part:List Tok->Option (Tr×List Tok))(ts:List Tok)(nd:List Nd)(z:Int)(ts':List Tok)(nd':List Nd)(bad':Bool):Prop:=
 nd'.length+ts'.length<=nd.length+ts.length/\ts'.length<=ts.length∧
  match part ts with
  |some (t,r)=>bad'=false/\ts'=r/\nd'=nd++t.enc nd.length/\z=((nd.length+t.sz-1:Nat):Int)
  |none=>bad'=true
def ChI (part:List Tok->Option (Tr×List Tok))(c:Tok)(mk:Tr->Tr->Tr)(ts:List Tok)(nd:List Nd)(z:Int)(tq:List Tok)(nq:List Nd)(bq:Bool):Prop:=
 nq.length+tq.length<=nd.length+ts.length/\tq.length<=ts.length∧
  (if bq=true then nO part c mk ts=none else ∃ t,nO part c mk ts=pLoop part c mk tq.length t tq/\nq=nd++t.enc nd.length/\z=((nd.length+t.sz-1:Nat):Int))
structure MkOf (op:Int)(mk:Tr->Tr->Tr):Prop where
 enc:∀ a b o,(mk a b).enc o=a.enc o++b.enc (o+a.sz)++[⟨op,((o+a.sz-1:Nat):Int),((o+a.sz+b.sz-1:Nat):Int),0,[]⟩]
 sz:∀ a b,(mk a b).sz=a.sz+b.sz+1
structure PartC (f:FuncId)(n:Nat)(part:List Tok->Option (Tr×List Tok)):Prop where
 go:∀ {B b:Nat} {A:Option Addr} {cap:Nat} {ws ts:List Tok} {nd:List Nd} {ob:List Blk} {W:World},Lent B b A cap ws ts nd false ob W->ts.length<=n→
  Calls YP f #[.pointer (some ⟨b,0,none⟩)] W λe w'=>∃ z ts' nd' bad' ob',e= .returned (YI z)/\Back b A cap ws ts' nd' bad' ob ob' W w'/\Got part ts nd z ts' nd' bad'
end
section
set_option linter.unnecessarySimpa false
def keyZ (c:Tok):Nat->Int
 |0=> -1
 |i+1=>if dD i=c then (i:Int) else keyZ c i
end
section
set_option linter.unnecessarySimpa false
end
section
set_option linter.unnecessarySimpa false
def Tr.sts:Nat->Tr->List Nat
 |o,.is _ _=>[o]
 |o,.no x=>x.sts o++[o]
 |o,.both x y=>x.sts o++y.sts (o+x.sz)++[o]
 |o,.one x y=>x.sts o++y.sts (o+x.sz)++[o]
def FS:List (Nat×Tr)->Nat->List Nat->Prop
 | [],i,F=>i=0/\F=[]
 |p::r,i,F=>∃ i0 F0,FS r i0 F0/\i=i0+p.2.sz/\p.1=i-1/\F=F0++p.2.sts i0
def treeOk (l:List Nd):Bool:=decide (l.length<=15) && (treeOf l).isSome
def keyI (c:Tok):Int:=match keyN c with|some n=>(n:Int)|none=> -1
def Bd (nd:List Nd)(bad:Bool):Prop:=bad=true∨∃ n∈nd,n.op=1/\leafB n=false
def GotL (part:List Tok->Option (Tr×List Tok))(ts:List Tok)(nd:List Nd)(bad:Bool)(ts':List Tok)(nd':List Nd)(bad':Bool):Prop:=
 nd'.length+ts'.length<=nd.length+ts.length/\ts'.length<=ts.length/\(Bd nd bad->Bd nd' bad')∧
  match part ts with
  |some (t,r)=>ts'=r/\nd'=nd++t.enc nd.length/\bad'=bad
  |none=>Bd nd' bad'
def ChL (part:List Tok->Option (Tr×List Tok))(c:Tok)(mk:Tr->Tr->Tr)(ts:List Tok)(nd:List Nd)(bad:Bool)(tq:List Tok)(nq:List Nd)(bq:Bool):Prop:=
 nq.length+tq.length<=nd.length+ts.length/\tq.length<=ts.length/\(Bd nd bad->Bd nq bq)∧
  ((nO part c mk ts=none/\Bd nq bq)∨∃ t,nO part c mk ts=pLoop part c mk tq.length t tq/\nq=nd++t.enc nd.length/\bq=bad)
end
section
set_option linter.unnecessarySimpa false
structure MkAt (B:Nat)(W:World):Prop where
 lt:2<B
 held:∃ T,W.heap[(2:Nat)]?=some (.cells #[.string ⟨#[111,115]⟩,.string ⟨#[97,114,99,104]⟩,.string ⟨#[97,98,105]⟩] T)
def MkLib (W:World):Prop:=MkAt W.heap.size W
theorem MkAt.on {B B':Nat}{W w:World}(h:MkAt B W)(hb:Below B W w)(hB:B<=B'):MkAt B' w:=
 ⟨Nat.lt_of_lt_of_le h.lt hB,by obtain ⟨T,q⟩:=h.held;exact ⟨T,by rw [hb.block _ h.lt];exact q⟩⟩
theorem MkLib.on {W w:World}(h:MkLib W)(hb:YB W w):MkLib w:=MkAt.on h hb hb.size
end
section
set_option linter.unnecessarySimpa false
def intA (zs:List Int):Array Value:=(zs.flatMap zC).toArray
theorem int_made:∃ i,Tryz.prog.info? 3=some i/\i.zero=some (YI 0)/\i.size=1/\i.bytes=8:=by
 have h:(Tryz.prog.info? 3).map (λi=>(i.zero,i.size,i.bytes))=some (some (YI 0),1,8):=by kernel_rfl
 cases hi:Tryz.prog.info? 3 with
 |none=>rw [hi] at h;cases h
 |some i=>
  rw [hi] at h
  simp only [Option.map_some,Option.some.injEq,Prod.mk.injEq] at h
  exact ⟨i,rfl,h.1,h.2.1,h.2.2⟩
def padF (F:List Nat)(n:Nat):List Int:=F.map (λ(k:Nat)=>(k:Int))++List.replicate (n-F.length) 0
end
section
set_option linter.unnecessarySimpa false
def Nb (b:Nat)(nd:List Nd)(ob:List Blk):Prop:=∃ C cc g,ob=⟨b, #[.slice C nd.length cc],231⟩::g/\SlN (.slice C nd.length cc) nd g
def Rb (b:Nat)(A:Option Addr)(m cap:Nat)(bad:Bool)(nd:List Nd)(ob:List Blk):Prop:=∃ C cc g,ob=⟨b, #[.slice C nd.length cc,.slice A m cap,.bool bad],233⟩::g/\SlN (.slice C nd.length cc) nd g
end
section
set_option linter.unnecessarySimpa false
theorem flat_len10 {α:Type}{g:α->List Value}{sz:Nat}(hg:∀ x,(g x).length=sz):∀ l:List α,(l.flatMap g).length=l.length*sz
 | []=>by simp
 |a::l=>by rw [List.flatMap_cons,List.length_append,flat_len10 hg l,hg,List.length_cons,Nat.succ_mul];omega
theorem Reads.from_ {α:Type}{g:α->List Value}{sz:Nat}(hg:∀ x,(g x).length=sz){w:World}{B b off c:Nat}{l:List α}(h:Reads g w B (some ⟨b,off,none⟩) l)(hc:l.length<=c)(k:Nat):Reads g w B (some ⟨b,off+(if c=k then 0 else k*sz),none⟩) (l.drop k):=λh0=>by
 rw [List.length_drop] at h0
 obtain ⟨b',off',e,hlt,hcell⟩:=h Om
 obtain ⟨rfl,rfl⟩:b=b'/\off=off':=by simp at e;exact e
 refine ⟨b,_,rfl,hlt,λj u hj=> ?_⟩
 rw [if_neg Om]
 have e2:l.flatMap g=(l.take k).flatMap g++(l.drop k).flatMap g:=by rw [←List.flatMap_append,List.take_append_drop]
 have hl:((l.take k).flatMap g).length=k*sz:=by rw [flat_len10 hg,List.length_take,Nat.min_eq_left Om]
 have:=hcell (k*sz+j) u (by rw [e2,List.getElem?_append_right Om,hl,Nat.add_sub_cancel_left];exact hj)
 rw [←Nat.add_assoc] at this;exact this
def Rdr (W:World)(B b:Nat)(ts:List Tok)(nd:List Nd)(bad:Bool)(ob:List Blk):Prop:=∃ A cap,Reads zW W B A ts/\ts.length<=cap/\Rb b A ts.length cap bad nd ob
structure LentL (B b:Nat)(ts:List Tok)(nd:List Nd)(bad:Bool)(ob:List Blk)(W:World):Prop where
 rd:Rdr W B b ts nd bad ob
 own:Own (ob.map Blk.b) W W ob
 ge:∀ x∈ob,B<=x.b
 le:B<=W.heap.size
 short:∀ x∈ts,x.length<=1048576
 texts:∀ n∈nd,n.text.length<=1048576
 small:nd.length+ts.length<=10000
 lib:MkAt B W
structure BackL (B b:Nat)(ts:List Tok)(nd:List Nd)(bad:Bool)(ob ob':List Blk)(W w':World):Prop where
 rd:Rdr W B b ts nd bad ob'
 own:Own (ob.map Blk.b) W w' ob'
 short:∀ x∈ts,x.length<=1048576
 texts:∀ n∈nd,n.text.length<=1048576
structure PartL (f:FuncId)(n:Nat)(part:List Tok->Option (Tr×List Tok)):Prop where
 go:∀ {B b:Nat} {ts:List Tok} {nd:List Nd} {bad:Bool} {ob:List Blk} {W:World},LentL B b ts nd bad ob W->ts.length<=n→
  Calls YP f #[.pointer (some ⟨b,0,none⟩)] W λe w'=>∃ ts' nd' bad' ob',e= .returned (.tuple #[])/\BackL B b ts' nd' bad' ob ob' W w'/\GotL part ts nd bad ts' nd' bad'
end
section
set_option linter.unnecessarySimpa false
def Wr (b:Nat)(A:Option Addr)(n cap:Nat)(ws:List Tok)(ob:List Blk):Prop:=∃ C cc g,ob=⟨b, #[.slice A n cap,.slice C ws.length cc],237⟩::g/\SlT (.slice C ws.length cc) ws g
structure LentW (B b:Nat)(A:Option Addr)(cap:Nat)(l:List Nd)(ws:List Tok)(ob:List Blk)(W:World):Prop where
 rd:Wr b A l.length cap ws ob
 own:Own (ob.map Blk.b) W W ob
 ge:∀ x∈ob,B<=x.b
 le:B<=W.heap.size
 nodes:Reads nC W B A l
 lib:MkAt B W
structure BackW (b:Nat)(A:Option Addr)(n cap:Nat)(ws:List Tok)(ob ob':List Blk)(W w':World):Prop where
 rd:Wr b A n cap ws ob'
 own:Own (ob.map Blk.b) W w' ob'
def NodeW (A:Option Addr)(cap:Nat)(l:List Nd)(a:Nat)(X:List Tok):Prop:=∀ (B b:Nat) (ws:List Tok) (ob:List Blk) (W:World),LentW B b A cap l ws ob W->ws.length+X.length<=100000→
 YC 197 #[.pointer (some ⟨b,0,none⟩),YI (a:Int)] W λe w'=>∃ ob',e= .returned (.tuple #[])/\BackW b A l.length cap (ws++X) ob ob' W w'
def OperW (A:Option Addr)(cap:Nat)(l:List Nd)(a:Nat)(z:Int)(X:List Tok):Prop:=∀ (B b:Nat) (ws:List Tok) (ob:List Blk) (W:World),LentW B b A cap l ws ob W->ws.length+X.length<=100000→
 YC 230 #[.pointer (some ⟨b,0,none⟩),YI (a:Int),YI z] W λe w'=>∃ ob',e= .returned (.tuple #[])/\BackW b A l.length cap (ws++X) ob ob' W w'
end
section
set_option linter.unnecessarySimpa false
end
section
set_option linter.unnecessarySimpa false
def padV (xs:List Int)(n:Nat):List Int:=xs++List.replicate (n-xs.length) 0
end
section
set_option linter.unnecessarySimpa false
def ReadsA {α:Type}(M:List Nat)(g:α->List Value)(W:World)(A:Option Addr)(l:List α):Prop:=
 0<l.length→∃ b off,A=some ⟨b,off,none⟩/\b<W.heap.size/\b∉M∧∀ k u,(l.flatMap g)[k]?=some u->W.cell? ⟨b,off+k,none⟩=some u
theorem cell_heap {w W:World}{b k:Nat}(h:w.heap[b]?=W.heap[b]?):w.cell? ⟨b,k,none⟩=W.cell? ⟨b,k,none⟩:=by unfold World.cell?;simp only [h]
theorem ReadsA.at {α:Type}{M:List Nat}{g:α->List Value}{W w:World}{A:Option Addr}{l:List α}{L:List Blk}(h:ReadsA M g W A l)(hO:Own M W w L):Reads g w w.heap.size A l:=λh0=>by
 obtain ⟨b,off,e,hlt,hm,hc⟩:=h h0
 exact ⟨b,off,e,Nat.lt_of_lt_of_le hlt hO.size,λk u hk=>by rw [cell_heap (hO.kept b hlt hm)];exact hc k u hk⟩
structure LentN (b:Nat)(A V:Option Addr)(l:List Nd)(vs:List Int)(nd:List Nd)(ob:List Blk)(W:World):Prop where
 rd:Nb b nd ob
 own:Own (ob.map Blk.b) W W ob
 nodes:ReadsA (ob.map Blk.b) nC W A l
 vals:ReadsA (ob.map Blk.b) zC W V vs
structure BackN (b:Nat)(nd:List Nd)(ob ob':List Blk)(W w':World):Prop where
 rd:Nb b nd ob'
 own:Own (ob.map Blk.b) W w' ob'
end
section
set_option linter.unnecessarySimpa false
structure ChainL (n:Nat)(word:Tok)(op:Int)(k:FuncId)(part:List Tok->Option (Tr×List Tok)):Prop where
 go:∀ {B b:Nat} {ts:List Tok} {nd:List Nd} {bad:Bool} {ob:List Blk} {W:World},LentL B b ts nd bad ob W->ts.length<=n→
  YC 227 #[.pointer (some ⟨b,0,none⟩),.string (mkS word),YI op,.func (.func k) #[] #[]] W λe w'=>∃ ts' nd' bad' ob',e= .returned (.tuple #[])/\BackL B b ts' nd' bad' ob ob' W w'/\GotL part ts nd bad ts' nd' bad'
end
section
set_option linter.unnecessarySimpa false
end
section
structure RecLib (W:World):Prop where
 lib:HasLib W
 keys:MkLib W
theorem RecLib.on {W w:World}(h:RecLib W)(hb:YB W w):RecLib w:=⟨h.lib.on hb,h.keys.on hb⟩
noncomputable def prF (W:World)(ht:∀ w,YB W w->HasLib w):Prm:=prL [peTrim W,peCutPre W,peCut W,peClone W,peNumber W,peWord W,peDigits W (ht W (Below.refl _ _)).tab (λw h=>(ht w h).tab),peMayV W] [peJoin W,peSJoin W] [peGen W,peBars W ht,peSplit W]
def kyB (T:TypeId):Blk:=⟨2, #[.string ⟨#[111,115]⟩,.string ⟨#[97,114,99,104]⟩,.string ⟨#[97,98,105]⟩],T⟩
theorem zI {k:FuncId}{s:YL}{W:World}(hK:RecLib W)(h:∀ T ht e,(runA YP [kyB T] (prF W ht) k #[.string (mkS s)] e).l=(runA YP [kyB T] (prF W ht) k #[.string (mkS s)] e).r):Calls YP k #[.string (mkS s)] W λen w'=>en= .returned (.bool true)/\YB W w':=by
 obtain ⟨T,q⟩:=hK.keys.held
 refine run_true (G:=[kyB T]) (pr:=prF W (λw hb=>hK.lib.on hb)) (λw hO x hx=> ?_) (prL_ok _ _ _) (h T _)
 rw [List.mem_singleton.1 hx]
 exact (hO.kept 2 hK.keys.lt (by simp)).trans q
end
end Go.Proofs.YtobimfnmnkegdaaGreatDoor
