import Derived.Laws.OwnMore
import Derived.Lib.OthersKept
import Derived.Lib.IndexBytes
import Derived.Test.YtobimfnmnkegdaaGreatDoorMC4
set_option maxRecDepth 1000000
set_option maxHeartbeats 8000000
set_option linter.unusedVariables false
set_option linter.unusedSimpArgs false
set_option linter.unnecessarySimpa false
namespace Go.Proofs.YtobimfnmnkegdaaGreatDoor
open Go.RowKit

section
set_option linter.unnecessarySimpa false
def Rd (b:Nat)(A:Option Addr)(cap:Nat)(ws:List Tok)(ts:List Tok)(nd:List Nd)(bad:Bool)(ob:List Blk):Prop:=
 ∃ pre C cc g,ws=pre++ts/\ob=⟨b, #[.slice A ws.length cap,YI ((pre.length:Nat):Int),.slice C nd.length cc,.bool bad],269⟩::g/\SlN (.slice C nd.length cc) nd g
structure Lent (B b:Nat)(A:Option Addr)(cap:Nat)(ws ts:List Tok)(nd:List Nd)(bad:Bool)(ob:List Blk)(W:World):Prop where
 rd:Rd b A cap ws ts nd bad ob
 own:Own (ob.map Blk.b) W W ob
 ge:∀ x∈ob,B<=x.b
 le:B<=W.heap.size
 words:Reads yY W B A ws
 short:∀ x∈ws,x.length<=1048576
 few:ws.length<=10000
 small:nd.length+ts.length<=10000
structure Back (b:Nat)(A:Option Addr)(cap:Nat)(ws ts:List Tok)(nd:List Nd)(bad:Bool)(ob ob':List Blk)(W w':World):Prop where
 rd:Rd b A cap ws ts nd bad ob'
 own:Own (ob.map Blk.b) W w' ob'
def kI (x:Tok)(ts:List Tok):Bool:=decide (ts.head?=some x)
def wI (x:Tok)(ts:List Tok):List Tok:=if kI x ts then ts.tail else ts
theorem next_yes {x:Tok}{r:List Tok}:kI x (x::r)=true/\wI x (x::r)=r:=by
 have h:kI x (x::r)=true:=by unfold kI;simp
 exact ⟨h,by unfold wI;rw [h];rfl⟩
theorem jA {x:Tok}{ts:List Tok}(h:ts.head?≠some x):kI x ts=false/\wI x ts=ts:=by
 have h1:kI x ts=false:=decide_eq_false h
 exact ⟨h1,by unfold wI;rw [h1];rfl⟩
theorem r10next_any {B b:Nat}{A:Option Addr}{cap:Nat}{ws ts:List Tok}{nd:List Nd}{bad:Bool}{ob:List Blk}{W:World}(hL:Lent B b A cap ws ts nd bad ob W)(x:Tok):YC 257 #[.pointer (some ⟨b,0,none⟩),.string (mkS x)] W λe w'=>∃ ob',e= .returned (.bool (kI x ts))/\Back b A cap ws (wI x ts) nd bad ob ob' W w':=by
 have hM':=qC hL.ge
 have hBW:=hL.le
 have hw:=hL.words
 have hfw:=hL.few
 have hO:=hL.own
 obtain ⟨pre,C,cc,g,hws,rfl,hsl⟩:=hL.rd
 have hwl:ws.length=pre.length+ts.length:=by rw [hws,List.length_append]
 by_cases h1:((pre.length:Nat):Int)<(ws.length:Int)
 ·obtain ⟨c,r,rfl⟩:∃ c r,ts=c::r:=by cases ts with|nil=>simp at hwl;omega|cons c r=>exact ⟨c,r,rfl⟩
  obtain ⟨bp,off,hA,hlt,hcell⟩:=hw Om
  have hc:∀ h:pre.length<ws.length,ws[pre.length]=c:=by subst hws;intro h;simp
  have hld:∀ w,Own ((⟨b, #[.slice A ws.length cap,YI ((pre.length:Nat):Int),.slice C nd.length cc,.bool bad],269⟩::g).map Blk.b) W w []->(loadVar 9 ⟨bp,off+pre.length*1,none⟩).run YP w= .ok (.string (mkS c)) w:=λw hO=>Reads.load zX (hw.on (hO.belowB hM' hBW) (Nat.le_refl _)) hA pre.length 0 Om Om _ (by rw [hc];kernel_rfl)
  refine zN hO Tryz.func257 (zB 14 [0,0] (((pre.length:Nat):Int)<(ws.length:Int)) (λ_=>zI 24 [0,0] hA ws.length cap pre.length 1 (by omega) (zH 25 [] 9 bp (off+pre.length*1) (.string (mkS c)) (λw hO=>hld w hO.no) (x4 27 [] c x (λh2=> ?_) (λh2=> ?_)))) (λh=>absurd h1 h))
  ·subst h2;exact x_i 33 [0] ((pre.length+1:Nat):Int) (z7 [0] (.bool true) (λw hO=>⟨⟨b, #[.slice A ws.length cap,YI ((pre.length+1:Nat):Int),.slice C nd.length cc,.bool bad],269⟩::g,congrArg (λz=>Ending.returned (.bool z)) next_yes.1.symm,⟨by rw [next_yes.2];exact ⟨pre++[c],C,cc,g,by rw [hws];simp,by rw [show (pre++[c]).length=pre.length+1 from by simp],hsl⟩,hO.past 0 (⟨b, #[.slice A ws.length cap,YI ((pre.length+1:Nat):Int),.slice C nd.length cc,.bool bad],269⟩::g)⟩⟩))
  ·have hn:=jA (x:=x) (ts:=c::r) (by simp;exact h2)
   exact z7 [] Z5 (λw hO=>⟨⟨b, #[.slice A ws.length cap,YI ((pre.length:Nat):Int),.slice C nd.length cc,.bool bad],269⟩::g,congrArg (λz=>Ending.returned (.bool z)) hn.1.symm,⟨by rw [hn.2];exact ⟨pre,C,cc,g,hws,rfl,hsl⟩,hO.past 0 (⟨b, #[.slice A ws.length cap,YI ((pre.length:Nat):Int),.slice C nd.length cc,.bool bad],269⟩::g)⟩⟩)
 ·obtain rfl:ts=[]:=by cases ts with|nil=>rfl|cons c r=>simp at hwl;omega
  have hn:=jA (x:=x) (ts:=([]:List Tok)) (by simp)
  exact zN hO Tryz.func257 (zB 14 [0,0] (((pre.length:Nat):Int)<(ws.length:Int)) (λh=>absurd h h1) (λ_=>z7 [] Z5 (λw hO=>⟨⟨b, #[.slice A ws.length cap,YI ((pre.length:Nat):Int),.slice C nd.length cc,.bool bad],269⟩::g,congrArg (λz=>Ending.returned (.bool z)) hn.1.symm,⟨by rw [hn.2];exact ⟨pre,C,cc,g,hws,rfl,hsl⟩,hO.past 0 (⟨b, #[.slice A ws.length cap,YI ((pre.length:Nat):Int),.slice C nd.length cc,.bool bad],269⟩::g)⟩⟩)))
theorem r10take_any {B b:Nat}{A:Option Addr}{cap:Nat}{ws ts:List Tok}{nd:List Nd}{bad:Bool}{ob:List Blk}{W:World}(hL:Lent B b A cap ws ts nd bad ob W):YC 285 #[.pointer (some ⟨b,0,none⟩)] W λe w'=>∃ ob',e= .returned (.string (mkS (ts.headD [])))/\Back b A cap ws ts.tail nd (bad||decide (ts=[])) ob ob' W w':=by
 have hM':=qC hL.ge
 have hBW:=hL.le
 have hw:=hL.words
 have hfw:=hL.few
 have hO:=hL.own
 obtain ⟨pre,C,cc,g,hws,rfl,hsl⟩:=hL.rd
 have hwl:ws.length=pre.length+ts.length:=by rw [hws,List.length_append]
 by_cases h1:(ws.length:Int)<=((pre.length:Nat):Int)
 ·obtain rfl:ts=[]:=by cases ts with|nil=>rfl|cons c r=>simp at hwl;omega
  exact zN hO Tryz.func285 (zB 12 [0,0] ((ws.length:Int)<=((pre.length:Nat):Int)) (λ_=>z7 [0] (.string (mkS [])) (λw hO=>⟨⟨b, #[.slice A ws.length cap,YI ((pre.length:Nat):Int),.slice C nd.length cc,.bool true],269⟩::g,rfl,⟨by rw [show (bad||decide (([]:List Tok)=[]))=true from by simp];exact ⟨pre,C,cc,g,hws,rfl,hsl⟩,hO.past 0 (⟨b, #[.slice A ws.length cap,YI ((pre.length:Nat):Int),.slice C nd.length cc,.bool true],269⟩::g)⟩⟩)) (λh=>absurd h1 h))
 ·obtain ⟨c,r,rfl⟩:∃ c r,ts=c::r:=by cases ts with|nil=>simp at hwl;omega|cons c r=>exact ⟨c,r,rfl⟩
  obtain ⟨bp,off,hA,hlt,hcell⟩:=hw Om
  have hc:∀ h:pre.length<ws.length,ws[pre.length]=c:=by subst hws;intro h;simp
  have hld:∀ w,Own ((⟨b, #[.slice A ws.length cap,YI ((pre.length:Nat):Int),.slice C nd.length cc,.bool bad],269⟩::g).map Blk.b) W w []->(loadVar 9 ⟨bp,off+pre.length*1,none⟩).run YP w= .ok (.string (mkS c)) w:=λw hO=>Reads.load zX (hw.on (hO.belowB hM' hBW) (Nat.le_refl _)) hA pre.length 0 Om Om _ (by rw [hc];kernel_rfl)
  exact zN hO Tryz.func285 (zB 12 [0,0] ((ws.length:Int)<=((pre.length:Nat):Int)) (λh=>absurd h h1) (λ_=>x_i 20 [0] ((pre.length+1:Nat):Int) (x_i 31 [0,0,0] (((pre.length+1:Nat):Int) -1) (jI 32 [] hA ws.length cap (((pre.length+1:Nat):Int) -1) 1 (off+pre.length*1) Om (zH 33 [] 9 bp (off+pre.length*1) (.string (mkS c)) (λw hO=>hld w hO.no) (z7 [] (.string (mkS c)) (λw hO=>⟨⟨b, #[.slice A ws.length cap,YI ((pre.length+1:Nat):Int),.slice C nd.length cc,.bool bad],269⟩::g,rfl,⟨by rw [show (bad||decide ((c::r)=([]:List Tok)))=bad from by simp];exact ⟨pre++[c],C,cc,g,by rw [hws];simp,by rw [show (pre++[c]).length=pre.length+1 from by simp],hsl⟩,hO.past 0 (⟨b, #[.slice A ws.length cap,YI ((pre.length+1:Nat):Int),.slice C nd.length cc,.bool bad],269⟩::g)⟩⟩)))))))
theorem r10put_any {B b:Nat}{A:Option Addr}{cap:Nat}{ws ts:List Tok}{nd:List Nd}{bad:Bool}{ob:List Blk}{W:World}(hL:Lent B b A cap ws ts nd bad ob W)(n:Nd)(hn9:nd.length<=1048576):YC 258 #[.pointer (some ⟨b,0,none⟩),ndV n] W λe w'=>∃ ob',e= .returned (YI (nd.length:Int))/\Back b A cap ws ts (nd++[n]) bad ob ob' W w':=by
 have hO:=hL.own
 have hsm:=hL.small
 obtain ⟨pre,C,cc,g,hws,rfl,hsl⟩:=hL.rd
 have hnl:(nd++[n]).length=nd.length+1:=by simp
 refine zN hO Tryz.func258 (yK [] λb1=>qJ 8 [] [⟨b1,(ndV n).cells,261⟩,⟨b, #[.slice A ws.length cap,YI ((pre.length:Nat):Int),.slice C nd.length cc,.bool bad],269⟩] (λw hO=>(hO.past 0 (⟨b1,(ndV n).cells,261⟩::⟨b, #[.slice A ws.length cap,YI ((pre.length:Nat):Int),.slice C nd.length cc,.bool bad],269⟩::g)).sublist (by simp)) (gD [1,0] 6 (fQ 1 261 (ndV n).cells λb2=>gD [] 7 (pR (m:=1) (cp:=1) [⟨b2,(ndV n).cells,261⟩,⟨b1,(ndV n).cells,261⟩,⟨b, #[.slice A ws.length cap,YI ((pre.length:Nat):Int),.slice C nd.length cc,.bool bad],269⟩] g [] 0 (⟨b2,(ndV n).cells,261⟩::⟨b1,(ndV n).cells,261⟩::⟨b, #[.slice A ws.length cap,YI ((pre.length:Nat):Int),.slice C nd.length cc,.bool bad],269⟩::g) [⟨b1,(ndV n).cells,261⟩,⟨b, #[.slice A ws.length cap,YI ((pre.length:Nat):Int),.slice C nd.length cc,.bool bad],269⟩] (λw hO=>hO.cast (by simp)) (λo w hO=>hO.sublist (List.Sublist.cons _ (List.Sublist.cons_cons _ (List.Sublist.cons_cons _ (List.nil_sublist _))))) hsl Om λv' ob' h=> ?_))))
 obtain ⟨B2,cb2,rfl⟩:=h.form
 exact x_i 20 [2,2] (((nd.length+1:Nat):Int) -1) (z7 [] (YI (((nd.length+1:Nat):Int) -1)) (λw hO=>⟨⟨b, #[.slice A ws.length cap,YI ((pre.length:Nat):Int),.slice B2 (nd.length+1) cb2,.bool bad],269⟩::ob',by rw [show (nd.length:Int)=((nd.length+1:Nat):Int) -1 from by omega],⟨⟨pre,B2,cb2,ob',hws,by rw [hnl],by rw [hnl];exact SlN.add h⟩,(hO.past 2 (⟨b, #[.slice A ws.length cap,YI ((pre.length:Nat):Int),.slice B2 (nd.length+1) cb2,.bool bad],269⟩::(ob'++[]))).cast (by simp)⟩⟩))
end
section
set_option linter.unnecessarySimpa false
theorem Lent.at {B b:Nat}{A:Option Addr}{cap:Nat}{ws ts ts':List Tok}{nd nd':List Nd}{bad bad':Bool}{ob ob' R:List Blk}{W w:World}(h:Lent B b A cap ws ts nd bad ob W)(hR:Rd b A cap ws ts' nd' bad' ob')(hs:nd'.length+ts'.length<=10000)(hO:Own (ob.map Blk.b) W w (ob'++R)):Lent B b A cap ws ts' nd' bad' ob' w:=
 ⟨hR,Own.lent hO,λx hx=>hO.allB (qC h.ge) h.le x (List.mem_append_left _ hx),Nat.le_trans h.le hO.size,h.words.on (hO.belowB (qC h.ge) h.le) (Nat.le_refl _),h.short,h.few,hs⟩
theorem Rd.load {b:Nat}{A:Option Addr}{cap:Nat}{ws ts:List Tok}{nd:List Nd}{bad:Bool}{ob L:List Blk}{M:List Nat}{W w:World}(h:Rd b A cap ws ts nd bad ob)(hO:Own M W w L)(hs:∀ x∈ob,x∈L):(loadVar 4 ⟨b,3,none⟩).run YP w= .ok (.bool bad) w:=by
 obtain ⟨pre,C,cc,g,hws,rfl,hsl⟩:=h
 exact yU Kr (hO.held _ (hs _ (List.mem_cons_self ..)))
def Got (part:List Tok->Option (Tr×List Tok))(ts:List Tok)(nd:List Nd)(z:Int)(ts':List Tok)(nd':List Nd)(bad':Bool):Prop:=
 nd'.length+ts'.length<=nd.length+ts.length/\ts'.length<=ts.length∧
  match part ts with
  |some (t,r)=>bad'=false/\ts'=r/\nd'=nd++t.enc nd.length/\z=((nd.length+t.sz-1:Nat):Int)
  |none=>bad'=true
def ChI (part:List Tok->Option (Tr×List Tok))(c:Tok)(mk:Tr->Tr->Tr)(ts:List Tok)(nd:List Nd)(z:Int)(tq:List Tok)(nq:List Nd)(bq:Bool):Prop:=
 nq.length+tq.length<=nd.length+ts.length/\tq.length<=ts.length∧
  (if bq=true then gQ part c mk ts=none else ∃ t,gQ part c mk ts=wH part c mk tq.length t tq/\nq=nd++t.enc nd.length/\z=((nd.length+t.sz-1:Nat):Int))
structure MkOf (op:Int)(mk:Tr->Tr->Tr):Prop where
 enc:∀ a b o,(mk a b).enc o=a.enc o++b.enc (o+a.sz)++[⟨op,((o+a.sz-1:Nat):Int),((o+a.sz+b.sz-1:Nat):Int),0,[]⟩]
 sz:∀ a b,(mk a b).sz=a.sz+b.sz+1
theorem mk_both:MkOf 3 .both:=⟨λ_ _ _=>rfl,λ_ _=>rfl⟩
theorem mk_one:MkOf 4 .one:=⟨λ_ _ _=>rfl,λ_ _=>rfl⟩
theorem ch_start {part:List Tok->Option (Tr×List Tok)}{c:Tok}{mk:Tr->Tr->Tr}{ts ts':List Tok}{nd nd':List Nd}{z:Int}{bad':Bool}(h:Got part ts nd z ts' nd' bad'):ChI part c mk ts nd z ts' nd' bad':=by
 obtain ⟨h1,h2,h3⟩:=h
 refine ⟨h1,h2, ?_⟩
 cases hp:part ts with
 |none=>rw [hp] at h3;rw [if_pos h3];unfold gQ;rw [hp]
 |some x=>
  obtain ⟨t,r⟩:=x
  rw [hp] at h3
  obtain ⟨hb,hr,hn,hz⟩:=h3
  rw [if_neg (by rw [hb];simp)]
  exact ⟨t,by unfold gQ;rw [hp,hr],hn,hz⟩
theorem ch_stop {part:List Tok->Option (Tr×List Tok)}{c:Tok}{mk:Tr->Tr->Tr}{ts tq:List Tok}{nd nq:List Nd}{z:Int}(h:ChI part c mk ts nd z tq nq false)(hc:kI c tq=false):Got (gQ part c mk) ts nd z tq nq false:=by
 obtain ⟨h1,h2,h3⟩:=h
 rw [if_neg (by simp)] at h3
 obtain ⟨t,e,hn,hz⟩:=h3
 rw [pLoop_stop _ _ _ _ _ _ (of_decide_eq_false hc)] at e
 refine ⟨h1,h2, ?_⟩
 rw [e]
 exact ⟨rfl,rfl,hn,hz⟩
theorem ch_fell {part:List Tok->Option (Tr×List Tok)}{c:Tok}{mk:Tr->Tr->Tr}{ts tq:List Tok}{nd nq:List Nd}{z:Int}(h:ChI part c mk ts nd z tq nq true):Got (gQ part c mk) ts nd z tq nq true:=by
 obtain ⟨h1,h2,h3⟩:=h
 rw [if_pos rfl] at h3
 refine ⟨h1,h2, ?_⟩
 rw [h3]
theorem qT {c:Tok}{ts:List Tok}(h:kI c ts=true):∃ r,ts=c::r/\wI c ts=r:=by
 unfold kI at h
 have:=of_decide_eq_true h
 cases ts with
 |nil=>cases this
 |cons d r=>simp only [List.head?_cons,Option.some.injEq] at this;subst this;exact ⟨r,rfl,next_yes.2⟩
theorem ch_step {part:List Tok->Option (Tr×List Tok)}(hp:Eats part){op:Int}{c:Tok}{mk:Tr->Tr->Tr}(hmk:MkOf op mk){ts tq r ts2:List Tok}{nd nq nd2:List Nd}{z z2:Int}{bad2:Bool}(h:ChI part c mk ts nd z tq nq false)(htq:tq=c::r)(h2:Got part r nq z2 ts2 nd2 bad2):
  ChI part c mk ts nd (nd2.length:Int) ts2 (nd2++[⟨op,z,z2,0,[]⟩]) bad2:=by
 obtain ⟨h1,h3,h4⟩:=h
 rw [if_neg (by simp)] at h4
 obtain ⟨t,e,hn,hz⟩:=h4
 obtain ⟨g1,g2,g3⟩:=h2
 subst htq
 simp only [List.length_cons] at h1 h3
 refine ⟨by rw [List.length_append,List.length_singleton];omega,by omega, ?_⟩
 rw [List.length_cons,wH,if_pos rfl] at e
 cases hq:part r with
 |none=>
  rw [hq] at g3 e
  rw [if_pos g3,e]
 |some y=>
  obtain ⟨u,r'⟩:=y
  rw [hq] at g3 e
  obtain ⟨hb,hr,hn2,hz2⟩:=g3
  rw [if_neg (by rw [hb];simp)]
  have hl:=hp _ _ _ hq
  have hz1:=t.sz_pos
  have hz3:=u.sz_pos
  subst hr
  have hnl:nq.length=nd.length+t.sz:=by rw [hn,List.length_append,Tr.enc_len]
  refine ⟨mk t u, ?_, ?_, ?_⟩
  ·rw [e];exact pLoop_fuel hp _ _ _ _ _ _ Om (Nat.le_refl _)
  ·rw [hmk.enc,hn2,hz2,hz,hnl]
   rw [show nd++(t.enc nd.length++u.enc (nd.length+t.sz)++[(⟨op,((nd.length+t.sz-1:Nat):Int),((nd.length+t.sz+u.sz-1:Nat):Int),0,[]⟩:Nd)])=nq++u.enc (nd.length+t.sz)++[(⟨op,((nd.length+t.sz-1:Nat):Int),((nd.length+t.sz+u.sz-1:Nat):Int),0,[]⟩:Nd)] from by rw [hn];simp]
  ·rw [hmk.sz,hn2,List.length_append,Tr.enc_len,hnl];congr 1;omega
structure PartC (f:FuncId)(n:Nat)(part:List Tok->Option (Tr×List Tok)):Prop where
 go:∀ {B b:Nat} {A:Option Addr} {cap:Nat} {ws ts:List Tok} {nd:List Nd} {ob:List Blk} {W:World},Lent B b A cap ws ts nd false ob W->ts.length<=n→
  Calls YP f #[.pointer (some ⟨b,0,none⟩)] W λe w'=>∃ z ts' nd' bad' ob',e= .returned (YI z)/\Back b A cap ws ts' nd' bad' ob ob' W w'/\Got part ts nd z ts' nd' bad'
theorem pfac_atom {n:Nat}{ts:List Tok}(h1:kI qY ts=false)(h2:kI x8 ts=false)(hn:ts.length<=n):vH n ts=vX ts:=by
 cases ts with
 |nil=>cases n<;>rfl
 |cons c r=>
  cases n with
  |zero=>simp at hn
  |succ n=>
   have q1:=of_decide_eq_false h1
   have q2:=of_decide_eq_false h2
   simp only [List.head?_cons,Option.some.injEq] at q1 q2
   rw [vH,if_neg q1,if_neg q2]
theorem x_rdC {k:FuncId}{args:Array Value}{Rv:Value->List Tok->List Nd->Bool->Prop}{B b:Nat}{A:Option Addr}{cap:Nat}{ws ts tq:List Tok}{nd nq:List Nd}{bad bq:Bool}{ob oq:List Blk}{W:World}{Q:Exit->Act->World->Prop}{n:Nat}{c:Xc}(hL:Lent B b A cap ws ts nd bad ob W)(h:List Nat)(R:List Blk)(hR:Rd b A cap ws tq nq bq oq)(hs:nq.length+tq.length<=10000)
  (hc:∀ w,Lent B b A cap ws tq nq bq oq w->Calls YP k args w λe w'=>∃ v ts' nd' bad' ob',e= .returned v/\Rv v ts' nd' bad'/\Back b A cap ws ts' nd' bad' oq ob' w w')
  (hg:∀ v ts' nd' bad' ob',Rv v ts' nd' bad'->Rd b A cap ws ts' nd' bad' ob'->zF (ob.map Blk.b) YP n W Q (xNx (xgo YP n nS h c) (R++ob') v)) (hkt:(xgl YP n nS h c,(xgo YP n nS h c).L,(xgo YP n nS h c).top,zU (xA (xgo YP n nS h c)) n (xgo YP n nS h c).f (xO (xgo YP n nS h c)),mB YP n (xgo YP n nS h c))=(xgr YP n nS h c,R++oq,.ops (xA (xgo YP n nS h c)) (xO (xgo YP n nS h c)::xT (xgo YP n nS h c)),true,λw=> .ok (.enter k args) w):=by kernel_rfl):zF (ob.map Blk.b) YP n W Q c:=
 yN (Rr:=λv ob'=>∃ ts' nd' bad',Rv v ts' nd' bad'/\Rd b A cap ws ts' nd' bad' ob') h (R++oq) R oq (λw hO=>hO) (λw hO=>(hc w (hL.at (R:=R) hR hs (hO.perm List.perm_append_comm))).mono λe w' ⟨v,ts',nd',bad',ob',k1,k2,k3⟩=>⟨v,ob',k1,⟨ts',nd',bad',k2,k3.rd⟩,k3.own⟩) (λv ob' ⟨ts',nd',bad',k2,k3⟩=>hg v ts' nd' bad' ob' k2 k3) hkt
theorem x_part {k:FuncId}{m:Nat}{part:List Tok->Option (Tr×List Tok)}(hp:PartC k m part){B b:Nat}{A:Option Addr}{cap:Nat}{ws ts tq:List Tok}{nd nq:List Nd}{bad:Bool}{ob oq:List Blk}{W:World}{Q:Exit->Act->World->Prop}{n:Nat}{c:Xc}(hL:Lent B b A cap ws ts nd bad ob W)(h:List Nat)(R:List Blk)(hR:Rd b A cap ws tq nq false oq)(hs:nq.length+tq.length<=10000)(hm:tq.length<=m)
  (hg:∀ z ts' nd' bad' ob',Rd b A cap ws ts' nd' bad' ob'->Got part tq nq z ts' nd' bad'->zF (ob.map Blk.b) YP n W Q (xNx (xgo YP n nS h c) (R++ob') (YI z))) (hkt:(xgl YP n nS h c,(xgo YP n nS h c).L,(xgo YP n nS h c).top,zU (xA (xgo YP n nS h c)) n (xgo YP n nS h c).f (xO (xgo YP n nS h c)),mB YP n (xgo YP n nS h c))=(xgr YP n nS h c,R++oq,.ops (xA (xgo YP n nS h c)) (xO (xgo YP n nS h c)::xT (xgo YP n nS h c)),true,λw=> .ok (.enter k #[.pointer (some ⟨b,0,none⟩)]) w):=by kernel_rfl):zF (ob.map Blk.b) YP n W Q c:=
 x_rdC (Rv:=λv ts' nd' bad'=>∃ z,v=YI z/\Got part tq nq z ts' nd' bad') hL h R hR hs (λw hl=>(hp.go hl hm).mono λe w' ⟨z,ts',nd',bad',ob',k1,k2,k3⟩=>⟨_,ts',nd',bad',ob',k1,⟨z,rfl,k3⟩,k2⟩) (λv ts' nd' bad' ob' ⟨z,e,k3⟩ k2=>by subst e;exact hg z ts' nd' bad' ob' k2 k3) hkt
theorem x_next {B b:Nat}{A:Option Addr}{cap:Nat}{ws ts tq:List Tok}{nd nq:List Nd}{bad bq:Bool}{ob oq:List Blk}{W:World}{Q:Exit->Act->World->Prop}{n:Nat}{c:Xc}(hL:Lent B b A cap ws ts nd bad ob W)(h:List Nat)(R:List Blk)(x:Tok)(hR:Rd b A cap ws tq nq bq oq)(hs:nq.length+tq.length<=10000)
  (hg:∀ ob',Rd b A cap ws (wI x tq) nq bq ob'->zF (ob.map Blk.b) YP n W Q (xNx (xgo YP n nS h c) (R++ob') (.bool (kI x tq)))) (hkt:(xgl YP n nS h c,(xgo YP n nS h c).L,(xgo YP n nS h c).top,zU (xA (xgo YP n nS h c)) n (xgo YP n nS h c).f (xO (xgo YP n nS h c)),mB YP n (xgo YP n nS h c))=(xgr YP n nS h c,R++oq,.ops (xA (xgo YP n nS h c)) (xO (xgo YP n nS h c)::xT (xgo YP n nS h c)),true,λw=> .ok (.enter 257 #[.pointer (some ⟨b,0,none⟩),.string (mkS x)]) w):=by kernel_rfl):zF (ob.map Blk.b) YP n W Q c:=
 x_rdC (Rv:=λv ts' nd' bad'=>v= .bool (kI x tq)/\ts'=wI x tq/\nd'=nq/\bad'=bq) hL h R hR hs (λw hl=>(r10next_any hl x).mono λe w' ⟨ob',k1,k2⟩=>⟨_,_,_,_,ob',k1,⟨rfl,rfl,rfl,rfl⟩,k2⟩) (λv ts' nd' bad' ob' ⟨e1,e2,e3,e4⟩ k2=>by subst e1;subst e2;subst e3;subst e4;exact hg ob' k2) hkt
theorem x_takeC {B b:Nat}{A:Option Addr}{cap:Nat}{ws ts tq:List Tok}{nd nq:List Nd}{bad bq:Bool}{ob oq:List Blk}{W:World}{Q:Exit->Act->World->Prop}{n:Nat}{c:Xc}(hL:Lent B b A cap ws ts nd bad ob W)(h:List Nat)(R:List Blk)(hR:Rd b A cap ws tq nq bq oq)(hs:nq.length+tq.length<=10000)
  (hg:∀ ob',Rd b A cap ws tq.tail nq ((bq||decide (tq=[]))) ob'->zF (ob.map Blk.b) YP n W Q (xNx (xgo YP n nS h c) (R++ob') (.string (mkS (tq.headD []))))) (hkt:(xgl YP n nS h c,(xgo YP n nS h c).L,(xgo YP n nS h c).top,zU (xA (xgo YP n nS h c)) n (xgo YP n nS h c).f (xO (xgo YP n nS h c)),mB YP n (xgo YP n nS h c))=(xgr YP n nS h c,R++oq,.ops (xA (xgo YP n nS h c)) (xO (xgo YP n nS h c)::xT (xgo YP n nS h c)),true,λw=> .ok (.enter 285 #[.pointer (some ⟨b,0,none⟩)]) w):=by kernel_rfl):zF (ob.map Blk.b) YP n W Q c:=
 x_rdC (Rv:=λv ts' nd' bad'=>v= .string (mkS (tq.headD []))/\ts'=tq.tail/\nd'=nq/\bad'=(bq||decide (tq=[]))) hL h R hR hs (λw hl=>(r10take_any hl).mono λe w' ⟨ob',k1,k2⟩=>⟨_,_,_,_,ob',k1,⟨rfl,rfl,rfl,rfl⟩,k2⟩) (λv ts' nd' bad' ob' ⟨e1,e2,e3,e4⟩ k2=>by subst e1;subst e2;subst e3;subst e4;exact hg ob' k2) hkt
theorem x_put {B b:Nat}{A:Option Addr}{cap:Nat}{ws ts tq:List Tok}{nd nq:List Nd}{bad bq:Bool}{ob oq:List Blk}{W:World}{Q:Exit->Act->World->Prop}{n:Nat}{c:Xc}(hL:Lent B b A cap ws ts nd bad ob W)(h:List Nat)(R:List Blk)(x:Nd)(hR:Rd b A cap ws tq nq bq oq)(hs:nq.length+tq.length<=10000)
  (hg:∀ ob',Rd b A cap ws tq (nq++[x]) bq ob'->zF (ob.map Blk.b) YP n W Q (xNx (xgo YP n nS h c) (R++ob') (YI (nq.length:Int)))) (hkt:(xgl YP n nS h c,(xgo YP n nS h c).L,(xgo YP n nS h c).top,zU (xA (xgo YP n nS h c)) n (xgo YP n nS h c).f (xO (xgo YP n nS h c)),mB YP n (xgo YP n nS h c))=(xgr YP n nS h c,R++oq,.ops (xA (xgo YP n nS h c)) (xO (xgo YP n nS h c)::xT (xgo YP n nS h c)),true,λw=> .ok (.enter 258 #[.pointer (some ⟨b,0,none⟩),ndV x]) w):=by kernel_rfl):zF (ob.map Blk.b) YP n W Q c:=
 x_rdC (Rv:=λv ts' nd' bad'=>v=YI (nq.length:Int)/\ts'=tq/\nd'=nq++[x]/\bad'=bq) hL h R hR hs (λw hl=>(r10put_any hl x Om).mono λe w' ⟨ob',k1,k2⟩=>⟨_,_,_,_,ob',k1,⟨rfl,rfl,rfl,rfl⟩,k2⟩) (λv ts' nd' bad' ob' ⟨e1,e2,e3,e4⟩ k2=>by subst e1;subst e2;subst e3;subst e4;exact hg ob' k2) hkt
theorem r10both_any (n:Nat)(hp:PartC 270 n (vH n)):PartC 256 n (pAnd n):=by
 refine ⟨λ{B b A cap ws ts nd ob W} hL hln=> ?_⟩
 have hsm:=hL.small
 refine zN hL.own Tryz.func256 (x_part hp hL [] [] hL.rd hsm hln λz1 ts1 nd1 bd1 ob1 hR1 hG1=> ?_)
 refine zM (α:=Int×List Tok×List Nd×Bool×List Blk) (λ(z,tq,nq,bq,oq)=>[(0,Zp b 0),(3,YI z)]) (λ(z,tq,nq,bq,oq)=>oq) (λ(z,tq,nq,bq,oq) m=>(ChI (vH n) d9 .both ts nd z tq nq bq/\Rd b A cap ws tq nq bq oq/\nq.length+tq.length<=10000)/\m=tq.length) (z1,ts1,nd1,bd1,ob1) ts1.length [] ⟨⟨ch_start hG1,hR1,Nat.le_trans hG1.1 hsm⟩,rfl⟩ ?_
 rintro ⟨z,tq,nq,bq,oq⟩ m g kk ⟨⟨hch,hRq,hsq⟩,hmm⟩ nx hkk
 subst hkk
 refine zH 10 [] 4 b 3 (.bool bq) (λw hO=>hRq.load (hO.past 0 oq) (λx hx=>hx)) ?_
 cases bq with
 |true=>exact z7 [] (.int .i64 z) (λw hO=>⟨z,tq,nq,true,oq,rfl,⟨hRq,hO.past 0 oq⟩,ch_fell hch⟩)
 |false=>
  refine x_next hL [] [] d9 hRq hsq λob2 hR2=> ?_
  cases h2:kI d9 tq with
  |true=>
   obtain ⟨r,htq,hnr⟩:=qT h2
   have htl:tq.length=r.length+1:=by rw [htq];rfl
   have hnl9:=congrArg List.length hnr
   have h21:=hch.2.1
   refine x_part hp hL [] [] hR2 Om Om λz3 ts3 nd3 bd3 ob3 hR3 hG3=> ?_
   have h31:=hG3.1
   have h32:=hG3.2.1
   exact x_put hL [] [] ⟨3,z,z3,0,[]⟩ hR3 Om λob4 hR4=>(nx ((nd3.length:Int),ts3,nd3++[⟨3,z,z3,0,[]⟩],bd3,ob4) ts3.length [] Om ⟨⟨ch_step (pFac_eats n) mk_both hch htq (hnr▸hG3),hR4,by rw [List.length_append,List.length_singleton];omega⟩,rfl⟩ Kr Kr)
  |false=>exact z7 [] (.int .i64 z) (λw hO=>⟨z,tq,nq,false,ob2,rfl,⟨(jA (of_decide_eq_false h2)).2▸hR2,hO.past 0 ob2⟩,ch_stop hch h2⟩)
theorem r10either_any (n:Nat)(hp:PartC 256 n (pAnd n)):PartC 235 n (pOr n):=by
 refine ⟨λ{B b A cap ws ts nd ob W} hL hln=> ?_⟩
 have hsm:=hL.small
 refine zN hL.own Tryz.func235 (x_part hp hL [] [] hL.rd hsm hln λz1 ts1 nd1 bd1 ob1 hR1 hG1=> ?_)
 refine zM (α:=Int×List Tok×List Nd×Bool×List Blk) (λ(z,tq,nq,bq,oq)=>[(0,Zp b 0),(3,YI z)]) (λ(z,tq,nq,bq,oq)=>oq) (λ(z,tq,nq,bq,oq) m=>(ChI (pAnd n) tOr .one ts nd z tq nq bq/\Rd b A cap ws tq nq bq oq/\nq.length+tq.length<=10000)/\m=tq.length) (z1,ts1,nd1,bd1,ob1) ts1.length [] ⟨⟨ch_start hG1,hR1,Nat.le_trans hG1.1 hsm⟩,rfl⟩ ?_
 rintro ⟨z,tq,nq,bq,oq⟩ m g kk ⟨⟨hch,hRq,hsq⟩,hmm⟩ nx hkk
 subst hkk
 refine zH 10 [] 4 b 3 (.bool bq) (λw hO=>hRq.load (hO.past 0 oq) (λx hx=>hx)) ?_
 cases bq with
 |true=>exact z7 [] (.int .i64 z) (λw hO=>⟨z,tq,nq,true,oq,rfl,⟨hRq,hO.past 0 oq⟩,ch_fell hch⟩)
 |false=>
  refine x_next hL [] [] tOr hRq hsq λob2 hR2=> ?_
  cases h2:kI tOr tq with
  |true=>
   obtain ⟨r,htq,hnr⟩:=qT h2
   have htl:tq.length=r.length+1:=by rw [htq];rfl
   have hnl9:=congrArg List.length hnr
   have h21:=hch.2.1
   refine x_part hp hL [] [] hR2 Om Om λz3 ts3 nd3 bd3 ob3 hR3 hG3=> ?_
   have h31:=hG3.1
   have h32:=hG3.2.1
   exact x_put hL [] [] ⟨4,z,z3,0,[]⟩ hR3 Om λob4 hR4=>(nx ((nd3.length:Int),ts3,nd3++[⟨4,z,z3,0,[]⟩],bd3,ob4) ts3.length [] Om ⟨⟨ch_step (pAnd_eats n) mk_one hch htq (hnr▸hG3),hR4,by rw [List.length_append,List.length_singleton];omega⟩,rfl⟩ Kr Kr)
  |false=>exact z7 [] (.int .i64 z) (λw hO=>⟨z,tq,nq,false,ob2,rfl,⟨(jA (of_decide_eq_false h2)).2▸hR2,hO.past 0 ob2⟩,ch_stop hch h2⟩)
end
section
set_option linter.unnecessarySimpa false
def nK (c:Tok):Nat->Int
 |0=> -1
 |i+1=>if x3 i=c then (i:Int) else nK c i
theorem keyZ_3 (c:Tok):(keyN c=none/\nK c 3= -1)∨∃ n,keyN c=some n/\nK c 3=(n:Int):=by
 have e:nK c 3=if x3 2=c then (2:Int) else if x3 1=c then (1:Int) else if x3 0=c then (0:Int) else-1:=rfl
 by_cases h0:c=x3 0
 ·subst h0;exact .inr ⟨0,rfl,by decide⟩
 ·by_cases h1:c=x3 1
  ·subst h1;exact .inr ⟨1,rfl,by decide⟩
  ·by_cases h2:c=x3 2
   ·subst h2;exact .inr ⟨2,rfl,by decide⟩
   ·refine .inl ⟨by unfold keyN;rw [if_neg h0,if_neg h1,if_neg h2], ?_⟩
    rw [e,if_neg (λq=>h2 q.symm),if_neg (λq=>h1 q.symm),if_neg (λq=>h0 q.symm)]
theorem keyZ_low (c:Tok):∀ i, -1<=nK c i/\nK c i<3\/3<i
 |0=> .inl ⟨by show (-1:Int)<= -1;omega,by show (-1:Int)<3;omega⟩
 |i+1=>by
  rcases keyZ_low c i with h|h
  ·by_cases hi:3<i+1
   ·exact .inr hi
   ·left
    show-1<=(if x3 i=c then (i:Int) else nK c i)/\(if x3 i=c then (i:Int) else nK c i)<3
    split<;>omega
  ·exact .inr Om
theorem atom_words {ts:List Tok}(h:wdL (ts.tail.tail.headD [])=true):∃ k s v r,ts=k::s::v::r:=by
 match ts,h with
 | [],h=>cases h
 | [a],h=>cases h
 | [a,b],h=>cases h
 |a::b::c::r,_=>exact ⟨a,b,c,r,rfl⟩
theorem atom_none {ts:List Tok}(h:nK (ts.headD []) 3<0\/wdL (ts.tail.tail.headD [])=false\/(ts.tail.headD []≠tEq/\ts.tail.headD []≠tNe)):vX ts=none:=by
 match ts,h with
 | [],_=>rfl
 | [a],_=>rfl
 | [a,b],_=>rfl
 |k::s::v::r,h=>
  have h':nK k 3<0\/wdL v=false\/(s≠tEq/\s≠tNe):=h
  have:bN k s v=none:=by
   unfold bN
   rcases keyZ_3 k with ⟨q,_⟩|⟨n,q,e⟩
   ·rw [q]
   ·rw [q]
    rcases h' with h'|h'|⟨h1,h2⟩
    ·omega
    ·simp only;rw [if_neg (by rw [h'];simp)]
    ·simp [h1,h2]
  rw [vX,this]
theorem got_none {ts:List Tok}{nd:List Nd}{z:Int}(h:vX ts=none):Got vX ts nd z ts.tail.tail.tail nd true:=by
 refine ⟨?_, ?_,by rw [h]⟩
 ·simp only [List.length_tail];omega
 ·simp only [List.length_tail];omega
theorem atom_key {k:Tok}(h:¬ nK k 3<0):∃ n,keyN k=some n/\nK k 3=(n:Int):=by
 rcases keyZ_3 k with ⟨_,q⟩|h'
 ·omega
 ·exact h'
theorem got_is {ts:List Tok}{nd:List Nd}(h:¬ nK (ts.headD []) 3<0)(hv:wdL (ts.tail.tail.headD [])=true)(hs:ts.tail.headD []=tEq):
  Got vX ts nd (nd.length:Int) ts.tail.tail.tail (nd++[⟨1,0,0,nK (ts.headD []) 3,ts.tail.tail.headD []⟩]) (((false||decide (ts=[]))||decide (ts.tail=[]))||decide (ts.tail.tail=[])):=by
 obtain ⟨k,s,v,r,rfl⟩:=atom_words hv
 obtain ⟨n,h1,h2⟩:=atom_key h
 have hv:wdL v=true:=hv
 have hs:s=tEq:=hs
 have e:bN k s v=some (.is n v):=by
  unfold bN
  rw [show keyN k=some n from h1]
  simp only
  rw [if_pos hv,if_pos hs]
 refine ⟨by simp;omega,by simp;omega, ?_⟩
 rw [vX,e]
 refine ⟨by simp,rfl,by rw [h2];rfl, ?_⟩
 show (nd.length:Int)=((nd.length+1-1:Nat):Int)
 rw [Nat.add_sub_cancel]
theorem got_isnot {ts:List Tok}{nd:List Nd}(h:¬ nK (ts.headD []) 3<0)(hv:wdL (ts.tail.tail.headD [])=true)(hs:ts.tail.headD []=tNe):
  Got vX ts nd ((nd++[(⟨1,0,0,nK (ts.headD []) 3,ts.tail.tail.headD []⟩:Nd)]).length:Int) ts.tail.tail.tail (nd++[⟨1,0,0,nK (ts.headD []) 3,ts.tail.tail.headD []⟩]++[⟨2,(nd.length:Int),0,0,[]⟩]) (((false||decide (ts=[]))||decide (ts.tail=[]))||decide (ts.tail.tail=[])):=by
 obtain ⟨k,s,v,r,rfl⟩:=atom_words hv
 obtain ⟨n,h1,h2⟩:=atom_key h
 have hv:wdL v=true:=hv
 have hs:s=tNe:=hs
 have e:bN k s v=some (.no (.is n v)):=by
  unfold bN
  rw [show keyN k=some n from h1]
  simp only
  rw [if_pos hv,if_neg (by rw [show s=tNe from hs];decide),if_pos hs]
 refine ⟨by simp;omega,by simp;omega, ?_⟩
 rw [vX,e]
 refine ⟨by simp,rfl, ?_, ?_⟩
 ·rw [h2]
  show _=nd++([⟨1,0,0,(n:Int),v⟩]++[⟨2,((nd.length+1-1:Nat):Int),0,0,[]⟩])
  rw [Nat.add_sub_cancel];simp
 ·show ((nd++[_]).length:Int)=((nd.length+(1+1) -1:Nat):Int)
  rw [List.length_append];simp;try omega
theorem got_not {n:Nat}{ts r ts2:List Tok}{nd nd2:List Nd}{z:Int}{bad2:Bool}(htq:ts=qY::r)(h:Got (vH n) r nd z ts2 nd2 bad2):Got (vH (n+1)) ts nd (nd2.length:Int) ts2 (nd2++[⟨2,z,0,0,[]⟩]) bad2:=by
 subst htq
 obtain ⟨h1,h2,h3⟩:=h
 refine ⟨by rw [List.length_append,List.length_singleton,List.length_cons];omega,by rw [List.length_cons];omega, ?_⟩
 rw [pFac_not]
 cases hp:vH n r with
 |none=>rw [hp] at h3;exact h3
 |some x=>
  obtain ⟨t,r'⟩:=x
  rw [hp] at h3
  obtain ⟨hb,hr,hn,hz⟩:=h3
  have hz1:=t.sz_pos
  refine ⟨hb,hr, ?_, ?_⟩
  ·rw [hn,hz];show _=nd++(t.enc nd.length++[⟨2,((nd.length+t.sz-1:Nat):Int),0,0,[]⟩]);simp
  ·rw [hn,List.length_append,Tr.enc_len];show ((nd.length+t.sz:Nat):Int)=((nd.length+(t.sz+1) -1:Nat):Int);congr 1
theorem got_close {n:Nat}{ts r ts2:List Tok}{nd nd2:List Nd}{z:Int}{bad2:Bool}(htq:ts=x8::r)(h:Got (pOr n) r nd z ts2 nd2 bad2)(hc:kI xB ts2=true):Got (vH (n+1)) ts nd z (wI xB ts2) nd2 bad2:=by
 subst htq
 obtain ⟨h1,h2,h3⟩:=h
 obtain ⟨r2,e1,e2⟩:=qT hc
 rw [e2]
 have hl:ts2.length=r2.length+1:=by rw [e1];rfl
 refine ⟨by rw [List.length_cons];omega,by rw [List.length_cons];omega, ?_⟩
 rw [p8]
 cases hp:pOr n r with
 |none=>rw [hp] at h3;exact h3
 |some x=>
  obtain ⟨t,r'⟩:=x
  rw [hp] at h3
  obtain ⟨hb,hr,hn,hz⟩:=h3
  have:r'=xB::r2:=by rw [←hr,e1]
  subst this
  rw [show nH (some (t,xB::r2))=some (t,r2) from by rw [nH,if_pos rfl]]
  exact ⟨hb,rfl,hn,hz⟩
theorem got_unclosed {n:Nat}{ts r ts2:List Tok}{nd nd2:List Nd}{z:Int}{bad2:Bool}(htq:ts=x8::r)(h:Got (pOr n) r nd z ts2 nd2 bad2)(hc:kI xB ts2=false):Got (vH (n+1)) ts nd z (wI xB ts2) nd2 true:=by
 subst htq
 obtain ⟨h1,h2,h3⟩:=h
 have hne:=of_decide_eq_false hc
 rw [(jA hne).2]
 refine ⟨by rw [List.length_cons];omega,by rw [List.length_cons];omega, ?_⟩
 rw [p8]
 cases hp:pOr n r with
 |none=>rfl
 |some x=>
  obtain ⟨t,r'⟩:=x
  rw [hp] at h3
  obtain ⟨hb,hr,hn,hz⟩:=h3
  subst hr
  cases ts2 with
  |nil=>rfl
  |cons d q=>
   rw [nH,if_neg (λe=>hne (by rw [e];rfl))]
theorem r10atom_any (n:Nat):PartC 282 n vX:=by
 refine ⟨λ{B b A cap ws ts nd ob W} hL hln=> ?_⟩
 have hwl:∀ x:Tok,x=ts.tail.tail.headD []->x.length<=1048576:=λx hx=>by
  subst hx
  obtain ⟨pre,C,cc,g,hws,_,_⟩:=hL.rd
  match ts,hws with
  | [],_=>simp
  | [a],_=>simp
  | [a,b],_=>simp
  |a::b::c::r,hws=>exact hL.short c (by rw [hws];simp)
 have hsm:=hL.small
 have l1:=List.length_tail (l:=ts)
 have l2:=List.length_tail (l:=ts.tail)
 have l3:=List.length_tail (l:=ts.tail.tail)
 refine zN hL.own Tryz.func282 (x_takeC hL [] [] hL.rd hsm λob1 hR1=>x_takeC hL [] [] hR1 Om λob2 hR2=>x_takeC hL [] [] hR2 Om λob3 hR3=>zJ [] λb1=> ?_)
 obtain ⟨pre9,C9,c9,g9,hws9,rfl,hsl9⟩:=hR3
 refine zM (α:=Nat×Int) (λ(i,q)=>[(0,Zp b 0),(3,.string (mkS (ts.headD []))),(4,.string (mkS (ts.tail.headD []))),(5,.string (mkS (ts.tail.tail.headD []))),(6,Zp b1 0),(7,YI (i:Int))]) (λ(i,q)=>⟨b1, #[YI 1,YI 0,YI 0,YI q,.string (mkS (ts.tail.tail.headD []))],261⟩::⟨b, #[.slice A ws.length cap,YI ((pre9.length:Nat):Int),.slice C9 nd.length c9,.bool (((false||decide (ts=[]))||decide (ts.tail=[]))||decide (ts.tail.tail=[]))],269⟩::g9) (λ(i,q) m=>(i<=3/\q=nK (ts.headD []) i)/\m=3-i) (0, -1) (3-0) [0] ⟨⟨by omega,rfl⟩,rfl⟩ ?_
 rintro ⟨i,q⟩ m g kk ⟨⟨hi6,hq⟩,hmm⟩ nx hkk
 subst hkk
 by_cases h1:(i:Int)<3
 ·have hi3:i<3:=by omega
  have hE:∀ z:Int,z=(if x3 i=ts.headD [] then (i:Int) else nK (ts.headD []) i)->z=nK (ts.headD []) (i+1):=λz h=>h
  exact zB 18 [] ((i:Int)<3) (λ_=>z8 (k:=272) (args:= #[YI (i:Int)]) (v:= .string (mkS (x3 i))) [] (λw _=>r10key_any i hi3 w) (x4 24 [] (x3 i) (ts.headD []) (λh2=>x_i 20 [0] ((i+1:Nat):Int) (nx (i+1,(i:Int)) (3-(i+1)) [] Om ⟨⟨by omega,hE _ (if_pos h2).symm⟩,rfl⟩ Kr Kr)) (λh2=>x_i 20 [] ((i+1:Nat):Int) (nx (i+1,q) (3-(i+1)) [] Om ⟨⟨by omega,hE _ (by rw [if_neg h2,hq])⟩,rfl⟩ Kr Kr)))) (λh=>absurd h1 h)
 ·obtain rfl:i=3:=by omega
  have hF:(nK (ts.headD []) 3<0\/wdL (ts.tail.tail.headD [])=false\/(ts.tail.headD []≠tEq/\ts.tail.headD []≠tNe))→∀ w,Own (ob.map Blk.b) W w (⟨b1, #[YI 1,YI 0,YI 0,YI q,.string (mkS (ts.tail.tail.headD []))],261⟩::⟨b, #[.slice A ws.length cap,YI ((pre9.length:Nat):Int),.slice C9 nd.length c9,.bool true],269⟩::g9)→∃ z ts' nd' bad' ob',Ending.returned (YI 0)= .returned (YI z)/\Back b A cap ws ts' nd' bad' ob ob' W w/\Got vX ts nd z ts' nd' bad':=λh w hO=>⟨0,_,_,true,⟨b, #[.slice A ws.length cap,YI ((pre9.length:Nat):Int),.slice C9 nd.length c9,.bool true],269⟩::g9,rfl,⟨⟨pre9,C9,c9,g9,hws9,rfl,hsl9⟩,hO.past 1 _⟩,got_none (atom_none h)⟩
  refine zB 18 [] (((3:Nat):Int)<3) (λh=>absurd h h1) (λ_=>zB 29 [0] (q<0) (λh3=>z7 [1] (YI 0) (λw hO=>hF (.inl (by rw [←hq];exact h3)) w (hO.past 0 (⟨b1, #[YI 1,YI 0,YI 0,YI q,.string (mkS (ts.tail.tail.headD []))],261⟩::⟨b, #[.slice A ws.length cap,YI ((pre9.length:Nat):Int),.slice C9 nd.length c9,.bool true],269⟩::g9)))) (λh3=>z8 (k:=170) (args:= #[.string (mkS (ts.tail.tail.headD []))]) (v:= .bool (wdL (ts.tail.tail.headD []))) [] (λw _=>jN _ w (hwl _ rfl)) ?_))
  cases h4:wdL (ts.tail.tail.headD []) with
  |false=>exact z7 [1] (.int .i64 0) (λw hO=>hF (.inr (.inl h4)) w (hO.past 0 (⟨b1, #[.int .i64 1,.int .i64 0,.int .i64 0,.int .i64 q,.string (mkS (ts.tail.tail.headD []))],261⟩::⟨b, #[.slice A ws.length cap,.int .i64 ((pre9.length:Nat):Int),.slice C9 nd.length c9,.bool true],269⟩::g9)))
  |true=>
   have h3w:3<=ts.length:=by obtain ⟨k9,s9,v9,r9,e9⟩:=atom_words h4;rw [e9];simp
   refine gA 37 [] (ts.tail.headD []) [61] (λh5=> ?_) (λh5=>gA 40 [] (ts.tail.headD []) [33,61] (λh7=> ?_) (λh7=>z7 [1] (YI 0) (λw hO=>hF (.inr (.inr ⟨h5,h7⟩)) w (hO.past 0 (⟨b1, #[YI 1,YI 0,YI 0,YI q,.string (mkS (ts.tail.tail.headD []))],261⟩::⟨b, #[.slice A ws.length cap,YI ((pre9.length:Nat):Int),.slice C9 nd.length c9,.bool true],269⟩::g9)))))
   ·exact x_put hL [0] [⟨b1, #[YI 1,YI 0,YI 0,YI q,.string (mkS (ts.tail.tail.headD []))],261⟩] ⟨1,0,0,q,ts.tail.tail.headD []⟩ ⟨pre9,C9,c9,g9,hws9,rfl,hsl9⟩ Om λob4 hR4=>x4 50 [] (ts.tail.headD []) [33,61] (λh6=>absurd (h5.symm.trans h6) (by decide)) (λ_=>z7 [] (YI (nd.length:Int)) (λw hO=>⟨_,_,_,_,ob4,rfl,⟨hR4,hO.past 1 ob4⟩,by rw [hq];exact got_is (by rw [←hq];exact h3) h4 h5⟩))
   ·refine x_put hL [0] [⟨b1, #[YI 1,YI 0,YI 0,YI q,.string (mkS (ts.tail.tail.headD []))],261⟩] ⟨1,0,0,q,ts.tail.tail.headD []⟩ ⟨pre9,C9,c9,g9,hws9,rfl,hsl9⟩ Om λob4 hR4=>x4 50 [] (ts.tail.headD []) [33,61] (λ_=>x_put hL [] [⟨b1, #[YI 1,YI 0,YI 0,YI q,.string (mkS (ts.tail.tail.headD []))],261⟩] ⟨2,(nd.length:Int),0,0,[]⟩ hR4 (by rw [List.length_append,List.length_singleton];omega) λob5 hR5=>z7 [] (YI ((nd++[(⟨1,0,0,q,ts.tail.tail.headD []⟩:Nd)]).length:Int)) (λw hO=>⟨_,_,_,_,ob5,rfl,⟨hR5,hO.past 1 ob5⟩,by rw [hq];exact got_isnot (by rw [←hq];exact h3) h4 h7⟩)) (λh=>absurd h7 h)
theorem r10fac_step (n:Nat)(hf:∀ k,k+1=n->PartC 270 k (vH k))(he:∀ k,k+1=n->PartC 235 k (pOr k)):PartC 270 n (vH n):=by
 refine ⟨λ{B b A cap ws ts nd ob W} hL hln=> ?_⟩
 have hsm:=hL.small
 refine zN hL.own Tryz.func270 (zH 8 [] 4 b 3 Z5 (λw hO=>hL.rd.load (hO.past 0 ob) (λx hx=>hx)) (x_next hL [] [] qY hL.rd hsm λob1 hR1=> ?_))
 cases h1:kI qY ts with
 |true=>
  obtain ⟨r,htq,hnr⟩:=qT h1
  have htl:ts.length=r.length+1:=by rw [htq];rfl
  have hnl9:=congrArg List.length hnr
  obtain ⟨k,rfl⟩:∃ k,n=k+1:=⟨n-1,by omega⟩
  refine x_part (hf k rfl) hL [] [] hR1 Om Om λz2 ts2 nd2 bd2 ob2 hR2 hG2=> ?_
  have h21:=hG2.1
  have h22:=hG2.2.1
  exact x_put hL [] [] ⟨2,z2,0,0,[]⟩ hR2 Om λob3 hR3=>z7 [] (YI (nd2.length:Int)) (λw hO=>⟨_,_,_,_,ob3,rfl,⟨hR3,hO.past 0 ob3⟩,got_not htq (hnr▸hG2)⟩)
 |false=>
  rw [(jA (of_decide_eq_false h1)).2] at hR1
  refine x_next hL [] [] x8 hR1 hsm λob2 hR2=> ?_
  cases h2:kI x8 ts with
  |true=>
   obtain ⟨r,htq,hnr⟩:=qT h2
   have htl:ts.length=r.length+1:=by rw [htq];rfl
   have hnl9:=congrArg List.length hnr
   obtain ⟨k,rfl⟩:∃ k,n=k+1:=⟨n-1,by omega⟩
   refine x_part (he k rfl) hL [] [] hR2 Om Om λz3 ts3 nd3 bd3 ob3 hR3 hG3=> ?_
   have h31:=hG3.1
   refine x_next hL [] [] xB hR3 Om λob4 hR4=> ?_
   obtain ⟨pre9,C9,c9,g9,hws9,rfl,hsl9⟩:=hR4
   cases h3:kI xB ts3 with
   |true=>exact z7 [] (.int .i64 z3) (λw hO=>⟨_,_,_,_,⟨b, #[.slice A ws.length cap,.int .i64 ((pre9.length:Nat):Int),.slice C9 nd3.length c9,.bool bd3],269⟩::g9,rfl,⟨⟨pre9,C9,c9,g9,hws9,rfl,hsl9⟩,hO.past 0 _⟩,got_close htq (hnr▸hG3) h3⟩)
   |false=>exact z7 [0] (.int .i64 z3) (λw hO=>⟨_,_,_,true,⟨b, #[.slice A ws.length cap,.int .i64 ((pre9.length:Nat):Int),.slice C9 nd3.length c9,.bool true],269⟩::g9,rfl,⟨⟨pre9,C9,c9,g9,hws9,rfl,hsl9⟩,hO.past 0 _⟩,got_unclosed htq (hnr▸hG3) h3⟩)
  |false=>
   rw [(jA (of_decide_eq_false h2)).2] at hR2
   exact x_part (r10atom_any n) hL [] [] hR2 hsm hln λz3 ts3 nd3 bd3 ob3 hR3 hG3=>z7 [] (YI z3) (λw hO=>⟨_,_,_,_,ob3,rfl,⟨hR3,hO.past 0 ob3⟩,by unfold Got at hG3 ⊢;rw [pfac_atom h1 h2 hln];exact hG3⟩)
theorem r10fac_any:∀ n,PartC 270 n (vH n)
 |0=>r10fac_step 0 (λk h=>absurd h Om) (λk h=>absurd h Om)
 |n+1=>by
  have ih:=r10fac_any n
  refine r10fac_step (n+1) (λk h=> ?_) (λk h=> ?_)
  ·obtain rfl:k=n:=by omega
   exact ih
  ·obtain rfl:k=n:=by omega
   exact r10either_any k (r10both_any k ih)
theorem r10eitherP (n:Nat):PartC 235 n (pOr n):=r10either_any n (r10both_any n (r10fac_any n))
end
section
set_option linter.unnecessarySimpa false
theorem bL:∀ (t:Tr) (o:Nat),t.ok=true→∀ n∈t.enc o,n.text.length<=12
 | .is k v,o,h,n,hn=>by
  unfold Tr.ok at h
  simp only [Bool.and_eq_true,decide_eq_true_eq] at h
  rw [Tr.enc,List.mem_singleton] at hn
  rw [hn];exact word_short h.2
 | .no x,o,h,n,hn=>by
  rw [Tr.enc] at hn
  rcases List.mem_append.1 hn with hn|hn
  ·exact bL x o h n hn
  ·rw [List.mem_singleton.1 hn];simp
 | .both x y,o,h,n,hn=>by
  unfold Tr.ok at h
  rw [Bool.and_eq_true] at h
  rw [Tr.enc] at hn
  rcases List.mem_append.1 hn with hn|hn
  ·rcases List.mem_append.1 hn with hn|hn
   ·exact bL x o h.1 n hn
   ·exact bL y _ h.2 n hn
  ·rw [List.mem_singleton.1 hn];simp
 | .one x y,o,h,n,hn=>by
  unfold Tr.ok at h
  rw [Bool.and_eq_true] at h
  rw [Tr.enc] at hn
  rcases List.mem_append.1 hn with hn|hn
  ·rcases List.mem_append.1 hn with hn|hn
   ·exact bL x o h.1 n hn
   ·exact bL y _ h.2 n hn
  ·rw [List.mem_singleton.1 hn];simp
theorem words_short {s:YL}:∀ x∈zY s,x.length<=s.length:=λx hx=>by have:=nV 32 s [] x hx;simpa using this
theorem gB {s:YL}(h1:¬ 96<s.length)(h2:¬ s=[]):pL s=(match gP s with|some _=>0|none=>7)/\gR s=(match gP s with|some t=>t.enc 0|none=>[]):=by
 unfold pL gR
 rw [if_neg h1,if_neg h1,if_neg h2,if_neg h2];exact ⟨rfl,rfl⟩
theorem got_fell {s:YL}{z:Int}{ts':List Tok}{nd':List Nd}(h:Got (pOr (zY s).length) (zY s) [] z ts' nd' true):gP s=none:=by
 unfold gP
 obtain ⟨_,_,h3⟩:=h
 cases hp:pOr (zY s).length (zY s) with
 |none=>rfl
 |some x=>rw [hp] at h3;cases h3.1
theorem got_more {s:YL}{z:Int}{ts':List Tok}{nd':List Nd}{bad':Bool}(h:Got (pOr (zY s).length) (zY s) [] z ts' nd' bad')(hn:ts'≠[]):gP s=none:=by
 unfold gP
 obtain ⟨_,_,h3⟩:=h
 cases hp:pOr (zY s).length (zY s) with
 |none=>rfl
 |some x=>
  obtain ⟨t,r⟩:=x
  rw [hp] at h3
  obtain ⟨_,hr,_⟩:=h3
  subst hr
  cases ts' with
  |nil=>exact absurd rfl hn
  |cons c q=>rfl
theorem got_all {s:YL}{z:Int}{nd':List Nd}(h:Got (pOr (zY s).length) (zY s) [] z [] nd' false):∃ t:Tr,t.ok=true/\nd'=t.enc 0/\gP s=if t.fit then some t else none:=by
 unfold gP
 obtain ⟨_,_,h3⟩:=h
 cases hp:pOr (zY s).length (zY s) with
 |none=>rw [hp] at h3;cases h3
 |some x=>
  obtain ⟨t,r⟩:=x
  rw [hp] at h3
  obtain ⟨_,hr,hn,_⟩:=h3
  subst hr
  exact ⟨t,pOr_ok _ _ _ _ hp,by simpa using hn,rfl⟩
theorem r10Parse_any (s:YL)(W:World)(hs:s.length<=1048576):YC 201 #[.string (mkS s)] W λe w'=>∃ v' ob',e= .returned (.tuple #[.agg #[v'],YI (pL s)])/\SlN v' (gR s) ob'/\Own [] W w' ob':=by
 have hwn:(zY s).length<=s.length+1:=splitL_many10 32 s []
 have hZ:=λ{z:Int} (h1:pL s=z) (h2:gR s=[]) (w:World) (hb:Own [] W w [])=>show ∃ v' ob',Ending.returned (.tuple #[.agg #[.slice none 0 0],YI z])= .returned (.tuple #[.agg #[v'],YI (pL s)])/\SlN v' (gR s) ob'/\Own [] W w ob' from ⟨_,[],by rw [h1],by rw [h2];exact Sl.nil _ _,hb⟩
 refine zD Tryz.func201 (zJ [] λb1=>zB 8 [] ((96:Int)<(s.length:Int)) (λh1=>yD [0] 0 (.agg #[.slice none 0 0]) (YI 3) λw hO=>hZ (show pL s=3 from if_pos Om) (show gR s=[] from if_pos Om) w (hO.no)) (λh1=>x4 11 [] s [] (λh2=>yD [0] 0 (.agg #[.slice none 0 0]) (YI 0) λw hO=>hZ (show pL s=0 from by unfold pL;rw [if_neg Om,if_pos h2]) (show gR s=[] from by unfold gR;rw [if_neg Om,if_pos h2]) w (hO.no)) (λh2=>k8 (R:=λv' ob'=>SlT v' (zY s) ob') [] (λw hO=>rsplitB_own s 32 w hs) ?_)))
 intro vw ow hsw
 have h96:¬ 96<s.length:=by omega
 obtain ⟨AW,cw,rfl⟩:=SlT.form hsw
 refine x_in [] (λ_=>((⟨b1, #[.slice none 0 0],212⟩::ow).map Blk.b)) (⟨b1, #[.slice none 0 0],212⟩::ow) (λw1 hO1=> ?_)
 have hO2:=hO1.past 0 (⟨b1, #[.slice none 0 0],212⟩::ow)
 clear hO1
 refine ⟨Own.lend hO2, ?_⟩
 have hw1:Reads yY w1 w1.heap.size AW (zY s):=SlT.reads hsw rfl hO2 (λx hx=>List.mem_cons_of_mem _ hx)
 have hJ:∀ w L,Own ((⟨b1, #[.slice none 0 0],212⟩::ow).map Blk.b) w1 w L->Own [] W w L:=λw L hO=>by have q:=Own.join (R:=[]) (by rw [List.append_nil];exact hO2) hO;rwa [List.append_nil] at q
 refine yK [] λb2=> ?_
 have hRd0:Rd b2 AW cw (zY s) (zY s) [] false [⟨b2, #[.slice AW (zY s).length cw,YI 0,.slice none 0 0,.bool false],269⟩]:=⟨[],none,0,[],rfl,rfl,Sl.nil _ _⟩
 refine x_callO (k:=235) (args:= #[Zp b2 0]) (Rr:=λv' L'=>∃ z ts' nd' bad' ob',v'=YI z/\L'=ob'++(⟨b1, #[.slice none 0 0],212⟩::ow)/\Rd b2 AW cw (zY s) ts' nd' bad' ob'/\Got (pOr (zY s).length) (zY s) [] z ts' nd' bad') [] (⟨b2, #[.slice AW (zY s).length cw,YI 0,.slice none 0 0,.bool false],269⟩::⟨b1, #[.slice none 0 0],212⟩::ow) (λw hO=> ?_) ?_
 ·have hO':Own ((⟨b1, #[.slice none 0 0],212⟩::ow).map Blk.b) w1 w ([⟨b2, #[.slice AW (zY s).length cw,YI 0,.slice none 0 0,.bool false],269⟩]++(⟨b1, #[.slice none 0 0],212⟩::ow)):=hO
  exact ((r10eitherP (zY s).length).go (⟨hRd0,Own.lent hO',own_new hO',hO'.size,Reads.bound (SlT.reads hsw rfl hO' (λx hx=>List.mem_append_right _ (List.mem_cons_of_mem _ hx))) hw1,λx hx=>Nat.le_trans (words_short x hx) hs,by omega,by simp only [List.length_nil];omega⟩:Lent w1.heap.size b2 AW cw (zY s) (zY s) [] false [⟨b2, #[.slice AW (zY s).length cw,YI 0,.slice none 0 0,.bool false],269⟩] w) (Nat.le_refl _)).mono λe w' ⟨z,ts',nd',bad',ob',k1,k2,k3⟩=>⟨_,_,k1,⟨z,ts',nd',bad',ob',rfl,rfl,k2.rd,k3⟩,Own.join hO' k2.own⟩
 rintro ve Le ⟨z,ts2,nd2,bd,obe,rfl,rfl,⟨pre,C,cc,g,hpw,rfl,hsl⟩,hG⟩
 have hnw:nd2.length<=1000:=by have q:=hG.1;simp only [List.length_nil] at q;omega
 refine y8 [0] (⟨b1, #[.slice none 0 0],212⟩::⟨b2, #[.slice AW (zY s).length cw,YI ((pre.length:Nat):Int),.slice C nd2.length cc,.bool bd],269⟩::(g++ow)) (λw hO=>(hO.past 0 (⟨b2, #[.slice AW (zY s).length cw,YI ((pre.length:Nat):Int),.slice C nd2.length cc,.bool bd],269⟩::(g++⟨b1, #[.slice none 0 0],212⟩::ow))).perm (List.Perm.trans (List.Perm.cons _ List.perm_middle) (List.Perm.swap _ _ _))) (zJ [] λb3=> ?_)
 cases bd with
 |true=>exact yD [0,2,1] 1 (.agg #[.slice none 0 0]) (.int .i64 7) λw hO=>hZ (by rw [(gB h96 h2).1,show gP s=none from got_fell hG]) (by rw [(gB h96 h2).2,show gP s=none from got_fell hG]) w (hJ w _ hO.no)
 |false=>
  refine zB 38 [0,2,2,2] (((pre.length:Nat):Int)<((zY s).length:Int)) (λh4=> ?_) (λh4=> ?_)
  ·have hne:ts2≠[]:=λq=>by rw [q] at hpw;have:=congrArg List.length hpw;simp at this;omega
   exact yD [1] 1 (.agg #[.slice none 0 0]) (YI 7) λw hO=>hZ (by rw [(gB h96 h2).1,show gP s=none from got_more hG hne]) (by rw [(gB h96 h2).2,show gP s=none from got_more hG hne]) w (hJ w _ hO.no)
  ·have hts:ts2=[]:=by cases ts2 with|nil=>rfl|cons c r=>have:=congrArg List.length hpw;simp at this;omega
   rw [hts] at hG
   obtain ⟨t,hok,hnd,hrd⟩:=got_all hG
   have hnt:∀ n∈nd2,n.text.length<=1048576:=λn hn=>by rw [hnd] at hn;have:=bL t 0 hok n hn;omega
   refine z8 (k:=236) (args:= #[.agg #[.slice C nd2.length cc]]) (v:= .bool (fH nd2)) [0] (λw hO=>r10May_any C cc nd2 w (Sl.reads hsl rfl (hO.past 3 (g++ow)) (λx hx=>List.mem_append_left _ hx)) hnw hnt) ?_
   cases h5:fH nd2 with
   |false=>exact yD [1] 1 (.agg #[.slice none 0 0]) (.int .i64 7) λw hO=>hZ (by rw [(gB h96 h2).1,show gP s=none from by rw [hrd,if_neg (by rw [←fit_may hok,←hnd,h5];simp)]]) (by rw [(gB h96 h2).2,show gP s=none from by rw [hrd,if_neg (by rw [←fit_may hok,←hnd,h5];simp)]]) w (hJ w _ hO.no)
   |true=>
    have hr:gP s=some t:=by rw [hrd,if_pos (by rw [←fit_may hok,←hnd];exact h5)]
    exact yD [0,1] 1 (.agg #[.slice C nd2.length cc]) (YI 0) λw hO=>⟨_,g,by rw [(gB h96 h2).1,hr],by rw [(gB h96 h2).2,hr];show SlN _ (t.enc 0) g;rw [←hnd];exact hsl,(hJ w _ (hO.past 3 (g++ow))).sublist (List.sublist_append_left _ _)⟩
end
section
set_option linter.unnecessarySimpa false
def Tr.sts:Nat->Tr->List Nat
 |o,.is _ _=>[o]
 |o,.no x=>x.sts o++[o]
 |o,.both x y=>x.sts o++y.sts (o+x.sz)++[o]
 |o,.one x y=>x.sts o++y.sts (o+x.sz)++[o]
theorem Tr.sts_len:∀ (t:Tr) (o:Nat),(t.sts o).length=t.sz
 | .is _ _,_=>rfl
 | .no x,o=>by rw [sts,List.length_append,sts_len x o];rfl
 | .both x y,o=>by rw [sts,List.length_append,List.length_append,sts_len x o,sts_len y _];rfl
 | .one x y,o=>by rw [sts,List.length_append,List.length_append,sts_len x o,sts_len y _];rfl
theorem snoc_last {α:Type}(l:List α)(x:α){k:Nat}(h:k=l.length):(l++[x])[k]?=some x:=by subst h;simp
theorem Tr.sts_last:∀ (t:Tr) (o:Nat),(t.sts o)[t.sz-1]?=some o
 | .is _ _,_=>rfl
 | .no x,o=>snoc_last _ _ (by rw [sts_len];rfl)
 | .both x y,o=>snoc_last _ _ (by rw [List.length_append,sts_len,sts_len];rfl)
 | .one x y,o=>snoc_last _ _ (by rw [List.length_append,sts_len,sts_len];rfl)
def FS:List (Nat×Tr)->Nat->List Nat->Prop
 | [],i,F=>i=0/\F=[]
 |p::r,i,F=>∃ i0 F0,FS r i0 F0/\i=i0+p.2.sz/\p.1=i-1/\F=F0++p.2.sts i0
theorem FS.len:∀ {st:List (Nat×Tr)} {i:Nat} {F:List Nat},FS st i F->F.length=i
 | [],i,F,h=>by obtain ⟨rfl,rfl⟩:=h;rfl
 |p::r,i,F,h=>by
  obtain ⟨i0,F0,h0,rfl,_,rfl⟩:=h
  rw [List.length_append,Tr.sts_len,h0.len]
theorem fs_last {F0:List Nat}{t:Tr}{i0:Nat}(h:F0.length=i0):(F0++t.sts i0)[i0+t.sz-1]?=some i0:=by
 have hz:=t.sz_pos
 rw [List.getElem?_append_right Om,h,show i0+t.sz-1-i0=t.sz-1 by omega,Tr.sts_last]
theorem FS.cons {st:List (Nat×Tr)}{i:Nat}{F:List Nat}(h:FS st i F)(hi:¬ i=0):∃ p r,st=p::r:=by
 cases st with
 |nil=>exact absurd h.1 hi
 |cons p r=>exact ⟨p,r,rfl⟩
theorem FS.top {p:Nat×Tr}{r:List (Nat×Tr)}{i:Nat}{F:List Nat}(h:FS (p::r) i F):∃ i0 F0,FS r i0 F0/\i=i0+p.2.sz/\p.1=i-1/\F=F0++p.2.sts i0/\F[i-1]?=some i0:=by
 obtain ⟨i0,F0,h0,rfl,h1,rfl⟩:=h
 exact ⟨i0,F0,h0,rfl,h1,rfl,fs_last h0.len⟩
theorem FS.two {p:Nat×Tr}{r:List (Nat×Tr)}{i i0:Nat}{F:List Nat}(h:FS (p::r) i F)(hi:F[i-1]?=some i0)(h0:¬ i0=0):∃ q s j,r=q::s/\q.1=i0-1/\F[i0-1]?=some j∧∀ t:Tr,t.sts j=q.2.sts j++p.2.sts i0++[j]->t.sz=q.2.sz+p.2.sz+1->FS ((i,t)::s) (i+1) (F++[j]):=by
 obtain ⟨k,F0,h1,h2,h3,h4,h5⟩:=h.top
 rw [h5] at hi
 obtain rfl:=Option.some.inj hi
 cases r with
 |nil=>exact absurd h1.1 h0
 |cons q s=>
  obtain ⟨j,F1,g1,g2,g3,g4,g5⟩:=h1.top
  have hk:=h1.len
  have hz:=p.2.sz_pos
  refine ⟨q,s,j,rfl,g3, ?_,λt ht hs=>⟨j,F1,g1, ?_,rfl, ?_⟩⟩
  ·have hz2:=q.2.sz_pos
   rw [h4,List.getElem?_append_left Om];exact g5
  ·show i+1=j+t.sz;omega
  ·show F++[j]=F1++t.sts j
   rw [ht,h4,g4];simp
theorem FS.leaf {st:List (Nat×Tr)}{i:Nat}{F:List Nat}(h:FS st i F)(k:Nat)(v:YL):FS ((i,.is k v)::st) (i+1) (F++[i]):=⟨i,F,h,rfl,rfl,rfl⟩
theorem FS.no {p:Nat×Tr}{r:List (Nat×Tr)}{i i0:Nat}{F:List Nat}(h:FS (p::r) i F)(hi:F[i-1]?=some i0):FS ((i,.no p.2)::r) (i+1) (F++[i0]):=by
 obtain ⟨k,F0,h1,h2,h3,h4,h5⟩:=h.top
 rw [h5] at hi
 obtain rfl:=Option.some.inj hi
 refine ⟨k,F0,h1, ?_,rfl, ?_⟩
 ·show i+1=k+(p.2.sz+1);omega
 ·show F++[k]=F0++(p.2.sts k++[k]);rw [h4];simp
def wW (l:List Nd):Bool:=decide (l.length<=15) && (jJ l).isSome
theorem n9 {n:Nd}(h:¬ n.op=1):xK n=false:=stp_bare (o:=0) (i:=0) (j:=0) (st:=[]) h
theorem ck_leaf {st:List (Nat×Tr)}{i:Nat}{n:Nd}{F:List Nat}(h:FS st i F)(hl:xK n=true):∃ s,stp i st n=some s/\FS s (i+1) (F++[i]):=⟨_,stp_leaf hl,h.leaf _ _⟩
theorem ck_bad {st:List (Nat×Tr)}{i:Nat}{n:Nd}(ho:n.op=1)(hl:xK n=false):stp i st n=none:=tZ hl (op_not Om) (op_bin Om Om)
theorem ck_else {st:List (Nat×Tr)}{i:Nat}{n:Nd}(h1:¬ n.op=1)(h2:¬ n.op=2)(h3:¬ n.op=3)(h4:¬ n.op=4):stp i st n=none:=tZ (n9 h1) (op_not h2) (op_bin h3 h4)
theorem ck_not0 {st:List (Nat×Tr)}{i:Nat}{n:Nd}{F:List Nat}(h:FS st i F)(ho:n.op=2)(hi:i=0):stp i st n=none:=by
 cases st with
 |nil=>exact tZ (n9 Om) rfl rfl
 |cons p r=>obtain ⟨k,F0,h1,h2,_⟩:=h.top;have:=p.2.sz_pos;omega
theorem ck_not {st:List (Nat×Tr)}{i i0:Nat}{n:Nd}{F:List Nat}(h:FS st i F)(ho:n.op=2)(hi:¬ i=0)(hF:F[i-1]?=some i0)(he:n=⟨n.op,(i:Int) -1,0,0,[]⟩):∃ s,stp i st n=some s/\FS s (i+1) (F++[i0]):=by
 obtain ⟨p,r,rfl⟩:=h.cons hi
 obtain ⟨k,F0,h1,h2,h3,_⟩:=h.top
 have hb:jR (p::r) n=true:=by
  rw [he];unfold jR fN;simp [ho];omega
 exact ⟨_,stp_not (n9 Om) hb,h.no hF⟩
theorem ck_notno {st:List (Nat×Tr)}{i:Nat}{n:Nd}{F:List Nat}(h:FS st i F)(ho:n.op=2)(hi:¬ i=0)(he:¬ n=⟨n.op,(i:Int) -1,0,0,[]⟩):stp i st n=none:=by
 obtain ⟨p,r,rfl⟩:=h.cons hi
 obtain ⟨k,F0,h1,h2,h3,_⟩:=h.top
 refine tZ (n9 Om) ?_ (op_bin Om Om)
 cases hb:jR (p::r) n with
 |false=>rfl
 |true=>
  exfalso;apply he
  unfold jR fN at hb
  simp only [Bool.and_eq_true,decide_eq_true_eq] at hb
  obtain ⟨⟨⟨q1,q2,q3⟩,q4⟩,q5⟩:=hb
  obtain ⟨op,a,b,key,text⟩:=n
  simp only at q1 q2 q3 q4 q5 ho
  subst q2;subst q3;subst q5
  rw [Nd.mk.injEq];exact ⟨rfl,by omega,rfl,rfl,rfl⟩
theorem ck_bin0 {st:List (Nat×Tr)}{i:Nat}{n:Nd}{F:List Nat}(h:FS st i F)(ho:n.op=3\/n.op=4)(hi:i=0):stp i st n=none:=by
 cases st with
 |nil=>exact tZ (n9 Om) rfl rfl
 |cons p r=>obtain ⟨k,F0,h1,h2,_⟩:=h.top;have:=p.2.sz_pos;omega
theorem ck_bin1 {st:List (Nat×Tr)}{i i0:Nat}{n:Nd}{F:List Nat}(h:FS st i F)(ho:n.op=3\/n.op=4)(hi:¬ i=0)(hF:F[i-1]?=some i0)(h0:i0=0):stp i st n=none:=by
 obtain ⟨p,r,rfl⟩:=h.cons hi
 obtain ⟨k,F0,h1,h2,h3,h4,h5⟩:=h.top
 rw [h5] at hF
 obtain rfl:=Option.some.inj hF
 subst h0
 cases r with
 |nil=>exact tZ (n9 Om) (op_not Om) rfl
 |cons q s=>obtain ⟨j,F1,g1,g2,_⟩:=h1.top;have:=q.2.sz_pos;omega
theorem ck_bin {st:List (Nat×Tr)}{i i0:Nat}{n:Nd}{F:List Nat}(h:FS st i F)(ho:n.op=3\/n.op=4)(hi:¬ i=0)(hF:F[i-1]?=some i0)(h0:¬ i0=0)(he:n=⟨n.op,(i0:Int) -1,(i:Int) -1,0,[]⟩):∃ s j,stp i st n=some s/\F[i0-1]?=some j/\FS s (i+1) (F++[j]):=by
 obtain ⟨p,r,rfl⟩:=h.cons hi
 obtain ⟨k,F0,h1,h2,h3,_,hk⟩:=h.top
 obtain ⟨q,s,j,rfl,g1,g2,g3⟩:=h.two hF h0
 have hb:isBin (p::q::s) n=true:=by
  rw [he];unfold isBin fN
  rcases ho with ho|ho<;>simp [ho]<;>omega
 rw [hk] at hF
 obtain rfl:=Option.some.inj hF
 refine ⟨_,j,stp_bin (n9 (by omega)) (op_not (by omega)) hb,g2,g3 _ ?_ ?_⟩
 ·obtain ⟨k2,F2,f1,f2,f3,f4,f5⟩:=h1.top
  have hj:k2=j:=by
   have hl:=h1.len
   have hz:=q.2.sz_pos
   obtain ⟨k3,F3,e1,e2,e3,e4,_⟩:=h.top
   have e5:k3=k:=by omega
   subst e5
   have e6:F3=F0:=by
    have q1:=e1.len
    have q2:=hl
    have q3:F=F0++p.2.sts k3:=by assumption
    exact (List.append_inj (e4.symm.trans q3) Om).1
   subst e6
   rw [e4,List.getElem?_append_left Om,f5] at g2
   exact Option.some.inj g2
  subst hj
  have hk3:k2+q.2.sz=k:=f2.symm
  split
  ·show q.2.sts k2++p.2.sts (k2+q.2.sz)++[k2]=_;rw [hk3]
  ·show q.2.sts k2++p.2.sts (k2+q.2.sz)++[k2]=_;rw [hk3]
 ·split<;>rfl
theorem ck_binno {st:List (Nat×Tr)}{i i0:Nat}{n:Nd}{F:List Nat}(h:FS st i F)(ho:n.op=3\/n.op=4)(hi:¬ i=0)(hF:F[i-1]?=some i0)(h0:¬ i0=0)(he:¬ n=⟨n.op,(i0:Int) -1,(i:Int) -1,0,[]⟩):stp i st n=none:=by
 obtain ⟨p,r,rfl⟩:=h.cons hi
 obtain ⟨k,F0,h1,h2,h3,_⟩:=h.top
 obtain ⟨q,s,j,rfl,g1,g2,g3⟩:=h.two hF h0
 refine tZ (n9 Om) (op_not Om) ?_
 cases hb:isBin (p::q::s) n with
 |false=>rfl
 |true=>
  exfalso;apply he
  unfold isBin fN at hb
  simp only [Bool.and_eq_true,decide_eq_true_eq] at hb
  obtain ⟨⟨⟨q1,q2,q3⟩,q4⟩,q5⟩:=hb
  obtain ⟨op,a,b,key,text⟩:=n
  simp only at q1 q2 q3 q4 q5 ho
  subst q2;subst q3
  rw [Nd.mk.injEq];exact ⟨rfl,by omega,by omega,rfl,rfl⟩
theorem ck_end {st:List (Nat×Tr)}{l:List Nd}{F:List Nat}{i0:Nat}(h:FS st l.length F)(hr:vS 0 [] l=some st)(hl:l≠[])(hF:F[l.length-1]?=some i0):(jJ l).isSome=decide (i0=0):=by
 have hn:¬ l.length=0:=λq=>hl (List.eq_nil_of_length_eq_zero q)
 obtain ⟨p,r,rfl⟩:=h.cons hn
 obtain ⟨k,F0,h1,h2,h3,h4,h5⟩:=h.top
 rw [h5] at hF
 obtain rfl:=Option.some.inj hF
 cases r with
 |nil=>unfold jJ;rw [hr];simp [h1.1]
 |cons q s=>
  obtain ⟨j,F1,g1,g2,_⟩:=h1.top
  have hz:=q.2.sz_pos
  unfold jJ;rw [hr];simp;omega
theorem jC {l:List Nd}(h:vS 0 [] l=none):(jJ l).isSome=false:=by unfold jJ;rw [h];rfl
def dA (c:Tok):Int:=match keyN c with|some n=>(n:Int)|none=> -1
def Bd (nd:List Nd)(bad:Bool):Prop:=bad=true∨∃ n∈nd,n.op=1/\xK n=false
theorem Bd.add {nd:List Nd}{bad:Bool}(h:Bd nd bad)(xs:List Nd):Bd (nd++xs) bad:=h.imp id λ⟨n,h1,h2⟩=>⟨n,List.mem_append_left _ h1,h2⟩
theorem Bd.mark (nd:List Nd):Bd nd true:= .inl rfl
theorem pM:∀ (t:Tr) (o:Nat),t.ok=true→∀ n∈t.enc o,n.op=1->xK n=true
 | .is k v,o,h,n,hn,h1=>by
  unfold Tr.ok at h
  simp only [Bool.and_eq_true,decide_eq_true_eq] at h
  rw [Tr.enc,List.mem_singleton] at hn
  rw [hn];unfold xK;simp [h.2];omega
 | .no x,o,h,n,hn,h1=>by
  rw [Tr.enc] at hn
  rcases List.mem_append.1 hn with hn|hn
  ·exact pM x o h n hn h1
  ·rw [List.mem_singleton.1 hn] at h1;simp at h1
 | .both x y,o,h,n,hn,h1=>by
  unfold Tr.ok at h
  rw [Bool.and_eq_true] at h
  rw [Tr.enc] at hn
  rcases List.mem_append.1 hn with hn|hn
  ·rcases List.mem_append.1 hn with hn|hn
   ·exact pM x o h.1 n hn h1
   ·exact pM y _ h.2 n hn h1
  ·rw [List.mem_singleton.1 hn] at h1;simp at h1
 | .one x y,o,h,n,hn,h1=>by
  unfold Tr.ok at h
  rw [Bool.and_eq_true] at h
  rw [Tr.enc] at hn
  rcases List.mem_append.1 hn with hn|hn
  ·rcases List.mem_append.1 hn with hn|hn
   ·exact pM x o h.1 n hn h1
   ·exact pM y _ h.2 n hn h1
  ·rw [List.mem_singleton.1 hn] at h1;simp at h1
theorem bd_may {nd:List Nd}(h:Bd nd false):fH nd=false:=by
 cases hm:fH nd with
 |false=>rfl
 |true=>
  rcases h with h|⟨n,h1,h2,h3⟩
  ·cases h
  ·rcases tB hm with rfl|⟨t,hok,rfl,_⟩
   ·cases h1
   ·rw [pM t 0 hok n h1 h2] at h3;cases h3
def GotL (part:List Tok->Option (Tr×List Tok))(ts:List Tok)(nd:List Nd)(bad:Bool)(ts':List Tok)(nd':List Nd)(bad':Bool):Prop:=
 nd'.length+ts'.length<=nd.length+ts.length/\ts'.length<=ts.length/\(Bd nd bad->Bd nd' bad')∧
  match part ts with
  |some (t,r)=>ts'=r/\nd'=nd++t.enc nd.length/\bad'=bad
  |none=>Bd nd' bad'
theorem GotL.mk' {part:List Tok->Option (Tr×List Tok)}{ts ts':List Tok}{nd nd':List Nd}{bad bad':Bool}(h1:nd'.length+ts'.length<=nd.length+ts.length)(h2:ts'.length<=ts.length)(h3:Bd nd bad->Bd nd' bad')(hs:∀ t r,part ts=some (t,r)->ts'=r/\nd'=nd++t.enc nd.length/\bad'=bad)(hn:part ts=none->Bd nd' bad'):GotL part ts nd bad ts' nd' bad':=by
 refine ⟨h1,h2,h3, ?_⟩
 cases h:part ts with
 |none=>exact hn h
 |some x=>exact hs x.1 x.2 h
theorem GotL.yes {part:List Tok->Option (Tr×List Tok)}{ts ts':List Tok}{nd nd':List Nd}{bad bad':Bool}(h:GotL part ts nd bad ts' nd' bad'){t:Tr}{r:List Tok}(hp:part ts=some (t,r)):ts'=r/\nd'=nd++t.enc nd.length/\bad'=bad:=by
 have:=h.2.2.2;rw [hp] at this;exact this
theorem GotL.nay {part:List Tok->Option (Tr×List Tok)}{ts ts':List Tok}{nd nd':List Nd}{bad bad':Bool}(h:GotL part ts nd bad ts' nd' bad')(hp:part ts=none):Bd nd' bad':=by
 have:=h.2.2.2;rw [hp] at this;exact this
theorem gl_short {ts:List Tok}{nd:List Nd}{bad:Bool}(h:ts.length<3):GotL vX ts nd bad ts nd true:=by
 refine GotL.mk' (Nat.le_refl _) (Nat.le_refl _) (λ_=>Bd.mark _) (λt r hp=> ?_) (λ_=>Bd.mark _)
 match ts,h,hp with
 | [],_,hp=>cases hp
 | [a],_,hp=>cases hp
 | [a,b],_,hp=>cases hp
theorem leaf_is {k:Int}{v:Tok}:xK ⟨1,0,0,k,v⟩=(decide (0<=k) && decide (k<3) && wdL v):=by unfold xK;simp
theorem atom_some {k s v:Tok}{t:Tr}(h:bN k s v=some t):(s=tEq/\t= .is (dA k).toNat v/\0<=dA k)\/(s≠tEq/\s=tNe/\t= .no (.is (dA k).toNat v)/\0<=dA k):=by
 unfold bN at h
 unfold dA
 cases hk:keyN k with
 |none=>rw [hk] at h;cases h
 |some n=>
  rw [hk] at h
  simp only at h ⊢
  split at h
  ·split at h
   ·rename_i e;exact .inl ⟨e,(Option.some.inj h).symm,by omega⟩
   ·rename_i e
    split at h
    ·rename_i e2;exact .inr ⟨e,e2,(Option.some.inj h).symm,by omega⟩
    ·cases h
  ·cases h
theorem atom_bad {k s v:Tok}(h:bN k s v=none)(hs:s=tEq\/s=tNe):xK ⟨1,0,0,dA k,v⟩=false:=by
 rw [leaf_is]
 unfold bN at h
 unfold dA
 cases hk:keyN k with
 |none=>simp
 |some n=>
  rw [hk] at h
  simp only at h ⊢
  split at h
  ·rcases hs with hs|hs
   ·rw [if_pos hs] at h;cases h
   ·split at h
    ·cases h
    ·first|cases h|(rw [if_pos hs] at h;cases h)
  ·rename_i hv;simp [hv]
theorem gl_eq {k s v:Tok}{r:List Tok}{nd:List Nd}{bad:Bool}(hs:s=tEq):GotL vX (k::s::v::r) nd bad r (nd++[⟨1,0,0,dA k,v⟩]) bad:=by
 refine GotL.mk' (by simp;omega) (by simp;omega) (λh=>h.add _) (λt q hp=> ?_) (λhp=> ?_)
 ·rw [vX] at hp
  cases ha:bN k s v with
  |none=>rw [ha] at hp;cases hp
  |some u=>
   rw [ha] at hp
   simp only [Option.some.injEq,Prod.mk.injEq] at hp
   obtain ⟨rfl,rfl⟩:=hp
   rcases atom_some ha with ⟨_,rfl,h0⟩|⟨h1,_⟩
   ·refine ⟨rfl, ?_,rfl⟩
    show _=nd++[⟨1,0,0,(((dA k).toNat:Nat):Int),v⟩]
    rw [Int.toNat_of_nonneg h0]
   ·exact absurd hs h1
 ·rw [vX] at hp
  cases ha:bN k s v with
  |none=>exact .inr ⟨_,List.mem_append_right _ (List.mem_singleton.2 rfl),rfl,atom_bad ha (.inl hs)⟩
  |some u=>rw [ha] at hp;cases hp
theorem gl_ne {k s v:Tok}{r:List Tok}{nd:List Nd}{bad:Bool}(h0:¬ s=tEq)(hs:s=tNe):GotL vX (k::s::v::r) nd bad r (nd++[⟨1,0,0,dA k,v⟩]++[⟨2,((nd++[(⟨1,0,0,dA k,v⟩:Nd)]).length:Int) -1,0,0,[]⟩]) bad:=by
 refine GotL.mk' (by simp;omega) (by simp;omega) (λh=>(h.add _).add _) (λt q hp=> ?_) (λhp=> ?_)
 ·rw [vX] at hp
  cases ha:bN k s v with
  |none=>rw [ha] at hp;cases hp
  |some u=>
   rw [ha] at hp
   simp only [Option.some.injEq,Prod.mk.injEq] at hp
   obtain ⟨rfl,rfl⟩:=hp
   rcases atom_some ha with ⟨h1,_⟩|⟨_,_,rfl,h2⟩
   ·exact absurd h1 h0
   ·refine ⟨rfl, ?_,rfl⟩
    show _=nd++([⟨1,0,0,(((dA k).toNat:Nat):Int),v⟩]++[⟨2,((nd.length+1-1:Nat):Int),0,0,[]⟩])
    rw [Int.toNat_of_nonneg h2,List.append_assoc,List.length_append,List.length_singleton]
    congr 4;omega
 ·rw [vX] at hp
  cases ha:bN k s v with
  |none=>exact .inr ⟨_,List.mem_append_left _ (List.mem_append_right _ (List.mem_singleton.2 rfl)),rfl,atom_bad ha (.inr hs)⟩
  |some u=>rw [ha] at hp;cases hp
theorem gl_sign {k s v:Tok}{r:List Tok}{nd:List Nd}{bad:Bool}(h0:¬ s=tEq)(hs:¬ s=tNe):GotL vX (k::s::v::r) nd bad r (nd++[⟨1,0,0,dA k,v⟩]) true:=by
 refine GotL.mk' (by simp;omega) (by simp;omega) (λh=>Bd.mark _) (λt q hp=> ?_) (λhp=>Bd.mark _)
 rw [vX] at hp
 cases ha:bN k s v with
 |none=>rw [ha] at hp;cases hp
 |some u=>rcases atom_some ha with ⟨h1,_⟩|⟨_,h1,_⟩<;>contradiction
theorem gl_not {k:Nat}{ts r ts2:List Tok}{nd nd2:List Nd}{bad bad2:Bool}(hts:ts=qY::r)(h:GotL (vH k) r nd bad ts2 nd2 bad2):GotL (vH (k+1)) ts nd bad ts2 (nd2++[⟨2,(nd2.length:Int) -1,0,0,[]⟩]) bad2:=by
 subst hts
 have g1:=h.1
 have g2:=h.2.1
 refine GotL.mk' (by simp;omega) (by simp;omega) (λq=>(h.2.2.1 q).add _) (λt q hp=> ?_) (λhp=> ?_)
 ·rw [pFac_not] at hp
  cases hq:vH k r with
  |none=>rw [hq] at hp;cases hp
  |some x=>
   obtain ⟨u,r'⟩:=x
   rw [hq] at hp
   simp only [pNo,Option.some.injEq,Prod.mk.injEq] at hp
   obtain ⟨rfl,rfl⟩:=hp
   obtain ⟨rfl,e2,rfl⟩:=h.yes hq
   refine ⟨rfl, ?_,rfl⟩
   have hz:=u.sz_pos
   show _=nd++(u.enc nd.length++[⟨2,((nd.length+u.sz-1:Nat):Int),0,0,[]⟩])
   rw [←List.append_assoc,←e2]
   have hl:nd2.length=nd.length+u.sz:=by rw [e2,List.length_append,Tr.enc_len]
   congr 3;rw [hl];omega
 ·rw [pFac_not] at hp
  cases hq:vH k r with
  |none=>exact (h.nay hq).add _
  |some x=>rw [hq] at hp;cases hp
theorem gl_open {k:Nat}{ts r ts2:List Tok}{nd nd2:List Nd}{bad bad2:Bool}(hts:ts=x8::r)(h:GotL (pOr k) r nd bad ts2 nd2 bad2)(hc:kI xB ts2=true):GotL (vH (k+1)) ts nd bad (wI xB ts2) nd2 bad2:=by
 subst hts
 obtain ⟨r2,rfl,hr2⟩:=qT hc
 rw [hr2]
 have g1:=h.1
 have g2:=h.2.1
 simp only [List.length_cons] at g1 g2
 refine GotL.mk' (by simp;omega) (by simp;omega) h.2.2.1 (λt q hp=> ?_) (λhp=> ?_)
 ·rw [p8] at hp
  cases hq:pOr k r with
  |none=>rw [hq] at hp;cases hp
  |some x=>
   obtain ⟨u,r'⟩:=x
   rw [hq] at hp
   obtain ⟨e1,e2,e3⟩:=h.yes hq
   subst e1
   rw [nH,if_pos rfl] at hp
   simp only [Option.some.injEq,Prod.mk.injEq] at hp
   obtain ⟨rfl,rfl⟩:=hp
   exact ⟨rfl,e2,e3⟩
 ·rw [p8] at hp
  cases hq:pOr k r with
  |none=>exact h.nay hq
  |some x=>
   obtain ⟨u,r'⟩:=x
   rw [hq] at hp
   obtain ⟨e1,e2,e3⟩:=h.yes hq
   subst e1
   rw [nH,if_pos rfl] at hp;cases hp
theorem gl_unclosed {k:Nat}{ts r ts2:List Tok}{nd nd2:List Nd}{bad bad2:Bool}(hts:ts=x8::r)(h:GotL (pOr k) r nd bad ts2 nd2 bad2)(hc:kI xB ts2=false):GotL (vH (k+1)) ts nd bad ts2 nd2 true:=by
 subst hts
 have g1:=h.1
 have g2:=h.2.1
 refine GotL.mk' (by simp;omega) (by simp;omega) (λ_=>Bd.mark _) (λt q hp=> ?_) (λhp=>Bd.mark _)
 rw [p8] at hp
 cases hq:pOr k r with
 |none=>rw [hq] at hp;cases hp
 |some x=>
  obtain ⟨u,r'⟩:=x
  rw [hq] at hp
  obtain ⟨e1,e2,e3⟩:=h.yes hq
  subst e1
  cases ts2 with
  |nil=>cases hp
  |cons c q=>
   have:=of_decide_eq_false hc
   simp only [List.head?_cons,Option.some.injEq] at this
   rw [nH,if_neg this] at hp;cases hp
theorem gl_atom {n:Nat}{ts ts2:List Tok}{nd nd2:List Nd}{bad bad2:Bool}(h1:kI qY ts=false)(h2:kI x8 ts=false)(hn:ts.length<=n)(h:GotL vX ts nd bad ts2 nd2 bad2):GotL (vH n) ts nd bad ts2 nd2 bad2:=by
 unfold GotL at h ⊢;rw [pfac_atom h1 h2 hn];exact h
def ChL (part:List Tok->Option (Tr×List Tok))(c:Tok)(mk:Tr->Tr->Tr)(ts:List Tok)(nd:List Nd)(bad:Bool)(tq:List Tok)(nq:List Nd)(bq:Bool):Prop:=
 nq.length+tq.length<=nd.length+ts.length/\tq.length<=ts.length/\(Bd nd bad->Bd nq bq)∧
  ((gQ part c mk ts=none/\Bd nq bq)∨∃ t,gQ part c mk ts=wH part c mk tq.length t tq/\nq=nd++t.enc nd.length/\bq=bad)
theorem cl_start {part:List Tok->Option (Tr×List Tok)}{c:Tok}{mk:Tr->Tr->Tr}{ts ts':List Tok}{nd nd':List Nd}{bad bad':Bool}(h:GotL part ts nd bad ts' nd' bad'):ChL part c mk ts nd bad ts' nd' bad':=by
 refine ⟨h.1,h.2.1,h.2.2.1, ?_⟩
 cases hp:part ts with
 |none=>exact .inl ⟨by unfold gQ;rw [hp],h.nay hp⟩
 |some x=>
  obtain ⟨t,r⟩:=x
  obtain ⟨e1,e2,e3⟩:=h.yes hp
  exact .inr ⟨t,by unfold gQ;rw [hp,e1],e2,e3⟩
theorem cl_stop {part:List Tok->Option (Tr×List Tok)}{c:Tok}{mk:Tr->Tr->Tr}{ts tq:List Tok}{nd nq:List Nd}{bad bq:Bool}(h:ChL part c mk ts nd bad tq nq bq)(hc:kI c tq=false):GotL (gQ part c mk) ts nd bad tq nq bq:=by
 obtain ⟨h1,h2,h3,h4⟩:=h
 refine GotL.mk' h1 h2 h3 (λt r hp=> ?_) (λhp=> ?_)
 ·rcases h4 with ⟨q,_⟩|⟨u,q,e2,e3⟩
  ·rw [hp] at q;cases q
  ·rw [pLoop_stop _ _ _ _ _ _ (of_decide_eq_false hc)] at q
   rw [hp] at q
   simp only [Option.some.injEq,Prod.mk.injEq] at q
   obtain ⟨rfl,rfl⟩:=q
   exact ⟨rfl,e2,e3⟩
 ·rcases h4 with ⟨_,q⟩|⟨u,q,e2,e3⟩
  ·exact q
  ·rw [pLoop_stop _ _ _ _ _ _ (of_decide_eq_false hc),hp] at q;cases q
theorem cl_step {part:List Tok->Option (Tr×List Tok)}(hp:Eats part){op:Int}{c:Tok}{mk:Tr->Tr->Tr}(hmk:MkOf op mk){ts tq r ts2:List Tok}{nd nq nd2:List Nd}{bad bq bad2:Bool}(h:ChL part c mk ts nd bad tq nq bq)(htq:tq=c::r)(h2:GotL part r nq bq ts2 nd2 bad2):
  ChL part c mk ts nd bad ts2 (nd2++[⟨op,(nq.length:Int) -1,(nd2.length:Int) -1,0,[]⟩]) bad2:=by
 obtain ⟨h1,h3,h4,h5⟩:=h
 have g1:=h2.1
 have g2:=h2.2.1
 subst htq
 simp only [List.length_cons] at h1 h3
 refine ⟨by rw [List.length_append,List.length_singleton];omega,by omega,λq=>(h2.2.2.1 (h4 q)).add _, ?_⟩
 rcases h5 with ⟨e,hb⟩|⟨t,e,hn,hb⟩
 ·exact .inl ⟨e,(h2.2.2.1 hb).add _⟩
 ·rw [List.length_cons,wH,if_pos rfl] at e
  cases hq:part r with
  |none=>
   rw [hq] at e
   exact .inl ⟨e,(h2.nay hq).add _⟩
  |some y=>
   obtain ⟨u,r'⟩:=y
   rw [hq] at e
   obtain ⟨rfl,e2,e3⟩:=h2.yes hq
   have hl:=hp _ _ _ hq
   have hz1:=t.sz_pos
   have hz3:=u.sz_pos
   have hnl:nq.length=nd.length+t.sz:=by rw [hn,List.length_append,Tr.enc_len]
   have hnl2:nd2.length=nd.length+t.sz+u.sz:=by rw [e2,List.length_append,Tr.enc_len,hnl]
   refine .inr ⟨mk t u, ?_, ?_,e3.trans hb⟩
   ·rw [e];exact pLoop_fuel hp _ _ _ _ _ _ Om (Nat.le_refl _)
   ·rw [hmk.enc,hnl2,hnl,e2,hnl,hn]
    rw [show ((nd.length+t.sz:Nat):Int) -1=((nd.length+t.sz-1:Nat):Int) by omega,show ((nd.length+t.sz+u.sz:Nat):Int) -1=((nd.length+t.sz+u.sz-1:Nat):Int) by omega]
    simp
theorem gl_none {s:YL}{ts':List Tok}{nd':List Nd}{bad':Bool}(h:GotL (pOr (zY s).length) (zY s) [] false ts' nd' bad')(hb:bad'=true\/ts'≠[]\/fH nd'=false):gP s=none:=by
 unfold gP
 cases hp:pOr (zY s).length (zY s) with
 |none=>rfl
 |some x=>
  obtain ⟨t,r⟩:=x
  obtain ⟨e1,e2,e3⟩:=h.yes hp
  subst e1;subst e3
  rcases hb with hb|hb|hb
  ·cases hb
  ·cases ts' with
   |nil=>exact absurd rfl hb
   |cons c q=>rfl
  ·cases ts' with
   |cons c q=>rfl
   |nil=>
    have hok:=pOr_ok _ _ _ _ hp
    rw [e2,show ([]:List Nd)++t.enc ([]:List Nd).length=t.enc 0 from rfl,fit_may hok] at hb
    simp [hb]
theorem gl_some {s:YL}{nd':List Nd}(h:GotL (pOr (zY s).length) (zY s) [] false [] nd' false)(hm:fH nd'=true):∃ t:Tr,t.ok=true/\nd'=t.enc 0/\gP s=some t:=by
 unfold gP
 cases hp:pOr (zY s).length (zY s) with
 |none=>have:=bd_may (h.nay hp);rw [hm] at this;cases this
 |some x=>
  obtain ⟨t,r⟩:=x
  obtain ⟨e1,e2,_⟩:=h.yes hp
  subst e1
  have hok:=pOr_ok _ _ _ _ hp
  have e3:nd'=t.enc 0:=e2
  refine ⟨t,hok,e3, ?_⟩
  rw [e3,fit_may hok] at hm
  simp [hm]
theorem print_no {l:List Nd}(h:wW l=false):qS l=[]:=by
 unfold qS
 cases hm:fH l with
 |false=>rfl
 |true=>
  rcases tB hm with rfl|⟨t,hok,rfl,hs,_⟩
  ·rfl
  ·unfold wW at h
   rw [mD hok,Tr.enc_len,decide_eq_true hs] at h;cases h
theorem treeOk_yes {l:List Nd}(h:wW l=true):∃ t:Tr,t.ok=true/\l=t.enc 0/\t.sz<=15:=by
 unfold wW at h
 rw [Bool.and_eq_true,decide_eq_true_eq] at h
 obtain ⟨t,ht⟩:=Option.isSome_iff_exists.1 h.2
 obtain ⟨h1,h2⟩:=treeOf_iff.1 ht
 exact ⟨t,h1,h2,by rw [h2,Tr.enc_len] at h;exact h.1⟩
theorem print_long {t:Tr}(h:t.ok=true)(hl:96<t.text.length):qS (t.enc 0)=[]:=by
 unfold qS
 rw [mayM_enc h,decide_eq_false (p:=t.text.length<=96) Om];simp
theorem print_yes {t:Tr}(h:t.ok=true)(hs:t.sz<=15)(hl:¬ 96<t.text.length):qS (t.enc 0)=t.text:=printM_enc h (by unfold Tr.fit;rw [decide_eq_true hs,decide_eq_true Om];rfl)
theorem may_print {l:List Nd}(h:¬ l=[]):fH l= !decide (qS l=[]):=by
 unfold qS
 cases hm:fH l with
 |false=>simp
 |true=>
  rcases tB hm with rfl|⟨t,hok,rfl,_⟩
  ·exact absurd rfl h
  ·rw [mD hok];simp [text10_ne]
end
section
set_option linter.unnecessarySimpa false
theorem run_idx10 {P:Program}{ρ:Operand->Value}{o:Oper}{t e:TypeId}{x y:Operand}{n k:Nat}{vals:Array Value}(g:Nat->YL)(hk:k<n)(ho:o.op= .index t x y)(hx:ρ x= .agg vals)(hy:ρ y=YI (k:Int))
  (hu:P.underlying t=some (.array n e)) (hp:∀ i,i<n→∀ w,(part e vals i).run P w= .ok (.string (mkS (g i))) w) (hs:(P.info? e).map (·.size)=some 1) (w:World):(execOp ρ o).run P w= .ok (.value (.string (mkS (g k)))) w:=by
 cases he:P.info? e with
 |none=>rw [he] at hs;cases hs
 |some i=>
  rw [he] at hs
  have hs1:i.size=1:=Option.some.inj hs
  unfold execOp
  have h2:=hp k hk
  have hkn:¬ n<=k:=by omega
  simp [ho,hx,hy,Instr.index,Sem.run_bind,asIntOf,run_underlying hu,sizeOf,typeInfo,he,hs1,h2,hk,hkn]
structure MkAt (B:Nat)(W:World):Prop where
 lt:2<B
 held:∃ T,W.heap[(2:Nat)]?=some (.cells #[.string ⟨#[111,115]⟩,.string ⟨#[97,114,99,104]⟩,.string ⟨#[97,98,105]⟩] T)
def MkLib (W:World):Prop:=MkAt W.heap.size W
theorem MkAt.on {B B':Nat}{W w:World}(h:MkAt B W)(hb:Below B W w)(hB:B<=B'):MkAt B' w:=
 ⟨Nat.lt_of_lt_of_le h.lt hB,by obtain ⟨T,q⟩:=h.held;exact ⟨T,by rw [hb.block _ h.lt];exact q⟩⟩
theorem MkLib.on {W w:World}(h:MkLib W)(hb:YB W w):MkLib w:=MkAt.on h hb hb.size
theorem MkAt.all {B:Nat}{W:World}(h:MkAt B W):(loadVar 142 ⟨2,0,none⟩).run YP W= .ok (.agg #[.string ⟨#[111,115]⟩,.string ⟨#[97,114,99,104]⟩,.string ⟨#[97,98,105]⟩]) W:=by
 obtain ⟨T,q⟩:=h.held
 exact yU Kr q
theorem MkAt.one {B:Nat}{W:World}(h:MkAt B W)(k:Nat)(hk:k<3):(loadVar 9 ⟨2,0+k*1,none⟩).run YP W= .ok (.string (mkS (x3 k))) W:=by
 obtain ⟨T,q⟩:=h.held
 exact yU (rd_key k hk) q
theorem key_part:∀ (i:Nat),i<3→∀ w,(part 9 #[.string ⟨#[111,115]⟩,.string ⟨#[97,114,99,104]⟩,.string ⟨#[97,98,105]⟩] i).run YP w= .ok (.string (mkS (x3 i))) w
 |0,_,w=>by kernel_rfl
 |1,_,w=>by kernel_rfl
 |2,_,w=>by kernel_rfl
theorem word10_any (s:YL)(W:World)(hs:s.length<=1048576):YC 117 #[.string (mkS s)] W (YR (.bool (wdL s)) W):=
 ret_b (wd_mk s) (word_any (mkS s) W (by rw [zQ];unfold maxLen;omega))
theorem key_at {c:Tok}{k:Nat}(hk:k<3)(h:∀ i,i<k->x3 i≠c)(e:x3 k=c):dA c=(k:Int):=by
 unfold dA keyN
 match k,hk with
 |0,_=>rw [if_pos e.symm]
 |1,_=>rw [if_neg (λq=>h 0 Om q.symm),if_pos e.symm]
 |2,_=>rw [if_neg (λq=>h 0 Om q.symm),if_neg (λq=>h 1 Om q.symm),if_pos e.symm]
theorem key_not {c:Tok}(h:∀ i,i<3->x3 i≠c):dA c= -1:=by
 unfold dA keyN
 rw [if_neg (λq=>h 0 Om q.symm),if_neg (λq=>h 1 Om q.symm),if_neg (λq=>h 2 Om q.symm)]
theorem keyOf_any (c:YL)(B:Nat)(W:World)(hK:MkAt B W)(hB:B<=W.heap.size):YC 281 #[.string (mkS c)] W λx w'=>x= .returned (YI (dA c))/\YB W w':=by
 have hK:MkAt W.heap.size W:=⟨Nat.lt_of_lt_of_le hK.lt hB,hK.held⟩
 refine Z2 (n:=15) Tryz.func281 rfl (ZO (Zv (YI 0) (ZN (kA (ZO (Zo (.agg #[.string ⟨#[111,115]⟩,.string ⟨#[97,114,99,104]⟩,.string ⟨#[97,98,105]⟩]) (a:=⟨2,0,none⟩) (λw hO=>(hK.on hO.below hO.size).all) (Zv (YI 0) (nW ?_))))))))
 refine vV (mJ (ok_loop (λL f m=>∃ (k:Nat) (j:Nat->Value),(k<=3∧∀ i,i<k->x3 i≠c)/\L=[]/\f=wV j [(0,.string (mkS c)),(5,.agg #[.string ⟨#[111,115]⟩,.string ⟨#[97,114,99,104]⟩,.string ⟨#[97,98,105]⟩]),(6,YI (k:Int))]/\m=3-k) (3-0) ⟨0,_,⟨by omega,λi hi=>absurd hi (Nat.not_lt_zero _)⟩,rfl,ZU,rfl⟩ ?_))
 rintro L f m ⟨k,j,hrel,rfl,rfl,rfl⟩
 have hk6:=hrel.1
 refine kA (kO ?_)
 by_cases h1:(k:Int)<3
 ·have hk3:k<3:=by omega
  refine Zg h1 (ZN (kA (Zt (ZB (kA (mJ (ZO (Zv (YI (k:Int)) ?_))))))))
  refine bU (.string (mkS (x3 k))) Kr (run_idx10 x3 hk3 rfl Kr Kr Tryz.underlying142 key_part Kr) (Zv (YI (k:Int)) (Zv (.string (mkS (x3 k))) (ZR (Zv (.string (mkS (x3 k))) (Zv (.string (mkS c)) ?_)))))
  by_cases h2:((x3 k):YL)=c
  ·refine bU Z4 Kr (gN (a:=(x3 k)) (b:=c) rfl Kr Kr (decide_eq_true (h2))) (ZY (ZO (Zv (YI (k:Int)) (Zv (YI (k:Int)) (ZN (gG (qW ?_)))))))
   exact yH (dZ (qW (yH (ZF (YI (k:Int)) Tryz.results281 (λw hO=>⟨by rw [key_at hk3 hrel.2 h2],hO.below⟩)))))
  exact bU Z5 Kr (gN (a:=(x3 k)) (b:=c) rfl Kr Kr (decide_eq_false (h2))) (ZX (ok_skip (fin_block (vV (kO (Zu (k:= .i64) (((k+1:Nat):Int)) (IntWalk.i64_in _ Om) (Zv (YI ((k+1:Nat):Int)) (nW (fin_round (m':=3-(k+1)) Om ⟨k+1,_,⟨by omega,λi hi=>by rcases Nat.lt_succ_iff_lt_or_eq.1 hi with q|rfl;exact hrel.2 i q;exact h2⟩,rfl,ZU,rfl⟩)))))))))
 refine Zh h1 (ZN (kA (Zf (ok_exit (wF (d3 (d4 (vV (kA (kO ?_))))))))))
 exact Zv (YI (-1)) (ZN (gG (ZF (YI (-1)) Tryz.results281 (λw hO=>⟨by rw [key_not λi hi=>hrel.2 i Om],hO.below⟩))))
end
section
set_option linter.unnecessarySimpa false
def vL (zs:List Int):Array Value:=(zs.flatMap zC).toArray
theorem z_flat (zs:List Int):zs.flatMap zC=zs.map λz=>Value.int .i64 z:=by
 induction zs with
 |nil=>rfl
 |cons a l ih=>rw [List.flatMap_cons,ih];rfl
theorem intA_size (zs:List Int):(vL zs).size=zs.length:=by unfold vL;rw [z_flat];simp
theorem intA_set {zs:List Int}{k:Nat}(hk:k<zs.length)(z:Int):zW (vL zs) k (Value.int .i64 z).cells=vL (zs.set k z):=by
 unfold zW vL
 rw [z_flat,z_flat,List.map_set,List.set_eq_take_append_cons_drop,if_pos (by rw [List.length_map];exact hk)]
 simp [Value.cells]
theorem intA_made (n:Nat):madeCells #[YI 0] n=vL (List.replicate n 0):=by
 apply Array.toList_inj.1
 rw [toList_madeCells_one]
 unfold vL
 rw [z_flat];simp
theorem rd_int {zs:List Int}{k:Nat}{z:Int}(h:zs[k]?=some z):yZ YP 3 (vL zs) k=some (YI z):=by
 show (vL zs)[k]?=_
 unfold vL
 rw [z_flat];simp [h]
theorem int_made:∃ i,Tryz.prog.info? 3=some i/\i.zero=some (YI 0)/\i.size=1/\i.bytes=8:=by
 have h:(Tryz.prog.info? 3).map (λi=>(i.zero,i.size,i.bytes))=some (some (YI 0),1,8):=by kernel_rfl
 cases hi:Tryz.prog.info? 3 with
 |none=>rw [hi] at h;cases h
 |some i=>
  rw [hi] at h
  simp only [Option.map_some,Option.some.injEq,Prod.mk.injEq] at h
  exact ⟨i,rfl,h.1,h.2.1,h.2.2⟩
def jO (F:List Nat)(n:Nat):List Int:=F.map (λ(k:Nat)=>(k:Int))++List.replicate (n-F.length) 0
theorem fE {F:List Nat}{n:Nat}(h:F.length<=n):(jO F n).length=n:=by unfold jO;simp;omega
theorem padF_set {F:List Nat}{n:Nat}(h:F.length<n)(k:Nat):(jO F n).set F.length (k:Int)=jO (F++[k]) n:=by
 unfold jO
 obtain ⟨m,hm⟩:∃ m,n-F.length=m+1:=⟨n-F.length-1,by omega⟩
 rw [hm,List.length_append,List.length_singleton,show n-(F.length+1)=m by omega,List.set_append_right _ _ (by simp)]
 simp [List.replicate_succ]
theorem n6 {F:List Nat}{n j k:Nat}(h:F[j]?=some k):(jO F n)[j]?=some (k:Int):=by
 unfold jO
 rw [List.getElem?_append_left (by rw [List.length_map];exact (List.getElem?_eq_some_iff.1 h).1),List.getElem?_map,h];rfl
theorem fs_lt {st:List (Nat×Tr)}{i i0:Nat}{F:List Nat}(h:FS st i F)(hi:¬ i=0)(hF:F[i-1]?=some i0):i0<i:=by
 obtain ⟨p,r,rfl⟩:=h.cons hi
 obtain ⟨k,F0,h1,h2,h3,h4,h5⟩:=h.top
 rw [h5] at hF
 have:=Option.some.inj hF
 have:=p.2.sz_pos
 omega
theorem n8 {l:List Nd}(h:(jJ l).isSome=false):wW l=false:=by unfold wW;rw [h];simp
theorem tree10_any (A:Option Addr)(cap0:Nat)(l:List Nd)(W:World)(hv:Reads nC W W.heap.size A l)(hne:l≠[])(hn0:l.length<=1000)(ht:∀ n∈l,n.text.length<=1048576):YC 196 #[.slice A l.length cap0] W (YR (.bool (wW l)) W):=by
 have hlp:0<l.length:=List.length_pos_iff.2 hne
 refine zD Tryz.func196 ?_
 by_cases h1:(15:Int)<(l.length:Int)
 ·refine zB 8 [] ((15:Int)<(l.length:Int)) (λ_=> ?_) (λhq=>absurd (h1) hq)
  exact z7 [] Z5 (λw hO=>⟨by rw [show wW l=false from by unfold wW;rw [decide_eq_false Om];rfl],hO.below⟩)
 have hl15:l.length<=15:=by omega
 refine zB 8 [] ((15:Int)<(l.length:Int)) (λhq=>absurd hq (h1)) (λ_=>x_make 11 [] l.length 1 8 (YI 0) (vL (jO [] l.length)) (by rw [Nat.mul_one];exact intA_made _) Om λb=>(zM (α:=Nat×(List (Nat×Tr))×(List Nat)) (λ(i,st,F)=>[(0,.slice A l.length cap0),(3,.slice (some ⟨b,0,none⟩) l.length l.length),(12,.slice A l.length cap0),(13,YI (l.length:Int)),(14,YI (i:Int))]) (λ(i,st,F)=>[⟨b,vL (jO F l.length),3⟩]) (λ(i,st,F) m=>(i<=l.length/\vS 0 [] l=vS i st (l.drop i)/\FS st i F)/\m=l.length-i) (0,[],[]) (l.length-0) [] ⟨⟨Nat.zero_le _,rfl,rfl,rfl⟩,rfl⟩ ?_))
 rintro ⟨i,st,F⟩ m g kk ⟨hrel,hmm⟩ nx hkk
 subst hkk
 try simp only at hrel hmm
 obtain ⟨hi6,hrun,hfs⟩:=hrel;have hFl:=hfs.len
 by_cases h2:(i:Int)<(l.length:Int)
 ·have hil:i<l.length:=by omega
  obtain ⟨bp,off,hA,hlt,hcell⟩:=hv Om
  obtain ⟨n,hn⟩:∃ n,l[i]=n:=⟨_,rfl⟩
  have hnt:=hn▸ht l[i] (List.getElem_mem hil)
  have hdr:l.drop i=n::l.drop (i+1):=by rw [←hn];exact List.drop_eq_getElem_cons hil
  have hset:∀ k:Nat,(jO F l.length).set i (k:Int)=jO (F++[k]) l.length:=λk=>by have q:=padF_set (F:=F) (n:=l.length) Om k;rw [hFl] at q;exact q
  refine zB 15 [] ((i:Int)<(l.length:Int)) (λ_=> ?_) (λhq=>absurd (h2) hq)
  refine zI 17 [] hA l.length cap0 i 5 (by first|omega|(simp;omega)) (zH 18 [] 261 bp (off+i*5) (ndV n) (λw hO=>Reads.load qU (hv.on hO.below hO.size) hA i 0 hil Om _ (by rw [hn];kernel_rfl)) (zJ [] λb1=> ?_))
  by_cases h3:(n.op:Int)=1
  ·refine zB 22 [0,0] ((n.op:Int)=1) (λ_=> ?_) (λhq=>absurd (h3) hq)
   by_cases h4:(n.key:Int)<0
   ·refine zB 25 [0] ((n.key:Int)<0) (λ_=> ?_) (λhq=>absurd (h4) hq)
    exact z7 [] Z5 (λw hO=>⟨by rw [n8 (jC (by rw [hrun,hdr,kM (ck_bad h3 (by unfold xK;simp [h3,h4];try omega))]))],hO.below⟩)
   refine zB 25 [0] ((n.key:Int)<0) (λhq=>absurd hq (h4)) (λ_=> ?_)
   by_cases h5:(3:Int)<=n.key
   ·refine zB 29 [0] ((3:Int)<=n.key) (λ_=> ?_) (λhq=>absurd (h5) hq)
    exact z7 [] Z5 (λw hO=>⟨by rw [n8 (jC (by rw [hrun,hdr,kM (ck_bad h3 (by unfold xK;simp [h3,h4,h5];try omega))]))],hO.below⟩)
   refine zB 29 [0] ((3:Int)<=n.key) (λhq=>absurd hq (h5)) (λ_=> ?_)
   by_cases h6:(n.a:Int)=0
   ·refine vP 34 [0] ((n.a:Int)=0) (λ_=> ?_) (λhq=>absurd (h6) hq)
    by_cases h7:(n.b:Int)=0
    ·refine vP 39 [0] ((n.b:Int)=0) (λ_=> ?_) (λhq=>absurd (h7) hq)
     refine z8 (k:=117) (args:= #[.string (mkS n.text)]) (v:= .bool (wdL n.text)) [0] (λw _=>word10_any n.text w hnt) ?_
     cases h8:wdL n.text with
     |true=>
      have hlf:xK n=true:=by unfold xK;simp [h1,h2,h3,h4,h5,h6,h7,h8];omega
      obtain ⟨s9,hstp,hfs9⟩:=ck_leaf hfs hlf
      refine jI 50 [] (A:=some ⟨b,0,none⟩) rfl l.length l.length (i:Int) 1 i (by omega) (x_sto 1 ⟨b,vL (jO F l.length),3⟩ i 1 (YI (i:Int)) [⟨b1,(ndV n).cells,261⟩,⟨b,vL (jO F l.length),3⟩] (by show _+1<=(vL _).size;rw [intA_size,fE (by omega)];omega) (x_i 108 [] (((i+1:Nat):Int)) (y8 [] [⟨b,vL (jO (F++[i]) l.length),3⟩] (λw hO=> ?_) ?_)))
      ·exact (hO.past 1 [⟨b,zW (vL (jO F l.length)) i (Value.int .i64 (i:Int)).cells,3⟩]).cast (by rw [←hset i,←intA_set (by rw [fE Om];omega)])
      exact nx (i+1,s9,(F++[i])) (l.length-(i+1)) [] Om ⟨⟨by omega,by rw [hrun,hdr,dJ hstp],hfs9⟩,rfl⟩ Kr Kr
     |false=>
      exact z7 [] Z5 (λw hO=>⟨by rw [n8 (jC (by rw [hrun,hdr,kM (ck_bad h3 (by unfold xK;simp [h3,h4,h5,h6,h7,h8];try omega))]))],hO.below⟩)
    exact vP 39 [0] ((n.b:Int)=0) (λhq=>absurd hq (h7)) (λ_=>z7 [] Z5 (λw hO=>⟨by rw [n8 (jC (by rw [hrun,hdr,kM (ck_bad h3 (by unfold xK;simp [h3,h4,h5,h6,h7];try omega))]))],hO.below⟩))
   exact vP 34 [0] ((n.a:Int)=0) (λhq=>absurd hq (h6)) (λ_=>z7 [] Z5 (λw hO=>⟨by rw [n8 (jC (by rw [hrun,hdr,kM (ck_bad h3 (by unfold xK;simp [h3,h4,h5,h6];try omega))]))],hO.below⟩))
  refine zB 22 [0,0] ((n.op:Int)=1) (λhq=>absurd hq (h3)) (λ_=> ?_)
  by_cases h9:(n.op:Int)=2
  ·refine zB 52 [] ((n.op:Int)=2) (λ_=> ?_) (λhq=>absurd (h9) hq)
   by_cases h10:(i:Int)=0
   ·have hi0:i=0:=by omega
    refine zB 54 [] ((i:Int)=0) (λ_=> ?_) (λhq=>absurd (h10) hq)
    exact z7 [] Z5 (λw hO=>⟨by rw [n8 (jC (by rw [hrun,hdr,kM (ck_not0 hfs h9 hi0)]))],hO.below⟩)
   have hi0:¬ i=0:=by omega
   obtain ⟨i0,hF0⟩:∃ i0,F[i-1]?=some i0:=⟨_,List.getElem?_eq_getElem Om⟩
   have hi0l:=fs_lt hfs hi0 hF0
   refine zB 54 [] ((i:Int)=0) (λhq=>absurd hq (h10)) (λ_=>x_i 60 [0,0] ((i:Int) -1) ?_)
   by_cases h11:n=(⟨n.op,(i:Int) -1,0,0,[]⟩:Nd)
   ·have hna:n.a=(i:Int) -1:=congrArg Nd.a h11
    obtain ⟨s9,hstp,hfs9⟩:=ck_not hfs h9 hi0 hF0 h11
    refine x_nea (p:=λu v:Nd=>u=v) 261 ndV p9 62 [] n (⟨n.op,(i:Int) -1,0,0,[]⟩:Nd) (λ_=> ?_) (λhq=>absurd h11 hq)
    refine jI 69 [0] (A:=some ⟨b,0,none⟩) rfl l.length l.length n.a 1 (i-1) (by omega) (jH 70 [] 1 (vL (jO F l.length)) ((i-1)) 3 (YI (i0:Int)) (rd_int (n6 hF0)) (jI 71 [] (A:=some ⟨b,0,none⟩) rfl l.length l.length (i:Int) 1 i (by omega) (x_sto 1 ⟨b,vL (jO F l.length),3⟩ i 1 (YI (i0:Int)) [⟨b1,(ndV n).cells,261⟩,⟨b,vL (jO F l.length),3⟩] (by show _+1<=(vL _).size;rw [intA_size,fE (by omega)];omega) (x_i 108 [] (((i+1:Nat):Int)) (y8 [] [⟨b,vL (jO (F++[i0]) l.length),3⟩] (λw hO=> ?_) ?_)))))
    ·exact (hO.past 1 [⟨b,zW (vL (jO F l.length)) i (Value.int .i64 (i0:Int)).cells,3⟩]).cast (by rw [←hset i0,←intA_set (by rw [fE Om];omega)])
    exact nx (i+1,s9,(F++[i0])) (l.length-(i+1)) [] Om ⟨⟨by omega,by rw [hrun,hdr,dJ hstp],hfs9⟩,rfl⟩ Kr Kr
   exact x_nea (p:=λu v:Nd=>u=v) 261 ndV p9 62 [] n (⟨n.op,(i:Int) -1,0,0,[]⟩:Nd) (λhq=>absurd hq h11) (λ_=>z7 [] Z5 (λw hO=>⟨by rw [n8 (jC (by rw [hrun,hdr,kM (ck_notno hfs h9 hi0 h11)]))],hO.below⟩))
  refine zB 52 [] ((n.op:Int)=2) (λhq=>absurd hq (h9)) (λ_=> ?_)
  by_cases h12:(n.op:Int)=3
  ·refine zB 73 [] ((n.op:Int)=3) (λ_=> ?_) (λhq=>absurd (h12) hq)
   by_cases h13:(i:Int)=0
   ·have hi0:i=0:=by omega
    refine zB 76 [] ((i:Int)=0) (λ_=> ?_) (λhq=>absurd (h13) hq)
    exact z7 [] Z5 (λw hO=>⟨by rw [n8 (jC (by rw [hrun,hdr,kM (ck_bin0 hfs (.inl h12) hi0)]))],hO.below⟩)
   have hi0:¬ i=0:=by omega
   obtain ⟨i0,hF0⟩:∃ i0,F[i-1]?=some i0:=⟨_,List.getElem?_eq_getElem Om⟩
   have hi0l:=fs_lt hfs hi0 hF0
   refine zB 76 [] ((i:Int)=0) (λhq=>absurd hq (h13)) (λ_=>x_i 80 [] ((i:Int) -1) (jI 81 [] (A:=some ⟨b,0,none⟩) rfl l.length l.length ((i:Int) -1) 1 (i-1) Om (jH 82 [] 1 (vL (jO F l.length)) ((i-1)) 3 (YI (i0:Int)) (rd_int (n6 hF0)) ?_)))
   by_cases h14:(i0:Int)=0
   ·have hz0:i0=0:=by omega
    refine zB 83 [] ((i0:Int)=0) (λ_=> ?_) (λhq=>absurd (h14) hq)
    exact z7 [] Z5 (λw hO=>⟨by rw [n8 (jC (by rw [hrun,hdr,kM (ck_bin1 hfs (.inl h12) hi0 hF0 hz0)]))],hO.below⟩)
   have hz0:¬ i0=0:=by omega
   refine zB 83 [] ((i0:Int)=0) (λhq=>absurd hq (h14)) (λ_=>x_i 91 [0,0] ((i:Int) -1) (jI 92 [] (A:=some ⟨b,0,none⟩) rfl l.length l.length ((i:Int) -1) 1 (i-1) Om (jH 93 [] 1 (vL (jO F l.length)) ((i-1)) 3 (YI (i0:Int)) (rd_int (n6 hF0)) (x_i 94 [] ((i0:Int) -1) (x_i 96 [] ((i:Int) -1) ?_)))))
   by_cases h15:n=(⟨n.op,(i0:Int) -1,(i:Int) -1,0,[]⟩:Nd)
   ·have hna:n.a=(i0:Int) -1:=congrArg Nd.a h15
    obtain ⟨s9,j9,hstp,hj9,hfs9⟩:=ck_bin hfs (.inl h12) hi0 hF0 hz0 h15
    refine x_nea (p:=λu v:Nd=>u=v) 261 ndV p9 98 [] n (⟨n.op,(i0:Int) -1,(i:Int) -1,0,[]⟩:Nd) (λ_=> ?_) (λhq=>absurd h15 hq)
    refine jI 105 [0] (A:=some ⟨b,0,none⟩) rfl l.length l.length n.a 1 (i0-1) (by omega) (jH 106 [] 1 (vL (jO F l.length)) ((i0-1)) 3 (YI (j9:Int)) (rd_int (n6 hj9)) (jI 107 [] (A:=some ⟨b,0,none⟩) rfl l.length l.length (i:Int) 1 i (by omega) (x_sto 1 ⟨b,vL (jO F l.length),3⟩ i 1 (YI (j9:Int)) [⟨b1,(ndV n).cells,261⟩,⟨b,vL (jO F l.length),3⟩] (by show _+1<=(vL _).size;rw [intA_size,fE (by omega)];omega) (x_i 108 [] (((i+1:Nat):Int)) (y8 [] [⟨b,vL (jO (F++[j9]) l.length),3⟩] (λw hO=> ?_) ?_)))))
    ·exact (hO.past 1 [⟨b,zW (vL (jO F l.length)) i (Value.int .i64 (j9:Int)).cells,3⟩]).cast (by rw [←hset j9,←intA_set (by rw [fE Om];omega)])
    exact nx (i+1,s9,(F++[j9])) (l.length-(i+1)) [] Om ⟨⟨by omega,by rw [hrun,hdr,dJ hstp],hfs9⟩,rfl⟩ Kr Kr
   exact x_nea (p:=λu v:Nd=>u=v) 261 ndV p9 98 [] n (⟨n.op,(i0:Int) -1,(i:Int) -1,0,[]⟩:Nd) (λhq=>absurd hq h15) (λ_=>z7 [] Z5 (λw hO=>⟨by rw [n8 (jC (by rw [hrun,hdr,kM (ck_binno hfs (.inl h12) hi0 hF0 hz0 h15)]))],hO.below⟩))
  refine zB 73 [] ((n.op:Int)=3) (λhq=>absurd hq (h12)) (λ_=> ?_)
  by_cases h16:(n.op:Int)=4
  ·refine zB 74 [] ((n.op:Int)=4) (λ_=> ?_) (λhq=>absurd (h16) hq)
   by_cases h17:(i:Int)=0
   ·have hi0:i=0:=by omega
    refine zB 76 [] ((i:Int)=0) (λ_=> ?_) (λhq=>absurd (h17) hq)
    exact z7 [] Z5 (λw hO=>⟨by rw [n8 (jC (by rw [hrun,hdr,kM (ck_bin0 hfs (.inr h16) hi0)]))],hO.below⟩)
   have hi0:¬ i=0:=by omega
   obtain ⟨i0,hF0⟩:∃ i0,F[i-1]?=some i0:=⟨_,List.getElem?_eq_getElem Om⟩
   have hi0l:=fs_lt hfs hi0 hF0
   refine zB 76 [] ((i:Int)=0) (λhq=>absurd hq (h17)) (λ_=>x_i 80 [] ((i:Int) -1) (jI 81 [] (A:=some ⟨b,0,none⟩) rfl l.length l.length ((i:Int) -1) 1 (i-1) Om (jH 82 [] 1 (vL (jO F l.length)) ((i-1)) 3 (YI (i0:Int)) (rd_int (n6 hF0)) ?_)))
   by_cases h18:(i0:Int)=0
   ·have hz0:i0=0:=by omega
    refine zB 83 [] ((i0:Int)=0) (λ_=> ?_) (λhq=>absurd (h18) hq)
    exact z7 [] Z5 (λw hO=>⟨by rw [n8 (jC (by rw [hrun,hdr,kM (ck_bin1 hfs (.inr h16) hi0 hF0 hz0)]))],hO.below⟩)
   have hz0:¬ i0=0:=by omega
   refine zB 83 [] ((i0:Int)=0) (λhq=>absurd hq (h18)) (λ_=>x_i 91 [0,0] ((i:Int) -1) (jI 92 [] (A:=some ⟨b,0,none⟩) rfl l.length l.length ((i:Int) -1) 1 (i-1) Om (jH 93 [] 1 (vL (jO F l.length)) ((i-1)) 3 (YI (i0:Int)) (rd_int (n6 hF0)) (x_i 94 [] ((i0:Int) -1) (x_i 96 [] ((i:Int) -1) ?_)))))
   by_cases h19:n=(⟨n.op,(i0:Int) -1,(i:Int) -1,0,[]⟩:Nd)
   ·have hna:n.a=(i0:Int) -1:=congrArg Nd.a h19
    obtain ⟨s9,j9,hstp,hj9,hfs9⟩:=ck_bin hfs (.inr h16) hi0 hF0 hz0 h19
    refine x_nea (p:=λu v:Nd=>u=v) 261 ndV p9 98 [] n (⟨n.op,(i0:Int) -1,(i:Int) -1,0,[]⟩:Nd) (λ_=> ?_) (λhq=>absurd h19 hq)
    refine jI 105 [0] (A:=some ⟨b,0,none⟩) rfl l.length l.length n.a 1 (i0-1) (by omega) (jH 106 [] 1 (vL (jO F l.length)) ((i0-1)) 3 (YI (j9:Int)) (rd_int (n6 hj9)) (jI 107 [] (A:=some ⟨b,0,none⟩) rfl l.length l.length (i:Int) 1 i (by omega) (x_sto 1 ⟨b,vL (jO F l.length),3⟩ i 1 (YI (j9:Int)) [⟨b1,(ndV n).cells,261⟩,⟨b,vL (jO F l.length),3⟩] (by show _+1<=(vL _).size;rw [intA_size,fE (by omega)];omega) (x_i 108 [] (((i+1:Nat):Int)) (y8 [] [⟨b,vL (jO (F++[j9]) l.length),3⟩] (λw hO=> ?_) ?_)))))
    ·exact (hO.past 1 [⟨b,zW (vL (jO F l.length)) i (Value.int .i64 (j9:Int)).cells,3⟩]).cast (by rw [←hset j9,←intA_set (by rw [fE Om];omega)])
    exact nx (i+1,s9,(F++[j9])) (l.length-(i+1)) [] Om ⟨⟨by omega,by rw [hrun,hdr,dJ hstp],hfs9⟩,rfl⟩ Kr Kr
   exact x_nea (p:=λu v:Nd=>u=v) 261 ndV p9 98 [] n (⟨n.op,(i0:Int) -1,(i:Int) -1,0,[]⟩:Nd) (λhq=>absurd hq h19) (λ_=>z7 [] Z5 (λw hO=>⟨by rw [n8 (jC (by rw [hrun,hdr,kM (ck_binno hfs (.inr h16) hi0 hF0 hz0 h19)]))],hO.below⟩))
  exact zB 74 [] ((n.op:Int)=4) (λhq=>absurd hq (h16)) (λ_=>z7 [] Z5 (λw hO=>⟨by rw [n8 (jC (by rw [hrun,hdr,kM (ck_else h3 h9 h12 h16)]))],hO.below⟩))
 have hil:i=l.length:=by omega
 skip;rw [List.drop_of_length_le Om,hil] at hrun
 skip;rw [hil] at hfs
 obtain ⟨i0,hF0⟩:∃ i0,F[l.length-1]?=some i0:=⟨_,List.getElem?_eq_getElem Om⟩
 have hend:=ck_end hfs hrun hne hF0
 refine zB 15 [] ((i:Int)<(l.length:Int)) (λhq=>absurd hq (h2)) (λ_=>x_i 112 [] ((l.length:Int) -1) (jI 113 [] (A:=some ⟨b,0,none⟩) rfl l.length l.length ((l.length:Int) -1) 1 (l.length-1) Om (jH 114 [] 0 (vL (jO F l.length)) ((l.length-1)) 3 (YI (i0:Int)) (rd_int (n6 hF0)) ?_)))
 by_cases h20:(i0:Int)=0
 ·have hz0:i0=0:=by omega
  refine zB 115 [] ((i0:Int)=0) (λ_=> ?_) (λhq=>absurd (h20) hq)
  exact z7 [] Z4 (λw hO=>⟨by rw [show wW l=true from by unfold wW;rw [hend,decide_eq_true hl15];simp;omega],hO.below⟩)
 have hz0:¬ i0=0:=by omega
 exact zB 115 [] ((i0:Int)=0) (λhq=>absurd hq (h20)) (λ_=>z7 [] Z5 (λw hO=>⟨by rw [show wW l=false from by unfold wW;rw [hend,decide_eq_true hl15];simp;omega],hO.below⟩))
end
section
set_option linter.unnecessarySimpa false
def Nb (b:Nat)(nd:List Nd)(ob:List Blk):Prop:=∃ C cc g,ob=⟨b, #[.slice C nd.length cc],231⟩::g/\SlN (.slice C nd.length cc) nd g
def Rb (b:Nat)(A:Option Addr)(m cap:Nat)(bad:Bool)(nd:List Nd)(ob:List Blk):Prop:=∃ C cc g,ob=⟨b, #[.slice C nd.length cc,.slice A m cap,.bool bad],233⟩::g/\SlN (.slice C nd.length cc) nd g
theorem mO {b n cc:Nat}{C:Option Addr}{cs:Array Value}{T:TypeId}(W:World)(hb:W.heap[b]?=some (.cells cs T))(hc:yZ YP 210 cs 0=some (.slice C n cc))(hn:n<=1048576):YC 253 #[.pointer (some ⟨b,0,none⟩)] W (YR (YI ((n:Int) -1)) W):=by
 refine Z2 (n:=9) Tryz.func253 rfl (ZO (Zv (YI 0) (ZR (Zv (Zp b 0) (Zv (Zp b 0) (Zv (Zp b 0) (Zo (.slice C n cc) (a:=⟨b,0,none⟩) (λw hO=>yU hc ((hO.below.block b (Array.getElem?_eq_some_iff.1 hb).1).trans hb)) ?_)))))))
 exact Zv (YI (n:Int)) (Zu (k:= .i64) (((n:Int):Int) -1) (IntWalk.i64_in _ Om) (Zv (YI (((n:Int):Int) -1)) (ZN (gG (ZF (YI (((n:Int):Int) -1)) Tryz.results253 (λw hO=>⟨rfl,hO.below⟩))))))
theorem nis10_any {b:Nat}{nd:List Nd}{ob:List Blk}{W:World}(hb:Nb b nd ob)(hO:Own (ob.map Blk.b) W W ob)(hn9:nd.length<=1048575)(k:Int)(v:YL):YC 280 #[.pointer (some ⟨b,0,none⟩),YI k,.string (mkS v)] W λe w'=>∃ ob',e= .returned (.tuple #[])/\Nb b (nd++[(⟨1,0,0,k,v⟩:Nd)]) ob'/\Own (ob.map Blk.b) W w' ob':=by
 obtain ⟨C,cc,g,rfl,hsl⟩:=hb
 have hnl:(nd++[(⟨1,0,0,k,v⟩:Nd)]).length=nd.length+1:=by simp
 refine zN hO Tryz.func280 (gM [0] 1 261 #[YI 1,YI 0,YI 0,YI k,.string (mkS v)] λb1=>wM (m:=1) (cp:=1) [] [⟨b1, #[YI 1,YI 0,YI 0,YI k,.string (mkS v)],261⟩,⟨b, #[.slice C nd.length cc],231⟩] g [] 0 (⟨b1, #[YI 1,YI 0,YI 0,YI k,.string (mkS v)],261⟩::⟨b, #[.slice C nd.length cc],231⟩::g) (λw hO=>(hO.cast (by simp))) hsl Om λv' ob' h=> ?_)
 obtain ⟨B2,cb2,rfl⟩:=h.form
 refine kC [1] λw hO=>⟨⟨b, #[.slice B2 (nd++[(⟨1,0,0,k,v⟩:Nd)]).length cb2],231⟩::ob',rfl,⟨B2,cb2,ob',rfl,by rw [hnl];exact SlN.add h⟩, ?_⟩
 rw [hnl];exact (hO.past 1 (⟨b, #[.slice B2 (nd.length+1) cb2],231⟩::(ob'++[]))).cast (by simp)
theorem nnot10_any {b:Nat}{nd:List Nd}{ob:List Blk}{W:World}(hb:Nb b nd ob)(hO:Own (ob.map Blk.b) W W ob)(hn9:nd.length<=1048575):YC 268 #[.pointer (some ⟨b,0,none⟩)] W λe w'=>∃ ob',e= .returned (.tuple #[])/\Nb b (nd++[(⟨2,(nd.length:Int) -1,0,0,[]⟩:Nd)]) ob'/\Own (ob.map Blk.b) W w' ob':=by
 obtain ⟨C,cc,g,rfl,hsl⟩:=hb
 have hnl:(nd++[(⟨2,(nd.length:Int) -1,0,0,[]⟩:Nd)]).length=nd.length+1:=by simp
 have hlast:∀ w,Own ((⟨b, #[.slice C nd.length cc],231⟩::g).map Blk.b) W w [⟨b, #[.slice C nd.length cc],231⟩]->YC 253 #[.pointer (some ⟨b,0,none⟩)] w (YR (YI ((nd.length:Int) -1)) w):=λw hO=>mO (C:=C) (cc:=cc) w (hO.held ⟨b, #[.slice C nd.length cc],231⟩ (by simp)) Kr Om
 refine zN hO Tryz.func268 (qJ 10 [] [⟨b, #[.slice C nd.length cc],231⟩] (λw hO=>Own.nth 0 ⟨b, #[.slice C nd.length cc],231⟩ hO) (gD [0] 6 (z8 (v:=YI ((nd.length:Int) -1)) [] (λw hO=>hlast w (Own.nth 0 ⟨b, #[.slice C nd.length cc],231⟩ hO)) (gD [] 8 (fQ 1 261 #[YI 2,YI ((nd.length:Int) -1),YI 0,YI 0,.string (mkS [])] λb1=>gD [] 9 (pR (m:=1) (cp:=1) [⟨b1, #[YI 2,YI ((nd.length:Int) -1),YI 0,YI 0,.string (mkS [])],261⟩,⟨b, #[.slice C nd.length cc],231⟩] g [] 0 (⟨b1, #[YI 2,YI ((nd.length:Int) -1),YI 0,YI 0,.string (mkS [])],261⟩::⟨b, #[.slice C nd.length cc],231⟩::g) [⟨b, #[.slice C nd.length cc],231⟩] (λw hO=>(hO.cast (by simp))) (λo w hO=>hO.take (λy hy=>by rw [List.mem_singleton.1 hy];simp) (by simp)) hsl Om λv' ob' h=> ?_))))))
 obtain ⟨B2,cb2,rfl⟩:=h.form
 refine kC [1] λw hO=>⟨⟨b, #[.slice B2 (nd++[(⟨2,(nd.length:Int) -1,0,0,[]⟩:Nd)]).length cb2],231⟩::ob',rfl,⟨B2,cb2,ob',rfl,by rw [hnl];exact SlN.add h⟩, ?_⟩
 rw [hnl];exact (hO.past 1 (⟨b, #[.slice B2 (nd.length+1) cb2],231⟩::(ob'++[]))).cast (by simp)
theorem njoin10_any {b:Nat}{nd:List Nd}{ob:List Blk}{W:World}(hb:Nb b nd ob)(hO:Own (ob.map Blk.b) W W ob)(hn9:nd.length<=1048575)(op a:Int):YC 254 #[.pointer (some ⟨b,0,none⟩),YI op,YI a] W λe w'=>∃ ob',e= .returned (.tuple #[])/\Nb b (nd++[(⟨op,a,(nd.length:Int) -1,0,[]⟩:Nd)]) ob'/\Own (ob.map Blk.b) W w' ob':=by
 obtain ⟨C,cc,g,rfl,hsl⟩:=hb
 have hnl:(nd++[(⟨op,a,(nd.length:Int) -1,0,[]⟩:Nd)]).length=nd.length+1:=by simp
 have hlast:∀ w,Own ((⟨b, #[.slice C nd.length cc],231⟩::g).map Blk.b) W w [⟨b, #[.slice C nd.length cc],231⟩]->YC 253 #[.pointer (some ⟨b,0,none⟩)] w (YR (YI ((nd.length:Int) -1)) w):=λw hO=>mO (C:=C) (cc:=cc) w (hO.held ⟨b, #[.slice C nd.length cc],231⟩ (by simp)) Kr Om
 refine zN hO Tryz.func254 (qJ 12 [] [⟨b, #[.slice C nd.length cc],231⟩] (λw hO=>Own.nth 0 ⟨b, #[.slice C nd.length cc],231⟩ hO) (gD [0] 8 (z8 (v:=YI ((nd.length:Int) -1)) [] (λw hO=>hlast w (Own.nth 0 ⟨b, #[.slice C nd.length cc],231⟩ hO)) (gD [] 10 (fQ 1 261 #[YI op,YI a,YI ((nd.length:Int) -1),YI 0,.string (mkS [])] λb1=>gD [] 11 (pR (m:=1) (cp:=1) [⟨b1, #[YI op,YI a,YI ((nd.length:Int) -1),YI 0,.string (mkS [])],261⟩,⟨b, #[.slice C nd.length cc],231⟩] g [] 0 (⟨b1, #[YI op,YI a,YI ((nd.length:Int) -1),YI 0,.string (mkS [])],261⟩::⟨b, #[.slice C nd.length cc],231⟩::g) [⟨b, #[.slice C nd.length cc],231⟩] (λw hO=>(hO.cast (by simp))) (λo w hO=>hO.take (λy hy=>by rw [List.mem_singleton.1 hy];simp) (by simp)) hsl Om λv' ob' h=> ?_))))))
 obtain ⟨B2,cb2,rfl⟩:=h.form
 refine kC [1] λw hO=>⟨⟨b, #[.slice B2 (nd++[(⟨op,a,(nd.length:Int) -1,0,[]⟩:Nd)]).length cb2],231⟩::ob',rfl,⟨B2,cb2,ob',rfl,by rw [hnl];exact SlN.add h⟩, ?_⟩
 rw [hnl];exact (hO.past 1 (⟨b, #[.slice B2 (nd.length+1) cb2],231⟩::(ob'++[]))).cast (by simp)
theorem ris10_any {b m cap:Nat}{A:Option Addr}{bad:Bool}{nd:List Nd}{ob:List Blk}{W:World}(hb:Rb b A m cap bad nd ob)(hO:Own (ob.map Blk.b) W W ob)(hn9:nd.length<=1048575)(k:Int)(v:YL):YC 280 #[.pointer (some ⟨b,0,none⟩),YI k,.string (mkS v)] W λe w'=>∃ ob',e= .returned (.tuple #[])/\Rb b A m cap bad (nd++[(⟨1,0,0,k,v⟩:Nd)]) ob'/\Own (ob.map Blk.b) W w' ob':=by
 obtain ⟨C,cc,g,rfl,hsl⟩:=hb
 have hnl:(nd++[(⟨1,0,0,k,v⟩:Nd)]).length=nd.length+1:=by simp
 refine zN hO Tryz.func280 (gM [0] 1 261 #[YI 1,YI 0,YI 0,YI k,.string (mkS v)] λb1=>wM (m:=1) (cp:=1) [] [⟨b1, #[YI 1,YI 0,YI 0,YI k,.string (mkS v)],261⟩,⟨b, #[.slice C nd.length cc,.slice A m cap,.bool bad],233⟩] g [] 0 (⟨b1, #[YI 1,YI 0,YI 0,YI k,.string (mkS v)],261⟩::⟨b, #[.slice C nd.length cc,.slice A m cap,.bool bad],233⟩::g) (λw hO=>(hO.cast (by simp))) hsl Om λv' ob' h=> ?_)
 obtain ⟨B2,cb2,rfl⟩:=h.form
 refine kC [1] λw hO=>⟨⟨b, #[.slice B2 (nd++[(⟨1,0,0,k,v⟩:Nd)]).length cb2,.slice A m cap,.bool bad],233⟩::ob',rfl,⟨B2,cb2,ob',rfl,by rw [hnl];exact SlN.add h⟩, ?_⟩
 rw [hnl];exact (hO.past 1 (⟨b, #[.slice B2 (nd.length+1) cb2,.slice A m cap,.bool bad],233⟩::(ob'++[]))).cast (by simp)
theorem rnot10_any {b m cap:Nat}{A:Option Addr}{bad:Bool}{nd:List Nd}{ob:List Blk}{W:World}(hb:Rb b A m cap bad nd ob)(hO:Own (ob.map Blk.b) W W ob)(hn9:nd.length<=1048575):YC 268 #[.pointer (some ⟨b,0,none⟩)] W λe w'=>∃ ob',e= .returned (.tuple #[])/\Rb b A m cap bad (nd++[(⟨2,(nd.length:Int) -1,0,0,[]⟩:Nd)]) ob'/\Own (ob.map Blk.b) W w' ob':=by
 obtain ⟨C,cc,g,rfl,hsl⟩:=hb
 have hnl:(nd++[(⟨2,(nd.length:Int) -1,0,0,[]⟩:Nd)]).length=nd.length+1:=by simp
 have hlast:∀ w,Own ((⟨b, #[.slice C nd.length cc,.slice A m cap,.bool bad],233⟩::g).map Blk.b) W w [⟨b, #[.slice C nd.length cc,.slice A m cap,.bool bad],233⟩]->YC 253 #[.pointer (some ⟨b,0,none⟩)] w (YR (YI ((nd.length:Int) -1)) w):=λw hO=>mO (C:=C) (cc:=cc) w (hO.held ⟨b, #[.slice C nd.length cc,.slice A m cap,.bool bad],233⟩ (by simp)) Kr Om
 refine zN hO Tryz.func268 (qJ 10 [] [⟨b, #[.slice C nd.length cc,.slice A m cap,.bool bad],233⟩] (λw hO=>Own.nth 0 ⟨b, #[.slice C nd.length cc,.slice A m cap,.bool bad],233⟩ hO) (gD [0] 6 (z8 (v:=YI ((nd.length:Int) -1)) [] (λw hO=>hlast w (Own.nth 0 ⟨b, #[.slice C nd.length cc,.slice A m cap,.bool bad],233⟩ hO)) (gD [] 8 (fQ 1 261 #[YI 2,YI ((nd.length:Int) -1),YI 0,YI 0,.string (mkS [])] λb1=>gD [] 9 (pR (m:=1) (cp:=1) [⟨b1, #[YI 2,YI ((nd.length:Int) -1),YI 0,YI 0,.string (mkS [])],261⟩,⟨b, #[.slice C nd.length cc,.slice A m cap,.bool bad],233⟩] g [] 0 (⟨b1, #[YI 2,YI ((nd.length:Int) -1),YI 0,YI 0,.string (mkS [])],261⟩::⟨b, #[.slice C nd.length cc,.slice A m cap,.bool bad],233⟩::g) [⟨b, #[.slice C nd.length cc,.slice A m cap,.bool bad],233⟩] (λw hO=>(hO.cast (by simp))) (λo w hO=>hO.take (λy hy=>by rw [List.mem_singleton.1 hy];simp) (by simp)) hsl Om λv' ob' h=> ?_))))))
 obtain ⟨B2,cb2,rfl⟩:=h.form
 refine kC [1] λw hO=>⟨⟨b, #[.slice B2 (nd++[(⟨2,(nd.length:Int) -1,0,0,[]⟩:Nd)]).length cb2,.slice A m cap,.bool bad],233⟩::ob',rfl,⟨B2,cb2,ob',rfl,by rw [hnl];exact SlN.add h⟩, ?_⟩
 rw [hnl];exact (hO.past 1 (⟨b, #[.slice B2 (nd.length+1) cb2,.slice A m cap,.bool bad],233⟩::(ob'++[]))).cast (by simp)
theorem rjoin10_any {b m cap:Nat}{A:Option Addr}{bad:Bool}{nd:List Nd}{ob:List Blk}{W:World}(hb:Rb b A m cap bad nd ob)(hO:Own (ob.map Blk.b) W W ob)(hn9:nd.length<=1048575)(op a:Int):YC 254 #[.pointer (some ⟨b,0,none⟩),YI op,YI a] W λe w'=>∃ ob',e= .returned (.tuple #[])/\Rb b A m cap bad (nd++[(⟨op,a,(nd.length:Int) -1,0,[]⟩:Nd)]) ob'/\Own (ob.map Blk.b) W w' ob':=by
 obtain ⟨C,cc,g,rfl,hsl⟩:=hb
 have hnl:(nd++[(⟨op,a,(nd.length:Int) -1,0,[]⟩:Nd)]).length=nd.length+1:=by simp
 have hlast:∀ w,Own ((⟨b, #[.slice C nd.length cc,.slice A m cap,.bool bad],233⟩::g).map Blk.b) W w [⟨b, #[.slice C nd.length cc,.slice A m cap,.bool bad],233⟩]->YC 253 #[.pointer (some ⟨b,0,none⟩)] w (YR (YI ((nd.length:Int) -1)) w):=λw hO=>mO (C:=C) (cc:=cc) w (hO.held ⟨b, #[.slice C nd.length cc,.slice A m cap,.bool bad],233⟩ (by simp)) Kr Om
 refine zN hO Tryz.func254 (qJ 12 [] [⟨b, #[.slice C nd.length cc,.slice A m cap,.bool bad],233⟩] (λw hO=>Own.nth 0 ⟨b, #[.slice C nd.length cc,.slice A m cap,.bool bad],233⟩ hO) (gD [0] 8 (z8 (v:=YI ((nd.length:Int) -1)) [] (λw hO=>hlast w (Own.nth 0 ⟨b, #[.slice C nd.length cc,.slice A m cap,.bool bad],233⟩ hO)) (gD [] 10 (fQ 1 261 #[YI op,YI a,YI ((nd.length:Int) -1),YI 0,.string (mkS [])] λb1=>gD [] 11 (pR (m:=1) (cp:=1) [⟨b1, #[YI op,YI a,YI ((nd.length:Int) -1),YI 0,.string (mkS [])],261⟩,⟨b, #[.slice C nd.length cc,.slice A m cap,.bool bad],233⟩] g [] 0 (⟨b1, #[YI op,YI a,YI ((nd.length:Int) -1),YI 0,.string (mkS [])],261⟩::⟨b, #[.slice C nd.length cc,.slice A m cap,.bool bad],233⟩::g) [⟨b, #[.slice C nd.length cc,.slice A m cap,.bool bad],233⟩] (λw hO=>(hO.cast (by simp))) (λo w hO=>hO.take (λy hy=>by rw [List.mem_singleton.1 hy];simp) (by simp)) hsl Om λv' ob' h=> ?_))))))
 obtain ⟨B2,cb2,rfl⟩:=h.form
 refine kC [1] λw hO=>⟨⟨b, #[.slice B2 (nd++[(⟨op,a,(nd.length:Int) -1,0,[]⟩:Nd)]).length cb2,.slice A m cap,.bool bad],233⟩::ob',rfl,⟨B2,cb2,ob',rfl,by rw [hnl];exact SlN.add h⟩, ?_⟩
 rw [hnl];exact (hO.past 1 (⟨b, #[.slice B2 (nd.length+1) cb2,.slice A m cap,.bool bad],233⟩::(ob'++[]))).cast (by simp)
end
section
set_option linter.unnecessarySimpa false
theorem flat_len10 {α:Type}{g:α->List Value}{sz:Nat}(hg:∀ x,(g x).length=sz):∀ l:List α,(l.flatMap g).length=l.length*sz
 | []=>by simp
 |a::l=>by rw [List.flatMap_cons,List.length_append,flat_len10 hg l,hg,List.length_cons,Nat.succ_mul];omega
theorem Reads.from_ {α:Type}{g:α->List Value}{sz:Nat}(hg:∀ x,(g x).length=sz){w:World}{B b off c:Nat}{l:List α}(h:Reads g w B (some ⟨b,off,none⟩) l)(hc:l.length<=c)(k:Nat):Reads g w B (some ⟨b,off+(if c=k then 0 else k*sz),none⟩) (l.drop k):=λh0=>by
 rw [List.length_drop] at h0
 obtain ⟨b',off',e,hlt,hcell⟩:=h Om
 obtain ⟨rfl,rfl⟩:b=b'/\off=off':=by simp at e;exact e
 refine ⟨b,_,rfl,hlt,λj u hj=> ?_⟩
 rw [if_neg Om]
 have e2:l.flatMap g=(l.take k).flatMap g++(l.drop k).flatMap g:=by rw [←List.flatMap_append,List.take_append_drop]
 have hl:((l.take k).flatMap g).length=k*sz:=by rw [flat_len10 hg,List.length_take,Nat.min_eq_left Om]
 have:=hcell (k*sz+j) u (by rw [e2,List.getElem?_append_right Om,hl,Nat.add_sub_cancel_left];exact hj)
 rw [←Nat.add_assoc] at this;exact this
theorem Reads.back {α:Type}{g:α->List Value}{w w':World}{B:Nat}{A:Option Addr}{l:List α}(h:Reads g w' B A l)(hb:Below B w w'):Reads g w B A l:=λh0=>by
 obtain ⟨b,off,e,hlt,hc⟩:=h h0
 exact ⟨b,off,e,hlt,λk u hk=>(hb.cell (p:=⟨b,off+k,none⟩) hlt).symm.trans (hc k u hk)⟩
def Rdr (W:World)(B b:Nat)(ts:List Tok)(nd:List Nd)(bad:Bool)(ob:List Blk):Prop:=∃ A cap,Reads yY W B A ts/\ts.length<=cap/\Rb b A ts.length cap bad nd ob
structure LentL (B b:Nat)(ts:List Tok)(nd:List Nd)(bad:Bool)(ob:List Blk)(W:World):Prop where
 rd:Rdr W B b ts nd bad ob
 own:Own (ob.map Blk.b) W W ob
 ge:∀ x∈ob,B<=x.b
 le:B<=W.heap.size
 short:∀ x∈ts,x.length<=1048576
 texts:∀ n∈nd,n.text.length<=1048576
 small:nd.length+ts.length<=10000
 lib:MkAt B W
structure BackL (B b:Nat)(ts:List Tok)(nd:List Nd)(bad:Bool)(ob ob':List Blk)(W w':World):Prop where
 rd:Rdr W B b ts nd bad ob'
 own:Own (ob.map Blk.b) W w' ob'
 short:∀ x∈ts,x.length<=1048576
 texts:∀ n∈nd,n.text.length<=1048576
theorem Rdr.on {W w:World}{B b:Nat}{ts:List Tok}{nd:List Nd}{bad:Bool}{ob:List Blk}(h:Rdr W B b ts nd bad ob)(hb:Below B W w):Rdr w B b ts nd bad ob:=by
 obtain ⟨A,cap,h1,h2,h3⟩:=h
 exact ⟨A,cap,h1.on hb (Nat.le_refl _),h2,h3⟩
theorem Rdr.back {W w:World}{B b:Nat}{ts:List Tok}{nd:List Nd}{bad:Bool}{ob:List Blk}(h:Rdr w B b ts nd bad ob)(hb:Below B W w):Rdr W B b ts nd bad ob:=by
 obtain ⟨A,cap,h1,h2,h3⟩:=h
 exact ⟨A,cap,h1.back hb,h2,h3⟩
theorem LentL.at {B b:Nat}{ts ts':List Tok}{nd nd':List Nd}{bad bad':Bool}{ob ob' R:List Blk}{W w:World}(h:LentL B b ts nd bad ob W)(hR:Rdr W B b ts' nd' bad' ob')(hx:(∀ x∈ts',x.length<=1048576)∧∀ n∈nd',n.text.length<=1048576)(hs:nd'.length+ts'.length<=10000)(hO:Own (ob.map Blk.b) W w (ob'++R)):LentL B b ts' nd' bad' ob' w:=
 ⟨hR.on (hO.belowB (qC h.ge) h.le),Own.lent hO,λx hx=>hO.allB (qC h.ge) h.le x (List.mem_append_left _ hx),Nat.le_trans h.le hO.size,hx.1,hx.2,hs,h.lib.on (hO.belowB (qC h.ge) h.le) (Nat.le_refl _)⟩
theorem rlast10 {W w:World}{B b:Nat}{ts:List Tok}{nd:List Nd}{bad:Bool}{ob L:List Blk}{M:List Nat}{W0:World}(h:Rdr W B b ts nd bad ob)(hO:Own M W0 w L)(hs:∀ x∈ob,x∈L)(hn:nd.length<=1048576):YC 253 #[.pointer (some ⟨b,0,none⟩)] w (YR (YI ((nd.length:Int) -1)) w):=by
 obtain ⟨A,cap,h1,h2,C,cc,g,rfl,hsl⟩:=h
 exact mO (C:=C) (cc:=cc) w (hO.held _ (hs _ (List.mem_cons_self ..))) Kr hn
theorem texts_add {nd:List Nd}{n:Nd}(h:∀ x∈nd,x.text.length<=1048576)(hn:n.text.length<=1048576):∀ x∈nd++[n],x.text.length<=1048576:=λx hx=>by
 rcases List.mem_append.1 hx with q|q
 ·exact h x q
 ·rw [List.mem_singleton.1 q];exact hn
theorem skip_tail {x:Tok}{ts:List Tok}(h:∀ y∈ts,y.length<=1048576):∀ y∈wI x ts,y.length<=1048576:=λy hy=>by
 unfold wI at hy
 split at hy
 ·exact h y (List.mem_of_mem_tail hy)
 ·exact h y hy
theorem skip10_any {B b:Nat}{ts:List Tok}{nd:List Nd}{bad:Bool}{ob:List Blk}{W:World}(hL:LentL B b ts nd bad ob W)(x:Tok):YC 252 #[.pointer (some ⟨b,0,none⟩),.string (mkS x)] W λe w'=>∃ ob',e= .returned (.bool (kI x ts))/\BackL B b (wI x ts) nd bad ob ob' W w':=by
 have hM':=qC hL.ge
 have hBW:=hL.le
 have hsm:=hL.small
 have hO:=hL.own
 obtain ⟨A,cap,hw,hcap,C,cc,g,rfl,hsl⟩:=hL.rd
 have hno:=λ(hn:kI x ts=false/\wI x ts=ts) (w:World) (hO:Own ((⟨b, #[.slice C nd.length cc,.slice A ts.length cap,.bool bad],233⟩::g).map Blk.b) W w (⟨b, #[.slice C nd.length cc,.slice A ts.length cap,.bool bad],233⟩::g))=>show ∃ ob',Ending.returned (.bool false)= .returned (.bool (kI x ts))/\BackL B b (wI x ts) nd bad (⟨b, #[.slice C nd.length cc,.slice A ts.length cap,.bool bad],233⟩::g) ob' W w from ⟨_,by rw [hn.1],⟨by rw [hn.2];exact ⟨A,cap,hw,hcap,C,cc,g,rfl,hsl⟩,hO,skip_tail hL.short,hL.texts⟩⟩
 refine zN hO Tryz.func252 (zB 10 [0] ((ts.length:Int)=0) (λh1=>z7 [] Z5 λw hO=>hno (jA (by rw [List.eq_nil_of_length_eq_zero (by omega:ts.length=0)];simp)) w (hO.past 0 _)) (λh1=> ?_))
 obtain ⟨c,r,hts⟩:∃ c r,ts=c::r:=by cases ts with|nil=>exact absurd rfl h1|cons c r=>exact ⟨c,r,rfl⟩
 obtain ⟨bp,off,hA,hlt,hcell⟩:=hw Om
 have hws0:∀ h:0<ts.length,ts[0]=c:=by rw [hts];intro h;rfl
 have htl:ts.length=r.length+1:=by rw [hts];rfl
 have hld:∀ w,Own ((⟨b, #[.slice C nd.length cc,.slice A ts.length cap,.bool bad],233⟩::g).map Blk.b) W w []->(loadVar 9 ⟨bp,off+0*1,none⟩).run YP w= .ok (.string (mkS c)) w:=λw hO=>Reads.load zX (hw.on (hO.belowB hM' hBW) (Nat.le_refl _)) hA 0 0 Om Om _ (by rw [hws0];kernel_rfl)
 refine zI 16 [0] hA ts.length cap 0 1 Om (zH 17 [] 9 bp (off+0*1) (.string (mkS c)) (λw hO=>hld w hO.no) (gA 19 [] c x (λh2=> ?_) (λh2=>z7 [] Z5 λw hO=>hno (jA (by rw [hts];simp;exact h2)) w (hO.past 0 _))))
 have hnx:kI x ts=true/\wI x ts=r:=by rw [hts,h2];exact next_yes
 have q9:=Reads.from_ zX (hA▸hw) hcap 1
 rw [show ts.drop 1=r from by rw [hts];rfl] at q9
 exact x_sllo 26 [0] hA ts.length cap 1 1 Om Om (.slice (some ⟨bp,off+(if cap=1 then 0 else 1*1),none⟩) r.length (cap-1)) (by rw [htl];rfl) (z7 [0] Z4 λw hO=>⟨⟨b, #[.slice C nd.length cc,.slice (some ⟨bp,off+(if cap=1 then 0 else 1*1),none⟩) r.length (cap-1),.bool bad],233⟩::g,by rw [hnx.1],⟨by rw [hnx.2];exact ⟨_,cap-1,q9,by omega,C,cc,g,rfl,hsl⟩,hO.past 0 (⟨b, #[.slice C nd.length cc,.slice (some ⟨bp,off+(if cap=1 then 0 else 1*1),none⟩) r.length (cap-1),.bool bad],233⟩::g),skip_tail hL.short,hL.texts⟩⟩)
structure pP (f:FuncId)(n:Nat)(part:List Tok->Option (Tr×List Tok)):Prop where
 go:∀ {B b:Nat} {ts:List Tok} {nd:List Nd} {bad:Bool} {ob:List Blk} {W:World},LentL B b ts nd bad ob W->ts.length<=n→
  Calls YP f #[.pointer (some ⟨b,0,none⟩)] W λe w'=>∃ ts' nd' bad' ob',e= .returned (.tuple #[])/\BackL B b ts' nd' bad' ob ob' W w'/\GotL part ts nd bad ts' nd' bad'
theorem comparison10_any (n:Nat):pP 269 n vX:=by
 refine ⟨λ{B b ts nd bad ob W} hL hln=> ?_⟩
 have hM':=qC hL.ge
 have hBW:=hL.le
 have hsm:=hL.small
 have hO:=hL.own
 obtain ⟨A,cap,hw,hcap,C,cc,g,rfl,hsl⟩:=hL.rd
 refine zN hO Tryz.func269 (zB 10 [0] ((ts.length:Int)<3) (λh1=>x_ret0 [0] λw hO=>⟨ts,nd,true,⟨b, #[.slice C nd.length cc,.slice A ts.length cap,.bool true],233⟩::g,rfl,⟨⟨A,cap,hw,hcap,C,cc,g,rfl,hsl⟩,hO.past 0 _,hL.short,hL.texts⟩,gl_short Om⟩) (λh1=> ?_))
 obtain ⟨k,s,v,r,hts⟩:∃ k s v r,ts=k::s::v::r:=by match ts,h1 with|k::s::v::r,_=>exact ⟨k,s,v,r,rfl⟩| [],h=>simp at h| [a],h=>simp at h| [a,c],h=>simp at h
 obtain ⟨bp,off,hA,hlt,hcell⟩:=hw Om
 have hws0:∀ h:0<ts.length,ts[0]=k:=by rw [hts];intro h;rfl
 have hws1:∀ h:1<ts.length,ts[1]=s:=by rw [hts];intro h;rfl
 have hws2:∀ h:2<ts.length,ts[2]=v:=by rw [hts];intro h;rfl
 have htl:ts.length=r.length+3:=by rw [hts];rfl
 have hvs:v.length<=1048576:=hL.short v (by rw [hts];simp)
 have hrs:∀ x∈r,x.length<=1048576:=λx hx=>hL.short x (by rw [hts];simp [hx])
 have htx:∀ n∈(nd++[(⟨1,0,0,dA k,v⟩:Nd)]),n.text.length<=1048576:=texts_add hL.texts hvs
 have hld0:∀ w,Own ((⟨b, #[.slice C nd.length cc,.slice A ts.length cap,.bool bad],233⟩::g).map Blk.b) W w []->(loadVar 9 ⟨bp,off+0*1,none⟩).run YP w= .ok (.string (mkS k)) w:=λw hO=>Reads.load zX (hw.on (hO.belowB hM' hBW) (Nat.le_refl _)) hA 0 0 Om Om _ (by rw [hws0];kernel_rfl)
 have hld1:∀ w,Own ((⟨b, #[.slice C nd.length cc,.slice A ts.length cap,.bool bad],233⟩::g).map Blk.b) W w []->(loadVar 9 ⟨bp,off+1*1,none⟩).run YP w= .ok (.string (mkS s)) w:=λw hO=>Reads.load zX (hw.on (hO.belowB hM' hBW) (Nat.le_refl _)) hA 1 0 Om Om _ (by rw [hws1];kernel_rfl)
 have hld2:∀ w,Own ((⟨b, #[.slice C nd.length cc,.slice A ts.length cap,.bool bad],233⟩::g).map Blk.b) W w []->(loadVar 9 ⟨bp,off+2*1,none⟩).run YP w= .ok (.string (mkS v)) w:=λw hO=>Reads.load zX (hw.on (hO.belowB hM' hBW) (Nat.le_refl _)) hA 2 0 Om Om _ (by rw [hws2];kernel_rfl)
 have q9:=Reads.from_ zX (hA▸hw) hcap 3
 rw [show ts.drop 3=r from by rw [hts];rfl] at q9
 have hlib:=hL.lib
 refine zI 18 [0] hA ts.length cap 0 1 Om (zH 19 [] 9 bp (off+0*1) (.string (mkS k)) (λw hO=>hld0 w hO.no) (zI 24 [0] hA ts.length cap 1 1 Om (zH 25 [] 9 bp (off+1*1) (.string (mkS s)) (λw hO=>hld1 w hO.no) (zI 30 [0] hA ts.length cap 2 1 Om (zH 31 [] 9 bp (off+2*1) (.string (mkS v)) (λw hO=>hld2 w hO.no) (x_sllo 37 [0] hA ts.length cap 1 3 Om Om (.slice (some ⟨bp,off+(if cap=3 then 0 else 3*1),none⟩) r.length (cap-3)) (by rw [htl];rfl) ?_))))))
 refine x_drawLF (.s (.s (.s (.s (.s (.s .z)))))) 7 [0] [] (λw hO=>hO.no) (gD [] 4 (z8 (k:=281) (args:= #[.string (mkS k)]) (v:=YI (dA k)) [] (λw hO=>keyOf_any k B w (hlib.on (hO.belowB hM' hBW) (Nat.le_refl _)) (Nat.le_trans hBW hO.size)) (gD [] 6 (xh_callL (Rr:=λv' ob'=>v'= .tuple #[]/\Rb b (some ⟨bp,off+(if cap=3 then 0 else 3*1),none⟩) r.length (cap-3) bad (nd++[(⟨1,0,0,dA k,v⟩:Nd)]) ob') (⟨b, #[.slice C nd.length cc,.slice (some ⟨bp,off+(if cap=3 then 0 else 3*1),none⟩) r.length (cap-3),.bool bad],233⟩::g) [] (⟨b, #[.slice C nd.length cc,.slice (some ⟨bp,off+(if cap=3 then 0 else 3*1),none⟩) r.length (cap-3),.bool bad],233⟩::g) [] (λw hO=>hO) (λob' w hO=>hO.no) (λw hO=>(ris10_any ⟨C,cc,g,rfl,hsl⟩ (Own.lent (R:=[]) (hO.cast (by simp))) Om (dA k) v).mono λe w' ⟨ob',k1,k2,k3⟩=>⟨_,ob',k1,⟨rfl,k2⟩,k3⟩) ?_))))
 rintro v' ob' ⟨rfl,C2,cc2,g2,rfl,hsl2⟩
 refine x4 52 [] s [61] (λh2=>kC [] λw hO=>⟨r,_,bad,⟨b, #[.slice C2 (nd++[(⟨1,0,0,dA k,v⟩:Nd)]).length cc2,.slice (some ⟨bp,off+(if cap=3 then 0 else 3*1),none⟩) r.length (cap-3),.bool bad],233⟩::g2,rfl,⟨⟨(some ⟨bp,off+(if cap=3 then 0 else 3*1),none⟩),cap-3,q9,by omega,C2,cc2,g2,rfl,hsl2⟩,hO.past 0 _,hrs,htx⟩,by rw [hts];exact gl_eq h2⟩) (λh2=>x4 54 [] s [33,61] (λh3=> ?_) (λh3=>kC [0] λw hO=>⟨r,_,true,⟨b, #[.slice C2 (nd++[(⟨1,0,0,dA k,v⟩:Nd)]).length cc2,.slice (some ⟨bp,off+(if cap=3 then 0 else 3*1),none⟩) r.length (cap-3),.bool true],233⟩::g2,rfl,⟨⟨(some ⟨bp,off+(if cap=3 then 0 else 3*1),none⟩),cap-3,q9,by omega,C2,cc2,g2,rfl,hsl2⟩,hO.past 0 _,hrs,htx⟩,by rw [hts];exact gl_sign h2 h3⟩))
 refine yN (Rr:=λv' ob'=>v'= .tuple #[]/\Rb b (some ⟨bp,off+(if cap=3 then 0 else 3*1),none⟩) r.length (cap-3) bad ((nd++[(⟨1,0,0,dA k,v⟩:Nd)])++[(⟨2,((nd++[(⟨1,0,0,dA k,v⟩:Nd)]).length:Int) -1,0,0,[]⟩:Nd)]) ob') [] (⟨b, #[.slice C2 (nd++[(⟨1,0,0,dA k,v⟩:Nd)]).length cc2,.slice (some ⟨bp,off+(if cap=3 then 0 else 3*1),none⟩) r.length (cap-3),.bool bad],233⟩::g2) [] (⟨b, #[.slice C2 (nd++[(⟨1,0,0,dA k,v⟩:Nd)]).length cc2,.slice (some ⟨bp,off+(if cap=3 then 0 else 3*1),none⟩) r.length (cap-3),.bool bad],233⟩::g2) (λw hO=>hO) (λw hO=>(rnot10_any ⟨C2,cc2,g2,rfl,hsl2⟩ (Own.lent (R:=[]) (hO.cast (by simp))) (by rw [List.length_append,List.length_singleton];omega)).mono λe w' ⟨ob',k1,k2,k3⟩=>⟨_,ob',k1,⟨rfl,k2⟩,k3⟩) ?_
 rintro v' ob' ⟨rfl,hb3⟩
 exact kC [] λw hO=>⟨r,_,bad,ob',rfl,⟨⟨_,cap-3,q9,by omega,hb3⟩,hO.past 0 _,hrs,texts_add htx (by simp)⟩,by rw [hts];exact gl_ne h2 h3⟩
end
section
set_option linter.unnecessarySimpa false
theorem SlT.adds {u:Value}{l xs:List Tok}{ob:List Blk}(h:Sl 9 1 u (l.length+xs.length) (jD l++jD xs) ob):SlT u (l++xs) ob:=Sl.to h (by simp) (by rw [kL,kL,kL,List.flatMap_append])
def Wr (b:Nat)(A:Option Addr)(n cap:Nat)(ws:List Tok)(ob:List Blk):Prop:=∃ C cc g,ob=⟨b, #[.slice A n cap,.slice C ws.length cc],237⟩::g/\SlT (.slice C ws.length cc) ws g
structure LentW (B b:Nat)(A:Option Addr)(cap:Nat)(l:List Nd)(ws:List Tok)(ob:List Blk)(W:World):Prop where
 rd:Wr b A l.length cap ws ob
 own:Own (ob.map Blk.b) W W ob
 ge:∀ x∈ob,B<=x.b
 le:B<=W.heap.size
 nodes:Reads nC W B A l
 lib:MkAt B W
structure BackW (b:Nat)(A:Option Addr)(n cap:Nat)(ws:List Tok)(ob ob':List Blk)(W w':World):Prop where
 rd:Wr b A n cap ws ob'
 own:Own (ob.map Blk.b) W w' ob'
theorem LentW.at {B b cap:Nat}{A:Option Addr}{l:List Nd}{ws ws':List Tok}{ob ob' R:List Blk}{W w:World}(h:LentW B b A cap l ws ob W)(hR:Wr b A l.length cap ws' ob')(hO:Own (ob.map Blk.b) W w (ob'++R)):LentW B b A cap l ws' ob' w:=
 ⟨hR,Own.lent hO,λx hx=>hO.allB (qC h.ge) h.le x (List.mem_append_left _ hx),Nat.le_trans h.le hO.size,h.nodes.on (hO.belowB (qC h.ge) h.le) (Nat.le_refl _),h.lib.on (hO.belowB (qC h.ge) h.le) (Nat.le_refl _)⟩
def mV (A:Option Addr)(cap:Nat)(l:List Nd)(a:Nat)(X:List Tok):Prop:=∀ (B b:Nat) (ws:List Tok) (ob:List Blk) (W:World),LentW B b A cap l ws ob W->ws.length+X.length<=100000→
 YC 197 #[.pointer (some ⟨b,0,none⟩),YI (a:Int)] W λe w'=>∃ ob',e= .returned (.tuple #[])/\BackW b A l.length cap (ws++X) ob ob' W w'
def OperW (A:Option Addr)(cap:Nat)(l:List Nd)(a:Nat)(z:Int)(X:List Tok):Prop:=∀ (B b:Nat) (ws:List Tok) (ob:List Blk) (W:World),LentW B b A cap l ws ob W->ws.length+X.length<=100000→
 YC 230 #[.pointer (some ⟨b,0,none⟩),YI (a:Int),YI z] W λe w'=>∃ ob',e= .returned (.tuple #[])/\BackW b A l.length cap (ws++X) ob ob' W w'
theorem tP {B b cap:Nat}{A:Option Addr}{l:List Nd}{ws:List Tok}{ob:List Blk}{W:World}(hL:LentW B b A cap l ws ob W)(op a b0:Int)(k:Nat)(hk:k<3)(v sg:Tok)(hn:ws.length+3<=100000):YC 229 #[.pointer (some ⟨b,0,none⟩),ndV ⟨op,a,b0,(k:Int),v⟩,.string (mkS sg)] W λe w'=>∃ ob',e= .returned (.tuple #[])/\BackW b A l.length cap (ws++[x3 k,sg,v]) ob ob' W w':=by
 have hM':=qC hL.ge
 have hBW:=hL.le
 have hO:=hL.own
 have hlib:=hL.lib
 obtain ⟨C,cc,g,rfl,hsl⟩:=hL.rd
 have hnl:(ws++[x3 k,sg,v]).length=ws.length+3:=by simp
 have hk1:∀ w,Own ((⟨b, #[.slice A l.length cap,.slice C ws.length cc],237⟩::g).map Blk.b) W w []->(loadVar 9 ⟨2,0+k*1,none⟩).run YP w= .ok (.string (mkS (x3 k))) w:=λw hO=>(hlib.on (hO.belowB hM' hBW) (Nat.le_refl _)).one k hk
 refine zN hO Tryz.func229 (yK [] λb4=>qJ 14 [] [⟨b4, #[YI op,YI a,YI b0,YI (k:Int),.string (mkS v)],261⟩,⟨b, #[.slice A l.length cap,.slice C ws.length cc],237⟩] (λw hO=>(hO.past 0 (⟨b4, #[YI op,YI a,YI b0,YI (k:Int),.string (mkS v)],261⟩::⟨b, #[.slice A l.length cap,.slice C ws.length cc],237⟩::g)).sublist (by simp)) ?_)
 refine xh_ixa 50013 [1,0] 7 3 k 1 hk (wJ 50014 [] 8 9 2 (0+k*1) (.string (mkS (x3 k))) (λw hO=>hk1 w hO.no) (gD [0] 12 (fQ 3 9 #[.string (mkS (x3 k)),.string (mkS sg),.string (mkS v)] λb1=>gD [] 13 (pR (m:=3) (cp:=3) [⟨b1, #[.string (mkS (x3 k)),.string (mkS sg),.string (mkS v)],9⟩,⟨b4, #[YI op,YI a,YI b0,YI (k:Int),.string (mkS v)],261⟩,⟨b, #[.slice A l.length cap,.slice C ws.length cc],237⟩] g [] 0 (⟨b1, #[.string (mkS (x3 k)),.string (mkS sg),.string (mkS v)],9⟩::⟨b4, #[YI op,YI a,YI b0,YI (k:Int),.string (mkS v)],261⟩::⟨b, #[.slice A l.length cap,.slice C ws.length cc],237⟩::g) [⟨b4, #[YI op,YI a,YI b0,YI (k:Int),.string (mkS v)],261⟩,⟨b, #[.slice A l.length cap,.slice C ws.length cc],237⟩] (λw hO=>hO.cast (by simp)) (λo w hO=>hO.sublist (List.Sublist.cons _ (List.Sublist.cons_cons _ (List.Sublist.cons_cons _ (List.nil_sublist _))))) hsl Om λv' ob' h=> ?_))))
 obtain ⟨C2,c2,rfl⟩:=h.form
 refine kC [2] λw hO=>⟨⟨b, #[.slice A l.length cap,.slice C2 (ws++[x3 k,sg,v]).length c2],237⟩::ob',rfl,⟨C2,c2,ob',rfl,by rw [hnl];exact SlT.adds (xs:=[x3 k,sg,v]) h⟩, ?_⟩
 rw [hnl];exact (hO.past 2 (⟨b, #[.slice A l.length cap,.slice C2 (ws.length+3) c2],237⟩::(ob'++[]))).cast (by simp)
theorem opn_in {A:Option Addr}{cap:Nat}{l:List Nd}(hl9:l.length<=1000){a:Nat}{na:Nd}{z:Int}{X:List Tok}(ha:l[a]?=some na)(hz:na.op<=z)(ha':mV A cap l a X):OperW A cap l a z X:=by
 intro B b ws ob W hL hn
 have hM':=qC hL.ge
 have hBW:=hL.le
 have hv:=hL.nodes
 have hO:=hL.own
 obtain ⟨ha2,ea⟩:=vJ ha
 obtain ⟨eb,eo,hA,hela⟩:=hv.elem qU a ha2
 obtain ⟨C,cc,g,rfl,hsl⟩:=hL.rd
 have q:∀ w,Own ((⟨b, #[.slice A l.length cap,.slice C ws.length cc],237⟩::g).map Blk.b) W w []->(loadVar 3 ⟨eb,eo+a*5+0,none⟩).run YP w= .ok (YI na.op) w:=λw hO=>hela w (hO.belowB hM' hBW) _ 0 _ (by rw [ea];kernel_rfl)
 refine zN hO Tryz.func230 (zI 11 [0] hA l.length cap a 5 ha2 (zH 13 [] 3 eb (eo+a*5+0) (YI na.op) (λw hO=>q w hO.no) (zB 15 [] (na.op<=z) (λ_=> ?_) (λh=>absurd hz h))))
 refine yN (k:=197) (args:= #[Zp b 0,YI (a:Int)]) (Rr:=λv ob'=>v= .tuple #[]/\Wr b A l.length cap (ws++X) ob') [] (⟨b, #[.slice A l.length cap,.slice C ws.length cc],237⟩::g) ([]:List Blk) (⟨b, #[.slice A l.length cap,.slice C ws.length cc],237⟩::g) (λw hO=>hO.cast (by simp)) (λw hO=>(ha' _ _ _ _ _ (hL.at (R:=([]:List Blk)) ⟨C,cc,g,rfl,hsl⟩ (hO.cast (by simp))) hn).mono λe w' ⟨ob',k1,k2⟩=>⟨_,ob',k1,⟨rfl,k2.rd⟩,k2.own⟩) λv1 ob1 hv1=> ?_
 obtain ⟨rfl,C1,c1,g1,rfl,hs1⟩:=hv1
 exact x_ret0 [] λw hO=>⟨_,rfl,⟨C1,c1,g1,rfl,hs1⟩,hO.past 0 (⟨b, #[.slice A l.length cap,.slice C1 (ws++X).length c1],237⟩::g1)⟩
theorem opn_out {A:Option Addr}{cap:Nat}{l:List Nd}(hl9:l.length<=1000){a:Nat}{na:Nd}{z:Int}{X:List Tok}(ha:l[a]?=some na)(hz:¬ na.op<=z)(ha':mV A cap l a X):OperW A cap l a z (x8::(X++[xB])):=by
 intro B b ws ob W hL hn
 have el:ws++(x8::(X++[xB]))=(ws++[x8]++X)++[xB]:=by simp
 rw [el]
 have hM':=qC hL.ge
 have hBW:=hL.le
 have hv:=hL.nodes
 have hO:=hL.own
 obtain ⟨ha2,ea⟩:=vJ ha
 obtain ⟨eb,eo,hA,hela⟩:=hv.elem qU a ha2
 obtain ⟨C,cc,g,rfl,hsl⟩:=hL.rd
 have q:∀ w,Own ((⟨b, #[.slice A l.length cap,.slice C ws.length cc],237⟩::g).map Blk.b) W w []->(loadVar 3 ⟨eb,eo+a*5+0,none⟩).run YP w= .ok (YI na.op) w:=λw hO=>hela w (hO.belowB hM' hBW) _ 0 _ (by rw [ea];kernel_rfl)
 refine zN hO Tryz.func230 (zI 11 [0] hA l.length cap a 5 ha2 (zH 13 [] 3 eb (eo+a*5+0) (YI na.op) (λw hO=>q w hO.no) (zB 15 [] (na.op<=z) (λh=>absurd h hz) (λ_=> ?_))))
 refine gM [0] 1 9 #[.string (mkS x8)] λb1=>wM (m:=1) (cp:=1) [] [⟨b1, #[.string (mkS x8)],9⟩,⟨b, #[.slice A l.length cap,.slice C ws.length cc],237⟩] g [] 0 (⟨b1, #[.string (mkS x8)],9⟩::⟨b, #[.slice A l.length cap,.slice C ws.length cc],237⟩::g) (λw hO=>hO.cast (by simp)) hsl (by (try simp only [List.length_append,List.length_cons,List.length_nil] at hn ⊢);omega) λv1 o1 h1=> ?_
 obtain ⟨C1,c1,rfl⟩:=h1.form
 have e1:(ws++[x8]).length=ws.length+1:=List.length_append ..
 have hs1:SlT (.slice C1 (ws++[x8]).length c1) (ws++[x8]) o1:=by rw [e1];exact SlT.adds (xs:=[x8]) h1
 rw [←e1]
 refine yN (k:=197) (args:= #[Zp b 0,YI (a:Int)]) (Rr:=λv ob'=>v= .tuple #[]/\Wr b A l.length cap ((ws++[x8])++X) ob') [1] (⟨b1, #[.string (mkS x8)],9⟩::⟨b, #[.slice A l.length cap,.slice C1 (ws++[x8]).length c1],237⟩::(o1++[])) [⟨b1, #[.string (mkS x8)],9⟩] (⟨b, #[.slice A l.length cap,.slice C1 (ws++[x8]).length c1],237⟩::o1) (λw hO=>hO.cast (by simp)) (λw hO=>(ha' _ _ _ _ _ (hL.at (R:=[⟨b1, #[.string (mkS x8)],9⟩]) ⟨C1,c1,o1,rfl,hs1⟩ (hO.perm (List.perm_append_comm (l₁:=[⟨b1, #[.string (mkS x8)],9⟩]) (l₂:=⟨b, #[.slice A l.length cap,.slice C1 (ws++[x8]).length c1],237⟩::o1)))) (by (try simp only [List.length_append,List.length_cons,List.length_nil] at hn ⊢);omega)).mono λe w' ⟨ob',k1,k2⟩=>⟨_,ob',k1,⟨rfl,k2.rd⟩,k2.own⟩) λv2 ob2 hv2=> ?_
 obtain ⟨rfl,C2,c2,g2,rfl,hs2⟩:=hv2
 refine gM [1] 1 9 #[.string (mkS xB)] λb3=>wM (m:=1) (cp:=1) [] [⟨b3, #[.string (mkS xB)],9⟩,⟨b1, #[.string (mkS x8)],9⟩,⟨b, #[.slice A l.length cap,.slice C2 (ws++[x8]++X).length c2],237⟩] g2 [] 0 (⟨b3, #[.string (mkS xB)],9⟩::⟨b1, #[.string (mkS x8)],9⟩::⟨b, #[.slice A l.length cap,.slice C2 (ws++[x8]++X).length c2],237⟩::g2) (λw hO=>hO.cast (by simp)) hs2 (by (try simp only [List.length_append,List.length_cons,List.length_nil] at hn ⊢);omega) λv3 o3 h3=> ?_
 obtain ⟨C3,c3,rfl⟩:=h3.form
 have e3:((ws++[x8]++X)++[xB]).length=(ws++[x8]++X).length+1:=List.length_append ..
 have hs3:SlT (.slice C3 ((ws++[x8]++X)++[xB]).length c3) ((ws++[x8]++X)++[xB]) o3:=by rw [e3];exact SlT.adds (xs:=[xB]) h3
 rw [←e3]
 exact kC [2] λw hO=>⟨⟨b, #[.slice A l.length cap,.slice C3 ((ws++[x8]++X)++[xB]).length c3],237⟩::o3,rfl,⟨C3,c3,o3,rfl,hs3⟩,(hO.past 2 (⟨b, #[.slice A l.length cap,.slice C3 ((ws++[x8]++X)++[xB]).length c3],237⟩::(o3++[]))).cast (by simp)⟩
theorem wpair_any {B b cap:Nat}{A:Option Addr}{l:List Nd}{ws:List Tok}{ob:List Blk}{W:World}(hL:LentW B b A cap l ws ob W){op:Int}{a b0:Nat}{X Y:List Tok}(ha':OperW A cap l a op X)(hb':OperW A cap l b0 (op-1) Y)(ho1:0<=op)(ho2:op<=10)(wd:Tok)(hn:ws.length+(X++wd::Y).length<=100000):YC 231 #[.pointer (some ⟨b,0,none⟩),ndV ⟨op,(a:Int),(b0:Int),0,[]⟩,.string (mkS wd)] W λe w'=>∃ ob',e= .returned (.tuple #[])/\BackW b A l.length cap (ws++(X++wd::Y)) ob ob' W w':=by
 have el:ws++(X++wd::Y)=(ws++X++[wd])++Y:=by simp
 rw [el]
 have hM':=qC hL.ge
 have hBW:=hL.le
 have hv:=hL.nodes
 have hO:=hL.own
 obtain ⟨C,cc,g,rfl,hsl⟩:=hL.rd
 refine zN hO Tryz.func231 (yK [] λb4=> ?_)
 refine yN (k:=230) (args:= #[Zp b 0,YI (a:Int),YI op]) (Rr:=λv ob'=>v= .tuple #[]/\Wr b A l.length cap (ws++X) ob') [0,0] (⟨b4, #[YI op,YI (a:Int),YI (b0:Int),YI 0,.string (mkS [])],261⟩::⟨b, #[.slice A l.length cap,.slice C ws.length cc],237⟩::g) [⟨b4, #[YI op,YI (a:Int),YI (b0:Int),YI 0,.string (mkS [])],261⟩] (⟨b, #[.slice A l.length cap,.slice C ws.length cc],237⟩::g) (λw hO=>hO.cast (by simp)) (λw hO=>(ha' _ _ _ _ _ (hL.at (R:=[⟨b4, #[YI op,YI (a:Int),YI (b0:Int),YI 0,.string (mkS [])],261⟩]) ⟨C,cc,g,rfl,hsl⟩ (hO.perm (List.perm_append_comm (l₁:=[⟨b4, #[YI op,YI (a:Int),YI (b0:Int),YI 0,.string (mkS [])],261⟩]) (l₂:=⟨b, #[.slice A l.length cap,.slice C ws.length cc],237⟩::g)))) (by (try simp only [List.length_append,List.length_cons,List.length_nil] at hn ⊢);omega)).mono λe w' ⟨ob',k1,k2⟩=>⟨_,ob',k1,⟨rfl,k2.rd⟩,k2.own⟩) λv1 ob1 hv1=> ?_
 obtain ⟨rfl,C1,c1,g1,rfl,hs1⟩:=hv1
 refine gM [1] 1 9 #[.string (mkS wd)] λb2=>wM (m:=1) (cp:=1) [] [⟨b2, #[.string (mkS wd)],9⟩,⟨b4, #[YI op,YI (a:Int),YI (b0:Int),YI 0,.string (mkS [])],261⟩,⟨b, #[.slice A l.length cap,.slice C1 (ws++X).length c1],237⟩] g1 [] 0 (⟨b2, #[.string (mkS wd)],9⟩::⟨b4, #[YI op,YI (a:Int),YI (b0:Int),YI 0,.string (mkS [])],261⟩::⟨b, #[.slice A l.length cap,.slice C1 (ws++X).length c1],237⟩::g1) (λw hO=>hO.cast (by simp)) hs1 (by (try simp only [List.length_append,List.length_cons,List.length_nil] at hn ⊢);omega) λv2 o2 h2=> ?_
 obtain ⟨C2,c2,rfl⟩:=h2.form
 have e2:((ws++X)++[wd]).length=(ws++X).length+1:=List.length_append ..
 have hs2:SlT (.slice C2 ((ws++X)++[wd]).length c2) ((ws++X)++[wd]) o2:=by rw [e2];exact SlT.adds (xs:=[wd]) h2
 rw [←e2]
 refine x_i 27 [2,1,1] (op-1) (yN (k:=230) (args:= #[Zp b 0,YI (b0:Int),YI (op-1)]) (Rr:=λv ob'=>v= .tuple #[]/\Wr b A l.length cap ((ws++X++[wd])++Y) ob') [] (⟨b2, #[.string (mkS wd)],9⟩::⟨b4, #[YI op,YI (a:Int),YI (b0:Int),YI 0,.string (mkS [])],261⟩::⟨b, #[.slice A l.length cap,.slice C2 (ws++X++[wd]).length c2],237⟩::(o2++[])) [⟨b2, #[.string (mkS wd)],9⟩,⟨b4, #[YI op,YI (a:Int),YI (b0:Int),YI 0,.string (mkS [])],261⟩] (⟨b, #[.slice A l.length cap,.slice C2 (ws++X++[wd]).length c2],237⟩::o2) (λw hO=>hO.cast (by simp)) (λw hO=>(hb' _ _ _ _ _ (hL.at (R:=[⟨b2, #[.string (mkS wd)],9⟩,⟨b4, #[YI op,YI (a:Int),YI (b0:Int),YI 0,.string (mkS [])],261⟩]) ⟨C2,c2,o2,rfl,hs2⟩ (hO.perm (List.perm_append_comm (l₁:=[⟨b2, #[.string (mkS wd)],9⟩,⟨b4, #[YI op,YI (a:Int),YI (b0:Int),YI 0,.string (mkS [])],261⟩]) (l₂:=⟨b, #[.slice A l.length cap,.slice C2 (ws++X++[wd]).length c2],237⟩::o2)))) (by (try simp only [List.length_append,List.length_cons,List.length_nil] at hn ⊢);omega)).mono λe w' ⟨ob',k1,k2⟩=>⟨_,ob',k1,⟨rfl,k2.rd⟩,k2.own⟩) λv3 ob3 hv3=> ?_)
 obtain ⟨rfl,C3,c3,g3,rfl,hs3⟩:=hv3
 exact kC [] λw hO=>⟨_,rfl,⟨C3,c3,g3,rfl,hs3⟩,hO.past 2 (⟨b, #[.slice A l.length cap,.slice C3 ((ws++X++[wd])++Y).length c3],237⟩::g3)⟩
theorem nd_is {A:Option Addr}{cap:Nat}{l:List Nd}(hl9:l.length<=1000){r k:Nat}{t:Tok}(hk:k<3)(hr:l[r]?=some ⟨1,0,0,(k:Int),t⟩):mV A cap l r [x3 k,tEq,t]:=by
 intro B b ws ob W hL hn
 have hM':=qC hL.ge
 have hBW:=hL.le
 have hv:=hL.nodes
 have hO:=hL.own
 obtain ⟨hr2,er⟩:=vJ hr
 obtain ⟨eb,eo,hA,helr⟩:=hv.elem qU r hr2
 obtain ⟨C,cc,g,rfl,hsl⟩:=hL.rd
 have q:∀ w,Own ((⟨b, #[.slice A l.length cap,.slice C ws.length cc],237⟩::g).map Blk.b) W w []->(loadVar 261 ⟨eb,eo+r*5+0,none⟩).run YP w= .ok (ndV ⟨1,0,0,(k:Int),t⟩) w:=λw hO=>helr w (hO.belowB hM' hBW) _ 0 _ (by rw [er];kernel_rfl)
 refine zN hO Tryz.func197 (zI 11 [0] hA l.length cap r 5 hr2 (zH 12 [] 261 eb (eo+r*5+0) (ndV ⟨1,0,0,(k:Int),t⟩) (λw hO=>q w hO.no) (zJ [] λb4=> ?_)))
 refine yN (k:=229) (args:= #[Zp b 0,ndV ⟨1,0,0,(k:Int),t⟩,.string (mkS tEq)]) (Rr:=λv ob'=>v= .tuple #[]/\Wr b A l.length cap (ws++[x3 k,tEq,t]) ob') [0,0,0] (⟨b4, #[YI 1,YI 0,YI 0,YI (k:Int),.string (mkS t)],261⟩::⟨b, #[.slice A l.length cap,.slice C ws.length cc],237⟩::g) [⟨b4, #[YI 1,YI 0,YI 0,YI (k:Int),.string (mkS t)],261⟩] (⟨b, #[.slice A l.length cap,.slice C ws.length cc],237⟩::g) (λw hO=>hO.cast (by simp)) (λw hO=>(tP (hL.at (R:=[⟨b4, #[YI 1,YI 0,YI 0,YI (k:Int),.string (mkS t)],261⟩]) ⟨C,cc,g,rfl,hsl⟩ (hO.perm (List.perm_append_comm (l₁:=[⟨b4, #[YI 1,YI 0,YI 0,YI (k:Int),.string (mkS t)],261⟩]) (l₂:=⟨b, #[.slice A l.length cap,.slice C ws.length cc],237⟩::g)))) 1 0 0 k hk t tEq (by (try simp only [List.length_append,List.length_cons,List.length_nil] at hn ⊢);omega)).mono λe w' ⟨ob',k1,k2⟩=>⟨_,ob',k1,⟨rfl,k2.rd⟩,k2.own⟩) λv1 ob1 hv1=> ?_
 obtain ⟨rfl,C1,c1,g1,rfl,hs1⟩:=hv1
 exact kC [] λw hO=>⟨_,rfl,⟨C1,c1,g1,rfl,hs1⟩,hO.past 1 (⟨b, #[.slice A l.length cap,.slice C1 (ws++[x3 k,tEq,t]).length c1],237⟩::g1)⟩
theorem nd_no_is {A:Option Addr}{cap:Nat}{l:List Nd}(hl9:l.length<=1000){r a k:Nat}{t:Tok}(hk:k<3)(hr:l[r]?=some ⟨2,(a:Int),0,0,[]⟩)(ha:l[a]?=some ⟨1,0,0,(k:Int),t⟩):mV A cap l r [x3 k,tNe,t]:=by
 intro B b ws ob W hL hn
 have hM':=qC hL.ge
 have hBW:=hL.le
 have hv:=hL.nodes
 have hO:=hL.own
 obtain ⟨hr2,er⟩:=vJ hr
 obtain ⟨eb,eo,hA,helr⟩:=hv.elem qU r hr2
 obtain ⟨C,cc,g,rfl,hsl⟩:=hL.rd
 have q:∀ w,Own ((⟨b, #[.slice A l.length cap,.slice C ws.length cc],237⟩::g).map Blk.b) W w []->(loadVar 261 ⟨eb,eo+r*5+0,none⟩).run YP w= .ok (ndV ⟨2,(a:Int),0,0,[]⟩) w:=λw hO=>helr w (hO.belowB hM' hBW) _ 0 _ (by rw [er];kernel_rfl)
 obtain ⟨ha2,ea⟩:=vJ ha
 obtain ⟨eb2,eo2,hA2,hela⟩:=hv.elem qU a ha2
 obtain ⟨rfl,rfl⟩:eb=eb2/\eo=eo2:=by rw [hA] at hA2;cases hA2;exact ⟨rfl,rfl⟩
 have q5:∀ w,Own ((⟨b, #[.slice A l.length cap,.slice C ws.length cc],237⟩::g).map Blk.b) W w []->(loadVar 261 ⟨eb,eo+a*5+0,none⟩).run YP w= .ok (ndV ⟨1,0,0,(k:Int),t⟩) w:=λw hO=>hela w (hO.belowB hM' hBW) _ 0 _ (by rw [ea];kernel_rfl)
 refine zN hO Tryz.func197 (zI 11 [0] hA l.length cap r 5 hr2 (zH 12 [] 261 eb (eo+r*5+0) (ndV ⟨2,(a:Int),0,0,[]⟩) (λw hO=>q w hO.no) (zJ [] λb4=> ?_)))
 refine qJ 9 [0,0] [⟨b4, #[YI 2,YI (a:Int),YI 0,YI 0,.string (mkS [])],261⟩,⟨b, #[.slice A l.length cap,.slice C ws.length cc],237⟩] (λw hO=>(hO.past 0 (⟨b4, #[YI 2,YI (a:Int),YI 0,YI 0,.string (mkS [])],261⟩::⟨b, #[.slice A l.length cap,.slice C ws.length cc],237⟩::g)).sublist (by simp)) (wU 50028 [1,0] 6 hA l.length cap a 5 ha2 (wJ 50029 [] 7 261 eb (eo+a*5+0) (ndV ⟨1,0,0,(k:Int),t⟩) (λw hO=>q5 w hO.no) (gD [] 8 (xh_alloc λb5=> ?_))))
 refine yN (k:=229) (args:= #[Zp b 0,ndV ⟨1,0,0,(k:Int),t⟩,.string (mkS tNe)]) (Rr:=λv ob'=>v= .tuple #[]/\Wr b A l.length cap (ws++[x3 k,tNe,t]) ob') [0,0,0] (⟨b5, #[YI 1,YI 0,YI 0,YI (k:Int),.string (mkS t)],261⟩::⟨b4, #[YI 2,YI (a:Int),YI 0,YI 0,.string (mkS [])],261⟩::⟨b, #[.slice A l.length cap,.slice C ws.length cc],237⟩::g) [⟨b5, #[YI 1,YI 0,YI 0,YI (k:Int),.string (mkS t)],261⟩,⟨b4, #[YI 2,YI (a:Int),YI 0,YI 0,.string (mkS [])],261⟩] (⟨b, #[.slice A l.length cap,.slice C ws.length cc],237⟩::g) (λw hO=>hO.cast (by simp)) (λw hO=>(tP (hL.at (R:=[⟨b5, #[YI 1,YI 0,YI 0,YI (k:Int),.string (mkS t)],261⟩,⟨b4, #[YI 2,YI (a:Int),YI 0,YI 0,.string (mkS [])],261⟩]) ⟨C,cc,g,rfl,hsl⟩ (hO.perm (List.perm_append_comm (l₁:=[⟨b5, #[YI 1,YI 0,YI 0,YI (k:Int),.string (mkS t)],261⟩,⟨b4, #[YI 2,YI (a:Int),YI 0,YI 0,.string (mkS [])],261⟩]) (l₂:=⟨b, #[.slice A l.length cap,.slice C ws.length cc],237⟩::g)))) 1 0 0 k hk t tNe (by (try simp only [List.length_append,List.length_cons,List.length_nil] at hn ⊢);omega)).mono λe w' ⟨ob',k1,k2⟩=>⟨_,ob',k1,⟨rfl,k2.rd⟩,k2.own⟩) λv1 ob1 hv1=> ?_
 obtain ⟨rfl,C1,c1,g1,rfl,hs1⟩:=hv1
 exact x_ret0 [] λw hO=>⟨_,rfl,⟨C1,c1,g1,rfl,hs1⟩,hO.past 2 (⟨b, #[.slice A l.length cap,.slice C1 (ws++[x3 k,tNe,t]).length c1],237⟩::g1)⟩
theorem nd_no {A:Option Addr}{cap:Nat}{l:List Nd}(hl9:l.length<=1000){r a:Nat}{na:Nd}{X:List Tok}(hr:l[r]?=some ⟨2,(a:Int),0,0,[]⟩)(ha:l[a]?=some na)(hx1:¬ na.op=1)(ha':OperW A cap l a 2 X):mV A cap l r (qY::X):=by
 intro B b ws ob W hL hn
 have el:ws++(qY::X)=(ws++[qY])++X:=by simp
 rw [el]
 have hM':=qC hL.ge
 have hBW:=hL.le
 have hv:=hL.nodes
 have hO:=hL.own
 obtain ⟨hr2,er⟩:=vJ hr
 obtain ⟨eb,eo,hA,helr⟩:=hv.elem qU r hr2
 obtain ⟨C,cc,g,rfl,hsl⟩:=hL.rd
 have q:∀ w,Own ((⟨b, #[.slice A l.length cap,.slice C ws.length cc],237⟩::g).map Blk.b) W w []->(loadVar 261 ⟨eb,eo+r*5+0,none⟩).run YP w= .ok (ndV ⟨2,(a:Int),0,0,[]⟩) w:=λw hO=>helr w (hO.belowB hM' hBW) _ 0 _ (by rw [er];kernel_rfl)
 obtain ⟨ha2,ea⟩:=vJ ha
 obtain ⟨eb2,eo2,hA2,hela⟩:=hv.elem qU a ha2
 obtain ⟨rfl,rfl⟩:eb=eb2/\eo=eo2:=by rw [hA] at hA2;cases hA2;exact ⟨rfl,rfl⟩
 have q5:∀ w,Own ((⟨b, #[.slice A l.length cap,.slice C ws.length cc],237⟩::g).map Blk.b) W w []->(loadVar 261 ⟨eb,eo+a*5+0,none⟩).run YP w= .ok (ndV na) w:=λw hO=>hela w (hO.belowB hM' hBW) _ 0 _ (by rw [ea];kernel_rfl)
 refine zN hO Tryz.func197 (zI 11 [0] hA l.length cap r 5 hr2 (zH 12 [] 261 eb (eo+r*5+0) (ndV ⟨2,(a:Int),0,0,[]⟩) (λw hO=>q w hO.no) (zJ [] λb4=> ?_)))
 refine qJ 9 [0,0] [⟨b4, #[YI 2,YI (a:Int),YI 0,YI 0,.string (mkS [])],261⟩,⟨b, #[.slice A l.length cap,.slice C ws.length cc],237⟩] (λw hO=>(hO.past 0 (⟨b4, #[YI 2,YI (a:Int),YI 0,YI 0,.string (mkS [])],261⟩::⟨b, #[.slice A l.length cap,.slice C ws.length cc],237⟩::g)).sublist (by simp)) (wU 50028 [1,0] 6 hA l.length cap a 5 ha2 (wJ 50029 [] 7 261 eb (eo+a*5+0) (ndV na) (λw hO=>q5 w hO.no) (gD [] 8 (xh_alloc λb5=> ?_))))
 refine zB 32 [0,0] (na.op=1) (λh=>absurd h hx1) (λ_=>gM [2] 1 9 #[.string (mkS qY)] λb1=>wM (m:=1) (cp:=1) [] [⟨b1, #[.string (mkS qY)],9⟩,⟨b5,(ndV na).cells,261⟩,⟨b4, #[YI 2,YI (a:Int),YI 0,YI 0,.string (mkS [])],261⟩,⟨b, #[.slice A l.length cap,.slice C ws.length cc],237⟩] g [] 0 (⟨b1, #[.string (mkS qY)],9⟩::⟨b5,(ndV na).cells,261⟩::⟨b4, #[YI 2,YI (a:Int),YI 0,YI 0,.string (mkS [])],261⟩::⟨b, #[.slice A l.length cap,.slice C ws.length cc],237⟩::g) (λw hO=>hO.cast (by simp)) hsl (by (try simp only [List.length_append,List.length_cons,List.length_nil] at hn ⊢);omega) λv1 o1 h1=> ?_)
 obtain ⟨C1,c1,rfl⟩:=h1.form
 have e1:(ws++[qY]).length=ws.length+1:=List.length_append ..
 have hs1:SlT (.slice C1 (ws++[qY]).length c1) (ws++[qY]) o1:=by rw [e1];exact SlT.adds (xs:=[qY]) h1
 rw [←e1]
 refine yN (k:=230) (args:= #[Zp b 0,YI (a:Int),YI 2]) (Rr:=λv ob'=>v= .tuple #[]/\Wr b A l.length cap ((ws++[qY])++X) ob') [3,2,2] (⟨b1, #[.string (mkS qY)],9⟩::⟨b5,(ndV na).cells,261⟩::⟨b4, #[YI 2,YI (a:Int),YI 0,YI 0,.string (mkS [])],261⟩::⟨b, #[.slice A l.length cap,.slice C1 (ws++[qY]).length c1],237⟩::(o1++[])) [⟨b1, #[.string (mkS qY)],9⟩,⟨b5,(ndV na).cells,261⟩,⟨b4, #[YI 2,YI (a:Int),YI 0,YI 0,.string (mkS [])],261⟩] (⟨b, #[.slice A l.length cap,.slice C1 (ws++[qY]).length c1],237⟩::o1) (λw hO=>hO.cast (by simp)) (λw hO=>(ha' _ _ _ _ _ (hL.at (R:=[⟨b1, #[.string (mkS qY)],9⟩,⟨b5,(ndV na).cells,261⟩,⟨b4, #[YI 2,YI (a:Int),YI 0,YI 0,.string (mkS [])],261⟩]) ⟨C1,c1,o1,rfl,hs1⟩ (hO.perm (List.perm_append_comm (l₁:=[⟨b1, #[.string (mkS qY)],9⟩,⟨b5,(ndV na).cells,261⟩,⟨b4, #[YI 2,YI (a:Int),YI 0,YI 0,.string (mkS [])],261⟩]) (l₂:=⟨b, #[.slice A l.length cap,.slice C1 (ws++[qY]).length c1],237⟩::o1)))) (by (try simp only [List.length_append,List.length_cons,List.length_nil] at hn ⊢);omega)).mono λe w' ⟨ob',k1,k2⟩=>⟨_,ob',k1,⟨rfl,k2.rd⟩,k2.own⟩) λv2 ob2 hv2=> ?_
 obtain ⟨rfl,C2,c2,g2,rfl,hs2⟩:=hv2
 exact kC [] λw hO=>⟨_,rfl,⟨C2,c2,g2,rfl,hs2⟩,hO.past 3 (⟨b, #[.slice A l.length cap,.slice C2 ((ws++[qY])++X).length c2],237⟩::g2)⟩
theorem nd_both {A:Option Addr}{cap:Nat}{l:List Nd}(hl9:l.length<=1000){r a b0:Nat}{X Y:List Tok}(hr:l[r]?=some ⟨3,(a:Int),(b0:Int),0,[]⟩)(ha':OperW A cap l a 3 X)(hb':OperW A cap l b0 (3-1) Y):mV A cap l r (X++d9::Y):=by
 intro B b ws ob W hL hn
 have hM':=qC hL.ge
 have hBW:=hL.le
 have hv:=hL.nodes
 have hO:=hL.own
 obtain ⟨hr2,er⟩:=vJ hr
 obtain ⟨eb,eo,hA,helr⟩:=hv.elem qU r hr2
 obtain ⟨C,cc,g,rfl,hsl⟩:=hL.rd
 have q:∀ w,Own ((⟨b, #[.slice A l.length cap,.slice C ws.length cc],237⟩::g).map Blk.b) W w []->(loadVar 261 ⟨eb,eo+r*5+0,none⟩).run YP w= .ok (ndV ⟨3,(a:Int),(b0:Int),0,[]⟩) w:=λw hO=>helr w (hO.belowB hM' hBW) _ 0 _ (by rw [er];kernel_rfl)
 refine zN hO Tryz.func197 (zI 11 [0] hA l.length cap r 5 hr2 (zH 12 [] 261 eb (eo+r*5+0) (ndV ⟨3,(a:Int),(b0:Int),0,[]⟩) (λw hO=>q w hO.no) (zJ [] λb4=> ?_)))
 refine yN (k:=231) (args:= #[Zp b 0,ndV ⟨3,(a:Int),(b0:Int),0,[]⟩,.string (mkS d9)]) (Rr:=λv ob'=>v= .tuple #[]/\Wr b A l.length cap (ws++(X++d9::Y)) ob') [0,0,0] (⟨b4, #[YI 3,YI (a:Int),YI (b0:Int),YI 0,.string (mkS [])],261⟩::⟨b, #[.slice A l.length cap,.slice C ws.length cc],237⟩::g) [⟨b4, #[YI 3,YI (a:Int),YI (b0:Int),YI 0,.string (mkS [])],261⟩] (⟨b, #[.slice A l.length cap,.slice C ws.length cc],237⟩::g) (λw hO=>hO.cast (by simp)) (λw hO=>(wpair_any (hL.at (R:=[⟨b4, #[YI 3,YI (a:Int),YI (b0:Int),YI 0,.string (mkS [])],261⟩]) ⟨C,cc,g,rfl,hsl⟩ (hO.perm (List.perm_append_comm (l₁:=[⟨b4, #[YI 3,YI (a:Int),YI (b0:Int),YI 0,.string (mkS [])],261⟩]) (l₂:=⟨b, #[.slice A l.length cap,.slice C ws.length cc],237⟩::g)))) ha' hb' (by decide) (by decide) d9 (by (try simp only [List.length_append,List.length_cons,List.length_nil] at hn ⊢);omega)).mono λe w' ⟨ob',k1,k2⟩=>⟨_,ob',k1,⟨rfl,k2.rd⟩,k2.own⟩) λv1 ob1 hv1=> ?_
 obtain ⟨rfl,C1,c1,g1,rfl,hs1⟩:=hv1
 exact kC [] λw hO=>⟨_,rfl,⟨C1,c1,g1,rfl,hs1⟩,hO.past 1 (⟨b, #[.slice A l.length cap,.slice C1 (ws++(X++d9::Y)).length c1],237⟩::g1)⟩
theorem nd_one {A:Option Addr}{cap:Nat}{l:List Nd}(hl9:l.length<=1000){r a b0:Nat}{X Y:List Tok}(hr:l[r]?=some ⟨4,(a:Int),(b0:Int),0,[]⟩)(ha':OperW A cap l a 4 X)(hb':OperW A cap l b0 (4-1) Y):mV A cap l r (X++tOr::Y):=by
 intro B b ws ob W hL hn
 have hM':=qC hL.ge
 have hBW:=hL.le
 have hv:=hL.nodes
 have hO:=hL.own
 obtain ⟨hr2,er⟩:=vJ hr
 obtain ⟨eb,eo,hA,helr⟩:=hv.elem qU r hr2
 obtain ⟨C,cc,g,rfl,hsl⟩:=hL.rd
 have q:∀ w,Own ((⟨b, #[.slice A l.length cap,.slice C ws.length cc],237⟩::g).map Blk.b) W w []->(loadVar 261 ⟨eb,eo+r*5+0,none⟩).run YP w= .ok (ndV ⟨4,(a:Int),(b0:Int),0,[]⟩) w:=λw hO=>helr w (hO.belowB hM' hBW) _ 0 _ (by rw [er];kernel_rfl)
 refine zN hO Tryz.func197 (zI 11 [0] hA l.length cap r 5 hr2 (zH 12 [] 261 eb (eo+r*5+0) (ndV ⟨4,(a:Int),(b0:Int),0,[]⟩) (λw hO=>q w hO.no) (zJ [] λb4=> ?_)))
 refine yN (k:=231) (args:= #[Zp b 0,ndV ⟨4,(a:Int),(b0:Int),0,[]⟩,.string (mkS tOr)]) (Rr:=λv ob'=>v= .tuple #[]/\Wr b A l.length cap (ws++(X++tOr::Y)) ob') [0,0,0] (⟨b4, #[YI 4,YI (a:Int),YI (b0:Int),YI 0,.string (mkS [])],261⟩::⟨b, #[.slice A l.length cap,.slice C ws.length cc],237⟩::g) [⟨b4, #[YI 4,YI (a:Int),YI (b0:Int),YI 0,.string (mkS [])],261⟩] (⟨b, #[.slice A l.length cap,.slice C ws.length cc],237⟩::g) (λw hO=>hO.cast (by simp)) (λw hO=>(wpair_any (hL.at (R:=[⟨b4, #[YI 4,YI (a:Int),YI (b0:Int),YI 0,.string (mkS [])],261⟩]) ⟨C,cc,g,rfl,hsl⟩ (hO.perm (List.perm_append_comm (l₁:=[⟨b4, #[YI 4,YI (a:Int),YI (b0:Int),YI 0,.string (mkS [])],261⟩]) (l₂:=⟨b, #[.slice A l.length cap,.slice C ws.length cc],237⟩::g)))) ha' hb' (by decide) (by decide) tOr (by (try simp only [List.length_append,List.length_cons,List.length_nil] at hn ⊢);omega)).mono λe w' ⟨ob',k1,k2⟩=>⟨_,ob',k1,⟨rfl,k2.rd⟩,k2.own⟩) λv1 ob1 hv1=> ?_
 obtain ⟨rfl,C1,c1,g1,rfl,hs1⟩:=hv1
 exact kC [] λw hO=>⟨_,rfl,⟨C1,c1,g1,rfl,hs1⟩,hO.past 1 (⟨b, #[.slice A l.length cap,.slice C1 (ws++(X++tOr::Y)).length c1],237⟩::g1)⟩
end
section
set_option linter.unnecessarySimpa false
theorem mZ:∀ t:Tr,t.tok.length+2<=6*t.sz
 | .is k v=>by rw [Tr.tok];show 5<=6;omega
 | .no (.is k v)=>by rw [Tr.tok];show 5<=12;omega
 | .no (.no x)=>by have:=mZ (.no x);rw [Tr.tok];simp only [List.length_cons];show _<=6*((Tr.no x).sz+1);omega
 | .no (.both x y)=>by have:=mZ (.both x y);rw [Tr.tok];unfold qK;simp only [if_true,List.length_cons,List.length_append,List.length_nil];show _<=6*((Tr.both x y).sz+1);omega
 | .no (.one x y)=>by have:=mZ (.one x y);rw [Tr.tok];unfold qK;simp only [if_true,List.length_cons,List.length_append,List.length_nil];show _<=6*((Tr.one x y).sz+1);omega
 | .both x y=>by
  have h1:=mZ x;have h2:=mZ y
  have w1:∀ (c:Bool) (l:List Tok),(qK c l).length<=l.length+2:=λc l=>by unfold qK;cases c<;>simp
  have:=w1 x.isOne x.tok;have:=w1 y.isBin y.tok
  rw [Tr.tok,List.length_append,List.length_cons];show _<=6*(x.sz+y.sz+1);omega
 | .one x y=>by
  have h1:=mZ x;have h2:=mZ y
  have w1:∀ (c:Bool) (l:List Tok),(qK c l).length<=l.length+2:=λc l=>by unfold qK;cases c<;>simp
  have:=w1 y.isOne y.tok
  rw [Tr.tok,List.length_append,List.length_cons];show _<=6*(x.sz+y.sz+1);omega
theorem opw {A:Option Addr}{cap:Nat}{l:List Nd}(hl9:l.length<=1000){t:Tr}{a:Nat}{na:Nd}{z:Int}{c:Bool}(hna:l[a]?=some na)(hop:na.op=t.opc)(h:mV A cap l a t.tok)(hc:c=decide (z<t.opc)):OperW A cap l a z (qK c t.tok):=by
 by_cases hz:na.op<=z
 ·have:c=false:=by rw [hc];exact decide_eq_false Om
  rw [this];exact opn_in hl9 hna hz h
 ·have:c=true:=by rw [hc];exact decide_eq_true Om
  rw [this];exact opn_out hl9 hna hz h
theorem opc_bin (t:Tr):t.isBin=decide (2<t.opc):=by cases t<;>rfl
theorem opc_one (t:Tr):t.isOne=decide (3<t.opc):=by cases t<;>rfl
theorem opc_not (t:Tr):false=decide (4<t.opc):=by cases t<;>rfl
theorem dN {A:Option Addr}{cap:Nat}{l:List Nd}(hl9:l.length<=1000):∀ (t:Tr) (o:Nat),t.ok=true->bE l o t->mV A cap l (o+t.sz-1) t.tok
 | .is k v,o,h,hs=>by
  unfold Tr.ok at h
  simp only [Bool.and_eq_true,decide_eq_true_eq] at h
  exact nd_is hl9 h.1 (hs 0 _ rfl)
 | .no x,o,h,hs=>by
  have hx:x.ok=true:=h
  have hxz:=x.sz_pos
  have hs1:bE l o x:=gJ hs
  have hr:=kR (k:=x.sz) (Tr.enc_len x o) hs 0 _ rfl
  have ih:=dN (A:=A) (cap:=cap) hl9 x o hx hs1
  obtain ⟨na,hna,hop⟩:=gI hs1
  rw [Nat.add_zero] at hr
  have goal:mV A cap l (o+x.sz) (Tr.no x).tok:=by
   by_cases hi:∃ k v,x= .is k v
   ·obtain ⟨k,v,rfl⟩:=hi
    unfold Tr.ok at hx
    simp only [Bool.and_eq_true,decide_eq_true_eq] at hx
    exact nd_no_is hl9 hx.1 hr (hs1 0 _ rfl)
   ·rw [Tr.tok_no (λk v q=>hi ⟨k,v,q⟩)]
    refine nd_no hl9 hr hna ?_ (opw hl9 hna hop ih (opc_bin x))
    rw [hop];cases x<;>first|exact absurd ⟨_,_,rfl⟩ hi|(intro q;cases q)
  show mV A cap l (o+(x.sz+1) -1) _
  rw [show o+(x.sz+1) -1=o+x.sz by omega];exact goal
 | .both x y,o,h,hs=>by
  unfold Tr.ok at h
  rw [Bool.and_eq_true] at h
  have hs0:∀ i u,(x.enc o++y.enc (o+x.sz))[i]?=some u->l[o+i]?=some u:=gJ hs
  have hs1:bE l o x:=gJ hs0
  have hs2:bE l (o+x.sz) y:=kR (Tr.enc_len x o) hs0
  have hr:=kR (k:=x.sz+y.sz) (by rw [List.length_append,Tr.enc_len,Tr.enc_len]) hs 0 _ rfl
  obtain ⟨na,hna,hop⟩:=gI hs1
  obtain ⟨nb,hnb,hopb⟩:=gI hs2
  have goal:mV A cap l (o+(x.sz+y.sz)+0) (Tr.both x y).tok:=by
   rw [Tr.tok]
   exact nd_both hl9 hr (opw hl9 hna hop (dN hl9 x o h.1 hs1) (opc_one x)) (opw hl9 hnb hopb (dN hl9 y (o+x.sz) h.2 hs2) (opc_bin y))
  show mV A cap l (o+(x.sz+y.sz+1) -1) _
  rw [show o+(x.sz+y.sz+1) -1=o+(x.sz+y.sz)+0 by omega];exact goal
 | .one x y,o,h,hs=>by
  unfold Tr.ok at h
  rw [Bool.and_eq_true] at h
  have hs0:∀ i u,(x.enc o++y.enc (o+x.sz))[i]?=some u->l[o+i]?=some u:=gJ hs
  have hs1:bE l o x:=gJ hs0
  have hs2:bE l (o+x.sz) y:=kR (Tr.enc_len x o) hs0
  have hr:=kR (k:=x.sz+y.sz) (by rw [List.length_append,Tr.enc_len,Tr.enc_len]) hs 0 _ rfl
  obtain ⟨na,hna,hop⟩:=gI hs1
  obtain ⟨nb,hnb,hopb⟩:=gI hs2
  have goal:mV A cap l (o+(x.sz+y.sz)+0) (Tr.one x y).tok:=by
   rw [Tr.tok]
   exact nd_one hl9 hr (opw hl9 hna hop (dN hl9 x o h.1 hs1) (opc_not x)) (opw hl9 hnb hopb (dN hl9 y (o+x.sz) h.2 hs2) (opc_one y))
  show mV A cap l (o+(x.sz+y.sz+1) -1) _
  rw [show o+(x.sz+y.sz+1) -1=o+(x.sz+y.sz)+0 by omega];exact goal
theorem m10Print_any (A:Option Addr)(cap:Nat)(l:List Nd)(W:World)(hv:Reads nC W W.heap.size A l)(hn:l.length<=1000)(ht:∀ n∈l,n.text.length<=1048576)(hK:MkLib W):YC 159 #[.agg #[.slice A l.length cap]] W (YR (.string (mkS (qS l))) W):=by
 refine zD Tryz.func159 (yK [] λb1=>zB 8 [0] ((l.length:Int)=0) (λh1=>z7 [] (.string (mkS [])) λw hO=>⟨by rw [List.eq_nil_of_length_eq_zero (by omega:l.length=0)];rfl,hO.below⟩) (λh1=> ?_))
 have hne:l≠[]:=λq=>h1 (by rw [q];rfl)
 refine z8 (k:=196) (args:= #[.slice A l.length cap]) (v:= .bool (wW l)) [0] (λw hO=>tree10_any A cap l w (hv.on hO.below hO.size) hne hn ht) ?_
 cases h2:wW l with
 |false=>exact z7 [] (.string (mkS [])) λw hO=>⟨by rw [print_no h2],hO.below⟩
 |true=>
  obtain ⟨t,hok,hl,hsz⟩:=treeOk_yes h2
  have hlen:l.length=t.sz:=by rw [hl,Tr.enc_len]
  have hpos:=t.sz_pos
  have hst:bE l 0 t:=hl▸stands_self t
  have htl:=mZ t
  have htx:=dH hok Om
  have hjl:(zG 32 t.tok).length<=100000:=htx
  have hnl:((0+t.sz-1:Nat):Int)=(l.length:Int) -1:=by omega
  refine zJ [0] λb2=>x_i 21 [0,1] ((l.length:Int) -1) (yN (k:=197) (args:= #[Zp b2 0,YI ((l.length:Int) -1)]) (Rr:=λv' ob'=>v'= .tuple #[]/\Wr b2 A l.length cap t.tok ob') [] [⟨b2, #[.slice A l.length cap,.slice none 0 0],237⟩,⟨b1, #[.slice A l.length cap],212⟩] [⟨b1, #[.slice A l.length cap],212⟩] [⟨b2, #[.slice A l.length cap,.slice none 0 0],237⟩] (λw hO=>hO.perm (List.Perm.swap (⟨b1, #[.slice A l.length cap],212⟩:Blk) (⟨b2, #[.slice A l.length cap,.slice none 0 0],237⟩:Blk) [])) (λw hO=> ?_) ?_)
  ·have hO':Own [] W w ([⟨b2, #[.slice A l.length cap,.slice none 0 0],237⟩]++[⟨b1, #[.slice A l.length cap],212⟩]):=hO.perm List.perm_append_comm
   rw [←hnl]
   exact (dN hn t 0 hok hst W.heap.size b2 [] [⟨b2, #[.slice A l.length cap,.slice none 0 0],237⟩] w ⟨⟨none,0,[],rfl,Sl.nil _ _⟩,Own.lent hO',λx hx=>(hO'.base x (List.mem_append_left _ hx)).elim id (λq=>absurd q (by simp)),hO'.size,hv.on hO'.below (Nat.le_refl _),MkAt.on hK hO'.below (Nat.le_refl _)⟩ (by simp;omega)).mono λe w' ⟨ob',k1,k2⟩=>⟨_,ob',k1,⟨rfl,k2.rd⟩,k2.own⟩
  rintro v3 ob3 ⟨rfl,C3,cc3,g3,rfl,hsl3⟩
  exact z8 (k:=146) (args:= #[.slice C3 t.tok.length cc3,.int .u8 32]) (v:= .string (mkS t.text)) [1] (λw hO=>d2 _ t.tok 32 w (SlT.readsT hsl3 (hO.past 2 g3) (λx hx=>hx)) Om Om (text10_ne t)) (zB 28 [] ((96:Int)<(t.text.length:Int)) (λh3=>z7 [] (.string (mkS [])) λw hO=>⟨by rw [hl,print_long hok Om],hO.below⟩) (λh3=>z7 [] (.string (mkS t.text)) λw hO=>⟨by rw [hl,print_yes hok hsz Om],hO.below⟩))
theorem m10May_any (A:Option Addr)(cap:Nat)(l:List Nd)(W:World)(hv:Reads nC W W.heap.size A l)(hn:l.length<=1000)(ht:∀ n∈l,n.text.length<=1048576)(hK:MkLib W):YC 195 #[.agg #[.slice A l.length cap]] W (YR (.bool (fH l)) W):=by
 refine zD Tryz.func195 (yK [] λb1=>zB 6 [0] ((l.length:Int)=0) (λh1=>z7 [] Z4 λw hO=>⟨by rw [List.eq_nil_of_length_eq_zero (by omega:l.length=0)];rfl,hO.below⟩) (λh1=> ?_))
 have hne:¬ l=[]:=λq=>h1 (by rw [q];rfl)
 exact z8 (k:=159) (args:= #[.agg #[.slice A l.length cap]]) (v:= .string (mkS (qS l))) [0] (λw hO=>m10Print_any A cap l w (hv.on hO.below hO.size) hn ht (hK.on hO.below)) (gA 10 [] (qS l) [] (λh2=>z7 [] Z5 λw hO=>⟨by rw [may_print hne,decide_eq_true h2];rfl,hO.below⟩) (λh2=>z7 [] Z4 λw hO=>⟨by rw [may_print hne,decide_eq_false h2];rfl,hO.below⟩))
end
section
set_option linter.unnecessarySimpa false
def padV (xs:List Int)(n:Nat):List Int:=xs++List.replicate (n-xs.length) 0
end
section
set_option linter.unnecessarySimpa false
def ReadsA {α:Type}(M:List Nat)(g:α->List Value)(W:World)(A:Option Addr)(l:List α):Prop:=
 0<l.length→∃ b off,A=some ⟨b,off,none⟩/\b<W.heap.size/\b∉M∧∀ k u,(l.flatMap g)[k]?=some u->W.cell? ⟨b,off+k,none⟩=some u
theorem cell_heap {w W:World}{b k:Nat}(h:w.heap[b]?=W.heap[b]?):w.cell? ⟨b,k,none⟩=W.cell? ⟨b,k,none⟩:=by unfold World.cell?;simp only [h]
theorem ReadsA.at {α:Type}{M:List Nat}{g:α->List Value}{W w:World}{A:Option Addr}{l:List α}{L:List Blk}(h:ReadsA M g W A l)(hO:Own M W w L):Reads g w w.heap.size A l:=λh0=>by
 obtain ⟨b,off,e,hlt,hm,hc⟩:=h h0
 exact ⟨b,off,e,Nat.lt_of_lt_of_le hlt hO.size,λk u hk=>by rw [cell_heap (hO.kept b hlt hm)];exact hc k u hk⟩
structure LentN (b:Nat)(A V:Option Addr)(l:List Nd)(vs:List Int)(nd:List Nd)(ob:List Blk)(W:World):Prop where
 rd:Nb b nd ob
 own:Own (ob.map Blk.b) W W ob
 nodes:ReadsA (ob.map Blk.b) nC W A l
 vals:ReadsA (ob.map Blk.b) zC W V vs
structure BackN (b:Nat)(nd:List Nd)(ob ob':List Blk)(W w':World):Prop where
 rd:Nb b nd ob'
 own:Own (ob.map Blk.b) W w' ob'
end
section
set_option linter.unnecessarySimpa false
theorem rnotL {B b:Nat}{ts:List Tok}{nd:List Nd}{bad:Bool}{ob:List Blk}{W:World}(hL:LentL B b ts nd bad ob W):YC 268 #[.pointer (some ⟨b,0,none⟩)] W λe w'=>∃ ob',e= .returned (.tuple #[])/\BackL B b ts (nd++[⟨2,(nd.length:Int) -1,0,0,[]⟩]) bad ob ob' W w':=by
 obtain ⟨A,cap,hw,hcap,hb⟩:=hL.rd
 exact (rnot10_any hb hL.own (by have:=hL.small;omega)).mono λe w' ⟨ob',k1,k2,k3⟩=>⟨ob',k1,⟨A,cap,hw,hcap,k2⟩,k3,hL.short,texts_add hL.texts (by simp)⟩
theorem rjoinL {B b:Nat}{ts:List Tok}{nd:List Nd}{bad:Bool}{ob:List Blk}{W:World}(hL:LentL B b ts nd bad ob W)(op a:Int):YC 254 #[.pointer (some ⟨b,0,none⟩),YI op,YI a] W λe w'=>∃ ob',e= .returned (.tuple #[])/\BackL B b ts (nd++[⟨op,a,(nd.length:Int) -1,0,[]⟩]) bad ob ob' W w':=by
 obtain ⟨A,cap,hw,hcap,hb⟩:=hL.rd
 exact (rjoin10_any hb hL.own (by have:=hL.small;omega) op a).mono λe w' ⟨ob',k1,k2,k3⟩=>⟨ob',k1,⟨A,cap,hw,hcap,k2⟩,k3,hL.short,texts_add hL.texts (by simp)⟩
structure ChainL (n:Nat)(word:Tok)(op:Int)(k:FuncId)(part:List Tok->Option (Tr×List Tok)):Prop where
 go:∀ {B b:Nat} {ts:List Tok} {nd:List Nd} {bad:Bool} {ob:List Blk} {W:World},LentL B b ts nd bad ob W->ts.length<=n→
  YC 227 #[.pointer (some ⟨b,0,none⟩),.string (mkS word),YI op,.func (.func k) #[] #[]] W λe w'=>∃ ts' nd' bad' ob',e= .returned (.tuple #[])/\BackL B b ts' nd' bad' ob ob' W w'/\GotL part ts nd bad ts' nd' bad'
theorem x_rdL {k:FuncId}{args:Array Value}{Rv:Value->List Tok->List Nd->Bool->Prop}{B b:Nat}{ts tq:List Tok}{nd nq:List Nd}{bad bq:Bool}{ob oq:List Blk}{W:World}{Q:Exit->Act->World->Prop}{n:Nat}{c:Xc}(hL:LentL B b ts nd bad ob W)(h:List Nat)(hR:Rdr W B b tq nq bq oq)(hX:((∀ y∈tq,y.length<=1048576)∧∀ u∈nq,u.text.length<=1048576))(hs:nq.length+tq.length<=10000)
  (hc:∀ w,LentL B b tq nq bq oq w->Calls YP k args w λe w'=>∃ v ts' nd' bad' ob',e= .returned v/\Rv v ts' nd' bad'/\BackL B b ts' nd' bad' oq ob' w w')
  (hg:∀ v ts' nd' bad' ob',Rv v ts' nd' bad'->Rdr W B b ts' nd' bad' ob'->((∀ y∈ts',y.length<=1048576)∧∀ u∈nd',u.text.length<=1048576)->zF (ob.map Blk.b) YP n W Q (xNx (xgo YP n nS h c) ob' v)) (hkt:(xgl YP n nS h c,(xgo YP n nS h c).L,(xgo YP n nS h c).top,zU (xA (xgo YP n nS h c)) n (xgo YP n nS h c).f (xO (xgo YP n nS h c)),mB YP n (xgo YP n nS h c))=(xgr YP n nS h c,oq,.ops (xA (xgo YP n nS h c)) (xO (xgo YP n nS h c)::xT (xgo YP n nS h c)),true,λw=> .ok (.enter k args) w):=by kernel_rfl):zF (ob.map Blk.b) YP n W Q c:=
 yN (Rr:=λv ob'=>∃ ts' nd' bad',Rv v ts' nd' bad'/\Rdr W B b ts' nd' bad' ob'/\((∀ y∈ts',y.length<=1048576)∧∀ u∈nd',u.text.length<=1048576)) h oq [] oq (λw hO=>hO) (λw hO=>have hO':Own _ W w (oq++[]):=Own.cast hO (List.append_nil _).symm;(hc w (hL.at hR hX hs hO')).mono λe w' ⟨v,ts',nd',bad',ob',k1,k2,k3⟩=>⟨v,ob',k1,⟨ts',nd',bad',k2,k3.rd.back (hO'.belowB (qC hL.ge) hL.le),k3.short,k3.texts⟩,k3.own⟩) (λv ob' ⟨ts',nd',bad',k2,k3,k4⟩=>hg v ts' nd' bad' ob' k2 k3 k4) hkt
theorem pS {k:FuncId}{m:Nat}{part:List Tok->Option (Tr×List Tok)}(hp:pP k m part){B b:Nat}{ts tq:List Tok}{nd nq:List Nd}{bad bq:Bool}{ob oq:List Blk}{W:World}{Q:Exit->Act->World->Prop}{n:Nat}{c:Xc}(hL:LentL B b ts nd bad ob W)(h:List Nat)(hR:Rdr W B b tq nq bq oq)(hX:((∀ y∈tq,y.length<=1048576)∧∀ u∈nq,u.text.length<=1048576))(hs:nq.length+tq.length<=10000)(hm:tq.length<=m)
  (hg:∀ ts' nd' bad' ob',Rdr W B b ts' nd' bad' ob'->((∀ y∈ts',y.length<=1048576)∧∀ u∈nd',u.text.length<=1048576)->GotL part tq nq bq ts' nd' bad'->zF (ob.map Blk.b) YP n W Q (xNx (xgo YP n nS h c) ob' (.tuple #[]))) (hkt:(xgl YP n nS h c,(xgo YP n nS h c).L,(xgo YP n nS h c).top,zU (xA (xgo YP n nS h c)) n (xgo YP n nS h c).f (xO (xgo YP n nS h c)),mB YP n (xgo YP n nS h c))=(xgr YP n nS h c,oq,.ops (xA (xgo YP n nS h c)) (xO (xgo YP n nS h c)::xT (xgo YP n nS h c)),true,λw=> .ok (.enter k #[.pointer (some ⟨b,0,none⟩)]) w):=by kernel_rfl):zF (ob.map Blk.b) YP n W Q c:=
 x_rdL (Rv:=λv ts' nd' bad'=>v= .tuple #[]/\GotL part tq nq bq ts' nd' bad') hL h hR hX hs (λw hl=>(hp.go hl hm).mono λe w' ⟨ts',nd',bad',ob',k1,k2,k3⟩=>⟨_,ts',nd',bad',ob',k1,⟨rfl,k3⟩,k2⟩) (λv ts' nd' bad' ob' ⟨e,k3⟩ k2 k4=>by subst e;exact hg ts' nd' bad' ob' k2 k4 k3) hkt
theorem x_skipL {B b:Nat}{ts tq:List Tok}{nd nq:List Nd}{bad bq:Bool}{ob oq:List Blk}{W:World}{Q:Exit->Act->World->Prop}{n:Nat}{c:Xc}(hL:LentL B b ts nd bad ob W)(h:List Nat)(x:Tok)(hR:Rdr W B b tq nq bq oq)(hX:((∀ y∈tq,y.length<=1048576)∧∀ u∈nq,u.text.length<=1048576))(hs:nq.length+tq.length<=10000)
  (hg:∀ ob',Rdr W B b (wI x tq) nq bq ob'->((∀ y∈(wI x tq),y.length<=1048576)∧∀ u∈nq,u.text.length<=1048576)->zF (ob.map Blk.b) YP n W Q (xNx (xgo YP n nS h c) ob' (.bool (kI x tq)))) (hkt:(xgl YP n nS h c,(xgo YP n nS h c).L,(xgo YP n nS h c).top,zU (xA (xgo YP n nS h c)) n (xgo YP n nS h c).f (xO (xgo YP n nS h c)),mB YP n (xgo YP n nS h c))=(xgr YP n nS h c,oq,.ops (xA (xgo YP n nS h c)) (xO (xgo YP n nS h c)::xT (xgo YP n nS h c)),true,λw=> .ok (.enter 252 #[.pointer (some ⟨b,0,none⟩),.string (mkS x)]) w):=by kernel_rfl):zF (ob.map Blk.b) YP n W Q c:=
 x_rdL (Rv:=λv ts' nd' bad'=>v= .bool (kI x tq)/\ts'=wI x tq/\nd'=nq/\bad'=bq) hL h hR hX hs (λw hl=>(skip10_any hl x).mono λe w' ⟨ob',k1,k2⟩=>⟨_,_,_,_,ob',k1,⟨rfl,rfl,rfl,rfl⟩,k2⟩) (λv ts' nd' bad' ob' ⟨e1,e2,e3,e4⟩ k2 k4=>by subst e1;subst e2;subst e3;subst e4;exact hg ob' k2 k4) hkt
theorem x_notL {B b:Nat}{ts tq:List Tok}{nd nq:List Nd}{bad bq:Bool}{ob oq:List Blk}{W:World}{Q:Exit->Act->World->Prop}{n:Nat}{c:Xc}(hL:LentL B b ts nd bad ob W)(h:List Nat)(hR:Rdr W B b tq nq bq oq)(hX:((∀ y∈tq,y.length<=1048576)∧∀ u∈nq,u.text.length<=1048576))(hs:nq.length+tq.length<=10000)
  (hg:∀ ob',Rdr W B b tq (nq++[⟨2,(nq.length:Int) -1,0,0,[]⟩]) bq ob'->((∀ y∈tq,y.length<=1048576)∧∀ u∈(nq++[⟨2,(nq.length:Int) -1,0,0,[]⟩]),u.text.length<=1048576)->zF (ob.map Blk.b) YP n W Q (xNx (xgo YP n nS h c) ob' (.tuple #[]))) (hkt:(xgl YP n nS h c,(xgo YP n nS h c).L,(xgo YP n nS h c).top,zU (xA (xgo YP n nS h c)) n (xgo YP n nS h c).f (xO (xgo YP n nS h c)),mB YP n (xgo YP n nS h c))=(xgr YP n nS h c,oq,.ops (xA (xgo YP n nS h c)) (xO (xgo YP n nS h c)::xT (xgo YP n nS h c)),true,λw=> .ok (.enter 268 #[.pointer (some ⟨b,0,none⟩)]) w):=by kernel_rfl):zF (ob.map Blk.b) YP n W Q c:=
 x_rdL (Rv:=λv ts' nd' bad'=>v= .tuple #[]/\ts'=tq/\nd'=nq++[⟨2,(nq.length:Int) -1,0,0,[]⟩]/\bad'=bq) hL h hR hX hs (λw hl=>(rnotL hl).mono λe w' ⟨ob',k1,k2⟩=>⟨_,_,_,_,ob',k1,⟨rfl,rfl,rfl,rfl⟩,k2⟩) (λv ts' nd' bad' ob' ⟨e1,e2,e3,e4⟩ k2 k4=>by subst e1;subst e2;subst e3;subst e4;exact hg ob' k2 k4) hkt
theorem x_jnL {B b:Nat}{ts tq:List Tok}{nd nq:List Nd}{bad bq:Bool}{ob oq:List Blk}{W:World}{Q:Exit->Act->World->Prop}{n:Nat}{c:Xc}(hL:LentL B b ts nd bad ob W)(h:List Nat)(op a:Int)(hR:Rdr W B b tq nq bq oq)(hX:((∀ y∈tq,y.length<=1048576)∧∀ u∈nq,u.text.length<=1048576))(hs:nq.length+tq.length<=10000)
  (hg:∀ ob',Rdr W B b tq (nq++[⟨op,a,(nq.length:Int) -1,0,[]⟩]) bq ob'->((∀ y∈tq,y.length<=1048576)∧∀ u∈(nq++[⟨op,a,(nq.length:Int) -1,0,[]⟩]),u.text.length<=1048576)->zF (ob.map Blk.b) YP n W Q (xNx (xgo YP n nS h c) ob' (.tuple #[]))) (hkt:(xgl YP n nS h c,(xgo YP n nS h c).L,(xgo YP n nS h c).top,zU (xA (xgo YP n nS h c)) n (xgo YP n nS h c).f (xO (xgo YP n nS h c)),mB YP n (xgo YP n nS h c))=(xgr YP n nS h c,oq,.ops (xA (xgo YP n nS h c)) (xO (xgo YP n nS h c)::xT (xgo YP n nS h c)),true,λw=> .ok (.enter 254 #[.pointer (some ⟨b,0,none⟩),YI op,YI a]) w):=by kernel_rfl):zF (ob.map Blk.b) YP n W Q c:=
 x_rdL (Rv:=λv ts' nd' bad'=>v= .tuple #[]/\ts'=tq/\nd'=nq++[⟨op,a,(nq.length:Int) -1,0,[]⟩]/\bad'=bq) hL h hR hX hs (λw hl=>(rjoinL hl op a).mono λe w' ⟨ob',k1,k2⟩=>⟨_,_,_,_,ob',k1,⟨rfl,rfl,rfl,rfl⟩,k2⟩) (λv ts' nd' bad' ob' ⟨e1,e2,e3,e4⟩ k2 k4=>by subst e1;subst e2;subst e3;subst e4;exact hg ob' k2 k4) hkt
theorem chain_tAnd (n:Nat)(hp:pP 255 n (vH n)):ChainL n d9 3 255 (pAnd n):=by
 refine ⟨λ{B b ts nd bad ob W} hL hln=> ?_⟩
 have hsm:=hL.small
 refine zN hL.own Tryz.func227 (pS hp hL [] hL.rd ⟨hL.short,hL.texts⟩ hsm hln λts1 nd1 bd1 ob1 hR1 hX1 hG1=> ?_)
 refine zM (α:=List Tok×List Nd×Bool×List Blk) (λ_=>[(0,Zp b 0),(1,.string (mkS d9)),(2,YI 3),(3,.func (.func 255) #[] #[])]) (λ(_,_,_,oq)=>oq) (λ(tq,nq,bq,oq) m=>(ChL (vH n) d9 .both ts nd bad tq nq bq/\Rdr W B b tq nq bq oq/\((∀ y∈tq,y.length<=1048576)∧∀ u∈nq,u.text.length<=1048576)/\nq.length+tq.length<=10000)/\m=tq.length) (ts1,nd1,bd1,ob1) ts1.length [] ⟨⟨cl_start hG1,hR1,hX1,Nat.le_trans hG1.1 hsm⟩,rfl⟩ ?_
 rintro ⟨tq,nq,bq,oq⟩ m g kk ⟨⟨hch,hRq,hXq,hsq⟩,hmm⟩ nx hkk
 subst hkk
 refine x_skipL hL [] d9 hRq hXq hsq λob2 hR2 hX2=> ?_
 cases h1:kI d9 tq with
 |true=>
  obtain ⟨r,htq,hnr⟩:=qT h1
  have htl:tq.length=r.length+1:=by rw [htq];rfl
  have hnl9:=congrArg List.length hnr
  have h21:=hch.2.1
  refine z8 (k:=253) (args:= #[Zp b 0]) (v:=YI ((nq.length:Int) -1)) [] (λw hO=>rlast10 hR2 (hO.past 0 ob2) (λx hx=>hx) Om) (pS hp hL [] hR2 hX2 Om Om λts3 nd3 bd3 ob3 hR3 hX3 hG3=> ?_)
  have h31:=hG3.1
  have h32:=hG3.2.1
  exact x_jnL hL [] 3 ((nq.length:Int) -1) hR3 hX3 Om λob4 hR4 hX4=>nx (ts3,nd3++[⟨3,(nq.length:Int) -1,(nd3.length:Int) -1,0,[]⟩],bd3,ob4) ts3.length [] Om ⟨⟨cl_step (pFac_eats n) mk_both hch htq (hnr▸hG3),hR4,hX4,by rw [List.length_append,List.length_singleton];omega⟩,rfl⟩ Kr Kr
 |false=>
  have hno:=(jA (of_decide_eq_false h1)).2
  exact kC [] λw hO=>⟨tq,nq,bq,ob2,rfl,⟨hno▸hR2,hO.past 0 ob2,hXq.1,hXq.2⟩,cl_stop hch h1⟩
theorem chain_tOr (n:Nat)(hp:pP 228 n (pAnd n)):ChainL n tOr 4 228 (pOr n):=by
 refine ⟨λ{B b ts nd bad ob W} hL hln=> ?_⟩
 have hsm:=hL.small
 refine zN hL.own Tryz.func227 (pS hp hL [] hL.rd ⟨hL.short,hL.texts⟩ hsm hln λts1 nd1 bd1 ob1 hR1 hX1 hG1=> ?_)
 refine zM (α:=List Tok×List Nd×Bool×List Blk) (λ_=>[(0,Zp b 0),(1,.string (mkS tOr)),(2,YI 4),(3,.func (.func 228) #[] #[])]) (λ(_,_,_,oq)=>oq) (λ(tq,nq,bq,oq) m=>(ChL (pAnd n) tOr .one ts nd bad tq nq bq/\Rdr W B b tq nq bq oq/\((∀ y∈tq,y.length<=1048576)∧∀ u∈nq,u.text.length<=1048576)/\nq.length+tq.length<=10000)/\m=tq.length) (ts1,nd1,bd1,ob1) ts1.length [] ⟨⟨cl_start hG1,hR1,hX1,Nat.le_trans hG1.1 hsm⟩,rfl⟩ ?_
 rintro ⟨tq,nq,bq,oq⟩ m g kk ⟨⟨hch,hRq,hXq,hsq⟩,hmm⟩ nx hkk
 subst hkk
 refine x_skipL hL [] tOr hRq hXq hsq λob2 hR2 hX2=> ?_
 cases h1:kI tOr tq with
 |true=>
  obtain ⟨r,htq,hnr⟩:=qT h1
  have htl:tq.length=r.length+1:=by rw [htq];rfl
  have hnl9:=congrArg List.length hnr
  have h21:=hch.2.1
  refine z8 (k:=253) (args:= #[Zp b 0]) (v:=YI ((nq.length:Int) -1)) [] (λw hO=>rlast10 hR2 (hO.past 0 ob2) (λx hx=>hx) Om) (pS hp hL [] hR2 hX2 Om Om λts3 nd3 bd3 ob3 hR3 hX3 hG3=> ?_)
  have h31:=hG3.1
  have h32:=hG3.2.1
  exact x_jnL hL [] 4 ((nq.length:Int) -1) hR3 hX3 Om λob4 hR4 hX4=>nx (ts3,nd3++[⟨4,(nq.length:Int) -1,(nd3.length:Int) -1,0,[]⟩],bd3,ob4) ts3.length [] Om ⟨⟨cl_step (pAnd_eats n) mk_one hch htq (hnr▸hG3),hR4,hX4,by rw [List.length_append,List.length_singleton];omega⟩,rfl⟩ Kr Kr
 |false=>
  have hno:=(jA (of_decide_eq_false h1)).2
  exact kC [] λw hO=>⟨tq,nq,bq,ob2,rfl,⟨hno▸hR2,hO.past 0 ob2,hXq.1,hXq.2⟩,cl_stop hch h1⟩
theorem product10_any (n:Nat)(hp:pP 255 n (vH n)):pP 228 n (pAnd n):=by
 refine ⟨λ{B b ts nd bad ob W} hL hln=> ?_⟩
 have hsm:=hL.small
 exact zN hL.own Tryz.func228 (x_rdL (k:=227) (args:= #[Zp b 0,.string (mkS d9),YI 3,.func (.func 255) #[] #[]]) (Rv:=λv ts' nd' bad'=>v= .tuple #[]/\GotL (pAnd n) ts nd bad ts' nd' bad') hL [] hL.rd ⟨hL.short,hL.texts⟩ hsm (λw hl=>((chain_tAnd n hp).go hl hln).mono λe w' ⟨ts',nd',bad',ob',k1,k2,k3⟩=>⟨_,ts',nd',bad',ob',k1,⟨rfl,k3⟩,k2⟩) λv ts' nd' bad' ob' hv hR hX=>kC [] λw hO=>⟨ts',nd',bad',ob',rfl,⟨hR,hO.past 0 ob',hX.1,hX.2⟩,hv.2⟩)
theorem pK (n:Nat)(hp:pP 228 n (pAnd n)):pP 194 n (pOr n):=by
 refine ⟨λ{B b ts nd bad ob W} hL hln=> ?_⟩
 have hsm:=hL.small
 exact zN hL.own Tryz.func194 (x_rdL (k:=227) (args:= #[Zp b 0,.string (mkS tOr),YI 4,.func (.func 228) #[] #[]]) (Rv:=λv ts' nd' bad'=>v= .tuple #[]/\GotL (pOr n) ts nd bad ts' nd' bad') hL [] hL.rd ⟨hL.short,hL.texts⟩ hsm (λw hl=>((chain_tOr n hp).go hl hln).mono λe w' ⟨ts',nd',bad',ob',k1,k2,k3⟩=>⟨_,ts',nd',bad',ob',k1,⟨rfl,k3⟩,k2⟩) λv ts' nd' bad' ob' hv hR hX=>kC [] λw hO=>⟨ts',nd',bad',ob',rfl,⟨hR,hO.past 0 ob',hX.1,hX.2⟩,hv.2⟩)
theorem operand_step (n:Nat)(hf:∀ k,k+1=n->pP 255 k (vH k))(he:∀ k,k+1=n->pP 194 k (pOr k)):pP 255 n (vH n):=by
 refine ⟨λ{B b ts nd bad ob W} hL hln=> ?_⟩
 have hsm:=hL.small
 refine zN hL.own Tryz.func255 (x_skipL hL [] qY hL.rd ⟨hL.short,hL.texts⟩ hsm λob1 hR1 hX1=> ?_)
 cases h1:kI qY ts with
 |true=>
  obtain ⟨r,htq,hnr⟩:=qT h1
  have htl:ts.length=r.length+1:=by rw [htq];rfl
  have hnl9:=congrArg List.length hnr
  obtain ⟨k,rfl⟩:∃ k,n=k+1:=⟨n-1,by omega⟩
  refine pS (hf k rfl) hL [] hR1 hX1 Om Om λts2 nd2 bd2 ob2 hR2 hX2 hG2=> ?_
  have h21:=hG2.1
  exact x_notL hL [] hR2 hX2 Om λob3 hR3 hX3=>kC [] λw hO=>⟨_,_,_,ob3,rfl,⟨hR3,hO.past 0 ob3,hX3.1,hX3.2⟩,gl_not htq (hnr▸hG2)⟩
 |false=>
  rw [(jA (of_decide_eq_false h1)).2] at hR1 hX1
  refine x_skipL hL [] x8 hR1 hX1 hsm λob2 hR2 hX2=> ?_
  cases h2:kI x8 ts with
  |true=>
   obtain ⟨r,htq,hnr⟩:=qT h2
   have htl:ts.length=r.length+1:=by rw [htq];rfl
   have hnl9:=congrArg List.length hnr
   obtain ⟨k,rfl⟩:∃ k,n=k+1:=⟨n-1,by omega⟩
   refine pS (he k rfl) hL [] hR2 hX2 Om Om λts3 nd3 bd3 ob3 hR3 hX3 hG3=> ?_
   have h31:=hG3.1
   refine x_skipL hL [] xB hR3 hX3 Om λob4 hR4 hX4=> ?_
   obtain ⟨A9,cap9,hw9,hcap9,C9,c9,g9,rfl,hsl9⟩:=hR4
   cases h3:kI xB ts3 with
   |true=>exact kC [] λw hO=>⟨_,_,_,⟨b, #[.slice C9 nd3.length c9,.slice A9 (wI xB ts3).length cap9,.bool bd3],233⟩::g9,rfl,⟨⟨A9,cap9,hw9,hcap9,C9,c9,g9,rfl,hsl9⟩,hO.past 0 _,hX4.1,hX4.2⟩,gl_open htq (hnr▸hG3) h3⟩
   |false=>exact kC [0] λw hO=>⟨_,_,true,⟨b, #[.slice C9 nd3.length c9,.slice A9 (wI xB ts3).length cap9,.bool true],233⟩::g9,rfl,⟨⟨A9,cap9,hw9,hcap9,C9,c9,g9,rfl,hsl9⟩,hO.past 0 _,hX4.1,hX4.2⟩,by rw [(jA (of_decide_eq_false h3)).2];exact gl_unclosed htq (hnr▸hG3) h3⟩
  |false=>
   rw [(jA (of_decide_eq_false h2)).2] at hR2 hX2
   exact pS (comparison10_any n) hL [] hR2 hX2 hsm hln λts3 nd3 bd3 ob3 hR3 hX3 hG3=>kC [] λw hO=>⟨_,_,_,ob3,rfl,⟨hR3,hO.past 0 ob3,hX3.1,hX3.2⟩,gl_atom h1 h2 hln hG3⟩
theorem operand10_any:∀ n,pP 255 n (vH n)
 |0=>operand_step 0 (λk h=>absurd h Om) (λk h=>absurd h Om)
 |n+1=>by
  have ih:=operand10_any n
  refine operand_step (n+1) (λk h=> ?_) (λk h=> ?_)
  ·obtain rfl:k=n:=by omega
   exact ih
  ·obtain rfl:k=n:=by omega
   exact pK k (product10_any k ih)
theorem expressionP (n:Nat):pP 194 n (pOr n):=pK n (product10_any n (operand10_any n))
end
section
theorem below_moved {B:Nat}{a w:World}(h:Below B a w){k:Nat}(hk:B<=k)(s:ByteArray)(pos:Nat):Below B a (w.iterAt k s pos):=
 h.trans ⟨rfl,rfl,rfl,by rw [Lib.iterAt_size];exact Nat.le_refl _,Nat.le_refl _,λi hi=>Lib.iterAt_other w k i s pos Om⟩
theorem piece_any (s:ByteArray)(f k:Nat)(w:World)(hs:s.size<=1048576)(hfk:f<=k)(hk:k<=s.size):
  YC 226 #[.string s,YI f,YI k] w (YR (.string (s.extract f k)) w):=by
 have hz:(s.extract f k).size<=281474976710656:=by
  rw [ByteArray.size_extract];omega
 go_enter Tryz.func226,Tryz.ntmps226
 go_wp2_with (go_at_call 31;refine (pO _ _ hz).mono ?_;rintro e w' ⟨rfl,hb⟩)
 go_ret
 exact ⟨rfl,hb⟩
theorem width_any (t:ByteArray)(r n:Nat)(hne:t.data.toList≠[])(hd:Lib.decodeL t.data.toList=(r,n))(w:World):
  YC 225 #[.string t,.int .i32 r] w λe w'=>e= .returned (YI n)/\w=w':=by
 have HD:=Lib.hid hd
 clear hd
 have HNE:=Lib.hid hne
 clear hne
 by_cases h:r=65533
 ·by_cases hp:Lib.hasPrefix t.data.toList [239,191,189]=true
  ·have HP:=Lib.hid hp
   clear hp
   have hb:((r:Int)==65533)=true:=by simp [h]
   have HR:=Lib.hid h
   clear h
   go_enter Tryz.func225,Tryz.ntmps225
   go_wp2_with (first|(go_at_call 250;refine (Tryz.strings_HasPrefix t ⟨#[239,191,189]⟩ _).mono ?_;rw [HP.out];rintro e w' ⟨rfl,rfl⟩)|(go_at_call 251;refine (Tryz.utf8_RuneLen _ _).mono ?_;rintro e w' ⟨rfl,rfl⟩))
   go_ret
   refine ⟨ret_int ?_,rfl⟩
   have h3:=wide_err _ HP.out
   rw [HD.out] at h3
   rw [HR.out,show n=3 from h3]
   decide
  ·have HP:=Lib.hid (Bool.eq_false_iff.2 hp)
   clear hp
   have hb:((r:Int)==65533)=true:=by simp [h]
   have HR:=Lib.hid h
   clear h
   go_enter Tryz.func225,Tryz.ntmps225
   go_wp2_with (go_at_call 250;refine (Tryz.strings_HasPrefix t ⟨#[239,191,189]⟩ _).mono ?_;rw [HP.out];rintro e w' ⟨rfl,rfl⟩)
   go_ret
   refine ⟨ret_int ?_,rfl⟩
   have h1:=wide_bad _ HNE.out (by rw [HD.out];exact HR.out) HP.out
   rw [HD.out] at h1
   rw [show n=1 from h1]
   rfl
 ·have hb:((r:Int)==65533)=false:=wR Om
  go_enter Tryz.func225,Tryz.ntmps225
  go_wp2_with (go_at_call 251;refine (Tryz.utf8_RuneLen _ _).mono ?_;rintro e w' ⟨rfl,rfl⟩)
  go_ret
  refine ⟨ret_int ?_,rfl⟩
  have h2:=wide_other t.data.toList (by rw [HD.out];exact h)
  rw [HD.out] at h2
  exact h2
theorem split_any (s:ByteArray)(b:UInt8)(w:World)(hs:s.size<=1048576):
  YC 193 #[.string s,.int .u8 b.toNat] w λe w'=>∃ v,e= .returned v/\w'.ownsRow w.heap.size 9 1 v (vE s b).length (jD (vE s b))/\YB w w':=by
 obtain ⟨i0,hi,hz0,hz1,hz2⟩:=info_parts infoStr
 go_enter Tryz.func193,Tryz.ntmps193
 go_wp2
 go_loopw [5,6] (λv fv wr=>∃ (pos f:Nat) (P:List YL),fv=YI f/\f<=pos/\pos<=s.size/\P.length<=pos/\wr.heap[w.heap.size]?=some (.stringIter s pos)/\wr.ownsRow w.heap.size 9 1 v P.length (jD P)/\YB w wr/\Hid (P++zE b ((s.data.toList.drop f).take (pos-f)) (s.data.toList.drop pos)=vE s b)) (λ_ _ wr=>s.size-wr.iterPos w.heap.size)
 case atStart=>exact ⟨0,0,[],rfl,Nat.le_refl _,Nat.zero_le _,Nat.zero_le _,World.iter_heap _ _ _,⟨rfl,Or.inl ⟨rfl,rfl⟩⟩,yC _ _ _,rfl⟩
 case round=>
  obtain ⟨pos,f,P,rfl,hfp,hple,hP,hit,hown,hb,HR⟩:=hrel
  have hsz:=hb.size
  by_cases hp:pos<s.size
  ·obtain ⟨r,n,hdec⟩:∃ r n,Utf8.decode s pos=(r,n):=⟨_,_,rfl⟩
   have hnx:∀ ty,(Instr.next (.pointer (some ⟨w.heap.size,0,none⟩)) true ty).run YP wr=_:=λty=>Lib.run_next_any_at wr w.heap.size s pos ty hit hp
   rw [hdec] at hnx
   have hn1:1<=n:=by
    by_cases ha:(s[pos]'hp).toNat<128
    ·have:=decode_ascii s pos hp ha
     rw [hdec] at this
     have:n=1:=congrArg Prod.snd this
     omega
    ·have:=(decode_high s pos hp Om).2
     rw [hdec] at this
     exact this
   have hdl:Lib.decodeL (s.extract pos s.size).data.toList=(r,n):=by rw [Lib.extract_to_end,Lib.decodeL_drop,hdec]
   have hne:(s.extract pos s.size).data.toList≠[]:=by
    rw [Lib.extract_to_end];intro h;have:=congrArg List.length h;simp at this;omega
   have hnle:pos+n<=s.size:=by
    have:=Lib.decodeL_le _ hne
    rw [hdl,Lib.extract_to_end] at this
    simp at this;omega
   have HDL:=Lib.hid hdl
   have HNE:=Lib.hid hne
   have HIT:=Lib.hid hit
   have hown1:=ownsRow_iterAt hown hit (pos+n)
   have hit1:=Lib.iterAt_heap wr w.heap.size s pos (pos+n) hit
   have hb1:Below w.heap.size w (wr.iterAt w.heap.size s (pos+n)):=below_moved hb (Nat.le_refl _) s (pos+n)
   have HIT1:=Lib.hid hit1
   clear hdl hne hdec hit1
   obtain ⟨wo,rfl⟩:∃ wo:World,wo=wr:=⟨_,rfl⟩
   go_wp2_with (go_at_call 225;refine (width_any _ r n HNE.out HDL.out _).mono ?_;rintro e w' ⟨rfl,rfl⟩)
   go_loopw [5,6,10] (λv fv iv wi=>∃ (k f:Nat) (P:List YL),iv=YI k/\fv=YI f/\f<=k/\pos<=k/\k<=pos+n/\P.length<=k/\wi.heap[w.heap.size]?=some (.stringIter s (pos+n))/\wi.ownsRow w.heap.size 9 1 v P.length (jD P)/\YB w wi/\Hid (P++zE b ((s.data.toList.drop f).take (k-f)) (s.data.toList.drop k)=vE s b)) (λ_ _ iv _=>pos+n-(intOf iv).toNat)
   case atStart=>exact ⟨pos,f,P,rfl,rfl,hfp,Nat.le_refl _,by omega,hP,HIT1.out,hown1,hb1,HR⟩
   case round=>
    clear HR hown hb hit hsz hnx hown1 hb1
    obtain ⟨k,f2,P2,rfl,rfl,hfk,hpk,hkn,hP2,hit2,hown2,hb2,HR2⟩:=hrel
    have hsz2:=hb2.size
    have HIT2:=Lib.hid hit2
    clear hit2
    by_cases hlt:k<pos+n
    ·have hks:k<s.size:=by omega
     have HD:=Lib.hid (qI s k hks)
     by_cases hc:s[k]=b
     ·have HC:=Lib.hid hc
      have hcb:((s[k].toNat:Int)==(b.toNat:Int))=true:=by rw [hc];simp
      clear hc
      go_wp2_with (go_at_call 226;refine (piece_any s f2 k _ hs hfk Om).mono ?_)
      rintro e w3 ⟨rfl,hb3⟩
      have hown3:=nI hown2 hb3
      have hsz3:=hb3.size
      have hb4:YB w w3:=hb2.trans (hb3.mono hsz2)
      have HIT3:=Lib.hid (iter_below HIT2.out hb3)
      go_wp2_with (at_builtin;refine kY _ rfl _ _ 66 rfl w.heap.size 9 i0 (.string ByteArray.empty) 1 16 Tryz.underlying66 hi hz0 hz1 hz2 rfl (by decide) _ _ _ rfl (hown3.alloc _) ⟨w3.heap.size,0,none⟩ 1 1 [.string (s.extract f2 k)] rfl rfl ?c1 ?c2 ?c3 ?c4 ?c5 ?_)
      case c1=>
       intro j u hj
       match j,hj with
       |0,hj=>simp at hj;subst hj;simp [Addr.add]
      case c2=>intro u hu;simp at hu;subst hu;rfl
      case c3=>unfold maxLen;omega
      case c4=>omega
      case c5=>simp;omega
      intro v' w5 hown' hgrow _
      go_wp2
      go_roundw
      case rel=>
       refine ⟨k+1,k+1,P2++[(s.data.toList.drop f2).take (k-f2)],by go_num,by go_num,Nat.le_refl _,by omega,by omega,by simp;omega, ?_, ?_,(hb4.alloc (by omega) _).grown hgrow (by simp;omega) (λk hk=>(hown3.lt k hk).1), ?_⟩
       ·have ha:(w3.alloc (.cells #[.string (s.extract f2 k)] 9)).heap[w.heap.size]?=some (.stringIter s (pos+n)):=by
         rw [Below.heap_alloc _ _ _ (Array.getElem?_eq_some_iff.1 HIT3.out).1];exact HIT3.out
        rw [hgrow.1.block _ (Array.getElem?_eq_some_iff.1 ha).1 (ownsRow_ne (hown3.alloc _) ha)]
        exact ha
       ·rw [nU,←bB,List.length_append];exact hown'
       ·show _=_
        rw [←HR2.out,HD.out,split_hit _ _ _ _ HC.out,List.append_assoc,Nat.sub_self,List.take_zero];rfl
      case measure=>simp [intOf];omega
     ·have hcb:((s[k].toNat:Int)==(b.toNat:Int))=false:=wR (λe=>hc (UInt8.toNat_inj.1 Om))
      go_wp2
      go_roundw
      case rel=>exact ⟨k+1,f2,P2,by go_num,rfl,by omega,by omega,by omega,by omega,HIT2.out,hown2,hb2,by show _=_;rw [←HR2.out,HD.out,split_miss _ _ _ _ hc,take_more s f2 k hfk hks]⟩
      case measure=>simp [intOf];omega
    ·obtain rfl:k=pos+n:=by omega
     go_wp2
     go_roundw
     case rel=>exact ⟨pos+n,f2,P2,rfl,hfk,hnle,hP2,HIT2.out,hown2,hb2,HR2⟩
     case measure=>
      simp only [World.iterPos,HIT2.out,HIT.out]
      omega
  ·have hnx:∀ ty,(Instr.next (.pointer (some ⟨w.heap.size,0,none⟩)) true ty).run YP wr=_:=λty=>Lib.run_next_end_at wr w.heap.size s pos ty hit hp
   have HD:=Lib.hid (wP s pos hp)
   have hk2:pos=s.size:=by omega
   have HE:Hid (P++[(s.data.toList.drop f).take (s.size-f)]=vE s b):=by
    show _=_
    rw [←HR.out,HD.out,hk2];rfl
   clear hk2
   have hfs:f<=s.size:=by omega
   go_wp2_with (go_at_call 226;refine (piece_any s f s.size _ hs hfs (Nat.le_refl _)).mono ?_)
   rintro e w3 ⟨rfl,hb3⟩
   have hown3:=nI hown hb3
   have hsz3:=hb3.size
   have hb4:YB w w3:=hb.trans (hb3.mono hsz)
   go_wp2_with (at_builtin;refine kY _ rfl _ _ 66 rfl w.heap.size 9 i0 (.string ByteArray.empty) 1 16 Tryz.underlying66 hi hz0 hz1 hz2 rfl (by decide) _ _ _ rfl (hown3.alloc _) ⟨w3.heap.size,0,none⟩ 1 1 [.string (s.extract f s.size)] rfl rfl ?c1 ?c2 ?c3 ?c4 ?c5 ?_)
   case c1=>
    intro j u hj
    match j,hj with
    |0,hj=>simp at hj;subst hj;simp [Addr.add]
   case c2=>intro u hu;simp at hu;subst hu;rfl
   case c3=>unfold maxLen;omega
   case c4=>omega
   case c5=>simp;omega
   intro v' w2 hown' hgrow _
   go_wp2
   go_ret
   refine ⟨v',rfl, ?_,(hb4.alloc Om _).grown hgrow (by simp;omega) (λk hk=>(hown3.lt k hk).1)⟩
   rw [←HE.out,nU,←bB,List.length_append];exact hown'
end
section
set_option linter.unnecessarySimpa false
theorem isplit_own (s:YL)(W:World)(hs:s.length<=1048576):YC 193 #[.string (mkS s),.int .u8 32] W λe w'=>∃ v' ob',e= .returned v'/\SlT v' (zY s) ob'/\Own [] W w' ob':=
 (split_any (mkS s) 32 W (by rw [zQ];exact hs)).mono λe w' ⟨v,h1,h2,h3⟩=>by
  obtain ⟨ob,k1,k2⟩:=Own.row h2 h3
  unfold vE at k1
  rw [mk_data] at k1
  exact ⟨v,ob,h1,k1,k2⟩
theorem lib_anew {W w1 w:World}{L L2:List Blk}(hK:MkLib W)(hO1:Own [] W w1 L)(hO:Own (L.map Blk.b) w1 w L2):MkAt w1.heap.size w:=by
 have hlt:=hK.lt
 refine ⟨Nat.lt_of_lt_of_le hlt hO1.size, ?_⟩
 obtain ⟨T,q⟩:=hK.held
 refine ⟨T, ?_⟩
 rw [hO.kept _ (Nat.lt_of_lt_of_le hlt hO1.size) (λhm=> ?_),hO1.kept _ hlt (by simp)]
 ·exact q
 ·obtain ⟨x,hx,ex⟩:=List.mem_map.1 hm
  rcases hO1.base x hx with r|r
  ·omega
  ·cases r
theorem words_len (s:YL):(zY s).length<=s.length+1:=splitL_many10 32 s []
theorem m10Parse_any (s:YL)(W:World)(hs:s.length<=1048576)(hK:MkLib W):YC 158 #[.string (mkS s)] W λe w'=>∃ v' ob',e= .returned (.tuple #[.agg #[v'],YI (pL s)])/\SlN v' (gR s) ob'/\Own [] W w' ob':=by
 have hsz:=zQ s
 have hwn:=words_len s
 refine Z2 (n:=36) Tryz.func158 rfl (ZO (Za (.agg #[.slice none 0 0]) (λb1=>Zv (YI 0) (ZN (kA (ZO (Zv (.string (mkS s)) (Zv (YI ((mkS s).size)) ?_))))))))
 by_cases h1:(96:Int)<(mkS s).size
 ·have h96:96<s.length:=by omega
  refine Zg h1 (ZY (ZO (Zv (.agg #[.slice none 0 0]) (Zs 0 ⟨b1, #[.slice none 0 0],212⟩ (off:=0) (.agg #[.slice none 0 0]) (Zv (YI 3) (ZN (gG ?_)))))))
  exact yH (ZD 0 ⟨b1, #[.slice none 0 0],212⟩ (off:=0) (.agg #[.slice none 0 0]) (YI 3) Tryz.results158 (λw hO=>⟨_,[],by rw [show pL s=3 from if_pos h96],by rw [show gR s=[] from if_pos h96];exact Sl.nil _ _,hO.sublist (by simp)⟩))
 have h96:¬ 96<s.length:=by omega
 refine Zh h1 (ZX (ZB (kA (ZO (Zv (.string (mkS s)) ?_)))))
 by_cases h2:(s:YL)=[]
 ·refine bU Z4 Kr (gN (a:=s) (b:=([])) rfl Kr Kr (decide_eq_true (h2))) (ZY (ZO (Zv (.agg #[.slice none 0 0]) (Zs 0 ⟨b1, #[.slice none 0 0],212⟩ (off:=0) (.agg #[.slice none 0 0]) (Zv (YI 0) (ZN (gG ?_)))))))
  exact yH (ZD 0 ⟨b1, #[.slice none 0 0],212⟩ (off:=0) (.agg #[.slice none 0 0]) (YI 0) Tryz.results158 (λw hO=>⟨_,[],by rw [show pL s=0 from by unfold pL;rw [if_neg h96,if_pos h2]],by rw [show gR s=[] from by unfold gR;rw [if_neg h96,if_pos h2]];exact Sl.nil _ _,hO.sublist (by simp)⟩))
 refine bU Z5 Kr (gN (a:=s) (b:=([])) rfl Kr Kr (decide_eq_false (h2))) (ZX (ZB (ZO (Zv (.string (mkS s)) (Zr (k:=193) (args:= #[.string (mkS s),.int .u8 32]) (λv' L'=>∃ ob',L'=ob'++[⟨b1, #[.slice none 0 0],212⟩]/\SlT v' (zY s) ob') (λw hO=>(isplit_own s w hs).mono λe w' ⟨v',ob',k1,k2,k3⟩=>⟨v',_,k1,⟨ob',rfl,k2⟩,Own.joinN hO k3⟩) (λvw Lw hvw=> ?_))))))
 obtain ⟨ow,rfl,hsw⟩:=hvw
 obtain ⟨AW,cw,rfl⟩:=SlT.form hsw
 refine s_anew (λw1 hO1=> ?_)
 have hw1:Reads yY w1 w1.heap.size AW (zY s):=SlT.reads hsw rfl hO1 (λx hx=>List.mem_append_left _ hx)
 refine Zv (.agg #[.slice none 0 0,.slice AW ((zY s).length) cw,.bool false]) ?_
 have hcw:(zY s).length<=cw:=by obtain ⟨_,q⟩:=hsw;rcases q with ⟨_,q,_⟩|⟨_,c9,_,q1,_,q2,_⟩;omega;injection q1 with _ _ q3;omega
 refine Za (.agg #[.slice none 0 0,.slice none 0 0,.bool false]) (λb2=>Zs 0 ⟨b2, #[.slice none 0 0,.slice none 0 0,.bool false],233⟩ (off:=0) (.agg #[.slice none 0 0,.slice AW ((zY s).length) cw,.bool false]) (ZR (bV (L':=[⟨b2, #[.slice none 0 0,.slice AW ((zY s).length) cw,.bool false],233⟩]++(ow++([⟨b1, #[.slice none 0 0],212⟩]))) rfl (Zr (k:=194) (args:= #[Zp b2 0]) (λv' L'=>∃ ts' nd' bad',v'= .tuple #[]∧∃ ob',L'=ob'++(ow++([⟨b1, #[.slice none 0 0],212⟩]))/\(∃ A' cap',Rb b2 A' ts'.length cap' bad' nd' ob')/\(∀ n∈nd',n.text.length<=1048576)/\GotL (pOr (zY s).length) (zY s) [] false ts' nd' bad') (λw hO=>((expressionP (zY s).length).go (⟨⟨AW,cw,Reads.bound (SlT.reads hsw rfl hO (λx hx=>by simp [hx])) hw1,hcw,none,0,[],rfl,Sl.nil _ _⟩,Own.lent hO,own_new hO,hO.size,λx hx=>Nat.le_trans (words_short x hx) hs,λn hn=>absurd hn (by simp),by simp only [List.length_nil];omega,lib_anew hK hO1 hO⟩:LentL w1.heap.size b2 (zY s) [] false [⟨b2, #[.slice none 0 0,.slice AW ((zY s).length) cw,.bool false],233⟩] w) (Nat.le_refl _)).mono λe w' ⟨ts',nd',bad',ob',k1,k2,k3⟩=>⟨_,_,k1,⟨ts',nd',bad',rfl,ob',rfl,k2.rd.imp λA' q=>q.imp λcap' q=>q.2.2,k2.texts,k3⟩,Own.join hO k2.own⟩) (λve Le hve=> ?_)))))
 obtain ⟨ts2,nd2,bd,rfl,obe,rfl,⟨A2,cap2,C,cc,g,rfl,hsl⟩,hnt,hG⟩:=hve
 have hnw:nd2.length<=1000:=by have q:=hG.1;simp only [List.length_nil] at q;omega
 refine bV (L':=⟨b2, #[.slice C nd2.length cc,.slice A2 ts2.length cap2,.bool bd],233⟩::(g++(ow++([⟨b1, #[.slice none 0 0],212⟩])))) (by simp) (ZR (Zv (Zp b2 0) (Zv (Zp b2 0) (Zl 0 ⟨b2, #[.slice C nd2.length cc,.slice A2 ts2.length cap2,.bool bd],233⟩ (off:=0) (.slice C nd2.length cc) (Zv (.agg #[.slice C nd2.length cc]) (Za (.agg #[.slice none 0 0]) (λb3=>Zs 0 ⟨b3, #[.slice none 0 0],212⟩ (off:=0) (.agg #[.slice C nd2.length cc]) (nW ?_))))))))
 refine vV (kA (ZO (Zv (Zp b2 2) (Zl 1 ⟨b2, #[.slice C nd2.length cc,.slice A2 ts2.length cap2,.bool bd],233⟩ (off:=2) (.bool bd) (Zv (.bool bd) ?_)))))
 cases h3:bd with
 |true=>
  rw [h3] at hG
  refine Zk (Zk (Zk (Zk (Zv Z4 (Zv Z4 (Zk (Zk (Zk (Zv Z4 (nW (vV ?_)))))))))))
  refine Zt (ZO (Zv (.agg #[.slice none 0 0]) (bV (L':=⟨b3, #[.slice C nd2.length cc],212⟩::(⟨b2, #[.slice C nd2.length cc,.slice A2 ts2.length cap2,.bool true],233⟩::(g++(ow++([⟨b1, #[.slice none 0 0],212⟩]))))) rfl (mG (L':=⟨b1, #[.slice none 0 0],212⟩::(⟨b3, #[.slice C nd2.length cc],212⟩::(⟨b2, #[.slice C nd2.length cc,.slice A2 ts2.length cap2,.bool true],233⟩::(g++(ow))))) (λw hO=>hO.perm (by simpa [List.append_assoc] using (List.perm_middle (a:=⟨b1, #[.slice none 0 0],212⟩) (l₁:=(⟨b3, #[.slice C nd2.length cc],212⟩::(⟨b2, #[.slice C nd2.length cc,.slice A2 ts2.length cap2,.bool true],233⟩::(g++(ow++([]:List Blk)))))) (l₂:=([]:List Blk))))) (Zs 0 ⟨b1, #[.slice none 0 0],212⟩ (off:=0) (.agg #[.slice none 0 0]) (Zv (YI 7) (ZN (gG (yH ?_)))))))))
  exact ZD 0 ⟨b1, #[.slice none 0 0],212⟩ (off:=0) (.agg #[.slice none 0 0]) (YI 7) Tryz.results158 (λw hO=>⟨_,[],by rw [(gB h96 h2).1,show gP s=none from gl_none hG (.inl rfl)],by rw [(gB h96 h2).2,show gP s=none from gl_none hG (.inl rfl)];exact Sl.nil _ _,(by have q:=Own.join (R:=[]) (by rw [List.append_nil];exact hO1) hO;rw [List.append_nil] at q;exact q.sublist (List.nil_sublist _))⟩)
 |false=>
  rw [h3] at hG
  refine Zv (Zp b2 1) (Zl 1 ⟨b2, #[.slice C nd2.length cc,.slice A2 ts2.length cap2,.bool false],233⟩ (off:=1) (.slice A2 ts2.length cap2) (Zv (YI (ts2.length:Int)) ?_))
  by_cases h4:(0:Int)<(ts2.length:Int)
  ·have hne:ts2≠[]:=λq=>by rw [q] at h4;simp at h4
   refine Zg h4 (Zv Z4 (Zv Z4 (Zk (Zk (Zk (Zv Z4 (ZY (kA (kO ?_)))))))))
   exact Zv (.agg #[.slice none 0 0]) (bV (L':=⟨b3, #[.slice C nd2.length cc],212⟩::(⟨b2, #[.slice C nd2.length cc,.slice A2 ts2.length cap2,.bool false],233⟩::(g++(ow++([⟨b1, #[.slice none 0 0],212⟩]))))) rfl (mG (L':=⟨b1, #[.slice none 0 0],212⟩::(⟨b3, #[.slice C nd2.length cc],212⟩::(⟨b2, #[.slice C nd2.length cc,.slice A2 ts2.length cap2,.bool false],233⟩::(g++(ow))))) (λw hO=>hO.perm (by simpa [List.append_assoc] using (List.perm_middle (a:=⟨b1, #[.slice none 0 0],212⟩) (l₁:=(⟨b3, #[.slice C nd2.length cc],212⟩::(⟨b2, #[.slice C nd2.length cc,.slice A2 ts2.length cap2,.bool false],233⟩::(g++(ow++([]:List Blk)))))) (l₂:=([]:List Blk))))) (Zs 0 ⟨b1, #[.slice none 0 0],212⟩ (off:=0) (.agg #[.slice none 0 0]) (Zv (YI 7) (ZN (gG (yH (ZD 0 ⟨b1, #[.slice none 0 0],212⟩ (off:=0) (.agg #[.slice none 0 0]) (YI 7) Tryz.results158 (λw hO=>⟨_,[],by rw [(gB h96 h2).1,show gP s=none from gl_none hG (.inr (.inl hne))],by rw [(gB h96 h2).2,show gP s=none from gl_none hG (.inr (.inl hne))];exact Sl.nil _ _,(by have q:=Own.join (R:=[]) (by rw [List.append_nil];exact hO1) hO;rw [List.append_nil] at q;exact q.sublist (List.nil_sublist _))⟩)))))))))
  have hts:ts2=[]:=List.eq_nil_of_length_eq_zero Om
  rw [hts] at hG
  refine Zh h4 (Zv Z5 (Zv Z5 (Zl 0 ⟨b3, #[.slice C nd2.length cc],212⟩ (off:=0) (.agg #[.slice C nd2.length cc]) (Zc (k:=195) (args:= #[.agg #[.slice C nd2.length cc]]) (.bool (fH nd2)) (λw hO=>m10May_any C cc nd2 w (Sl.reads hsl rfl hO (λx hx=>by simp [hx])) hnw hnt ⟨Nat.lt_of_lt_of_le (lib_anew hK hO1 hO).lt hO.size,(lib_anew hK hO1 hO).held⟩) ?_))))
  cases h5:fH nd2 with
  |true=>
   obtain ⟨t,hok,hnd,hrd⟩:=gl_some hG h5
   refine Zv Z5 (Zv Z5 (ZX (ZB (ZO (Zl 0 ⟨b3, #[.slice C nd2.length cc],212⟩ (off:=0) (.agg #[.slice C nd2.length cc]) (bV (L':=⟨b3, #[.slice C nd2.length cc],212⟩::(⟨b2, #[.slice C nd2.length cc,.slice A2 ts2.length cap2,.bool false],233⟩::(g++(ow++([⟨b1, #[.slice none 0 0],212⟩]))))) rfl (mG (L':=⟨b1, #[.slice none 0 0],212⟩::(⟨b3, #[.slice C nd2.length cc],212⟩::(⟨b2, #[.slice C nd2.length cc,.slice A2 ts2.length cap2,.bool false],233⟩::(g++(ow))))) (λw hO=>hO.perm (by simpa [List.append_assoc] using (List.perm_middle (a:=⟨b1, #[.slice none 0 0],212⟩) (l₁:=(⟨b3, #[.slice C nd2.length cc],212⟩::(⟨b2, #[.slice C nd2.length cc,.slice A2 ts2.length cap2,.bool false],233⟩::(g++(ow++([]:List Blk)))))) (l₂:=([]:List Blk))))) ?_)))))))
   exact Zs 0 ⟨b1, #[.slice none 0 0],212⟩ (off:=0) (.agg #[.slice C nd2.length cc]) (Zv (YI 0) (ZN (gG (ZD 0 ⟨b1, #[.slice C nd2.length cc],212⟩ (off:=0) (.agg #[.slice C nd2.length cc]) (YI 0) Tryz.results158 (λw hO=>⟨_,g,by rw [(gB h96 h2).1,hrd],by rw [(gB h96 h2).2,hrd];show SlN _ (t.enc 0) g;rw [←hnd];exact hsl,(by have q:=Own.join (R:=[]) (by rw [List.append_nil];exact hO1) hO;rw [List.append_nil] at q;exact q.sublist ((((List.sublist_append_left _ _).cons _).cons _).cons _))⟩)))))
  |false=>
   refine Zv Z4 (Zv Z4 (ZY (ZO (Zv (.agg #[.slice none 0 0]) (bV (L':=⟨b3, #[.slice C nd2.length cc],212⟩::(⟨b2, #[.slice C nd2.length cc,.slice A2 ts2.length cap2,.bool false],233⟩::(g++(ow++([⟨b1, #[.slice none 0 0],212⟩]))))) rfl (mG (L':=⟨b1, #[.slice none 0 0],212⟩::(⟨b3, #[.slice C nd2.length cc],212⟩::(⟨b2, #[.slice C nd2.length cc,.slice A2 ts2.length cap2,.bool false],233⟩::(g++(ow))))) (λw hO=>hO.perm (by simpa [List.append_assoc] using (List.perm_middle (a:=⟨b1, #[.slice none 0 0],212⟩) (l₁:=(⟨b3, #[.slice C nd2.length cc],212⟩::(⟨b2, #[.slice C nd2.length cc,.slice A2 ts2.length cap2,.bool false],233⟩::(g++(ow++([]:List Blk)))))) (l₂:=([]:List Blk))))) (Zs 0 ⟨b1, #[.slice none 0 0],212⟩ (off:=0) (.agg #[.slice none 0 0]) (Zv (YI 7) ?_))))))))
   exact ZN (gG (yH (ZD 0 ⟨b1, #[.slice none 0 0],212⟩ (off:=0) (.agg #[.slice none 0 0]) (YI 7) Tryz.results158 (λw hO=>⟨_,[],by rw [(gB h96 h2).1,show gP s=none from gl_none hG (.inr (.inr h5))],by rw [(gB h96 h2).2,show gP s=none from gl_none hG (.inr (.inr h5))];exact Sl.nil _ _,(by have q:=Own.join (R:=[]) (by rw [List.append_nil];exact hO1) hO;rw [List.append_nil] at q;exact q.sublist (List.nil_sublist _))⟩))))
end
section
set_option linter.unnecessarySimpa false
structure RecLib (W:World):Prop where
 lib:HasLib W
 keys:MkLib W
theorem RecLib.on {W w:World}(h:RecLib W)(hb:YB W w):RecLib w:=⟨h.lib.on hb,h.keys.on hb⟩
theorem qRange_any (s:YL)(W:World)(hs:GqR s)(hK:RecLib W):YC 87 #[.string (mkS s)] W (YR (.bool (yG s)) W):=by
 have hp:∀ w,YB W w->YC 136 #[.string (mkS s)] w λe w'=>∃ v ob,e= .returned v/\(∃ A cap xs o1 o2,v= .tuple #[.agg #[.slice A xs.length cap],YI (d5 s)]/\ob=o1++o2/\yX xs=(kV s).getD []/\RgA (.slice A xs.length cap) xs o1 o2)/\Own [] w w' ob:=λw hb=>by
  refine (gParse_any s w hs (hK.lib.on hb)).mono λe w' ⟨v',ob',k1,⟨xs,u,o1,o2,k3,k4,k5,k6⟩,k7⟩=> ?_
  obtain ⟨A,cap,rfl⟩:∃ A cap,u= .slice A xs.length cap:=by
   rcases k6.top.2 with ⟨h1,h2,_⟩|⟨g,cap,_,h1,_⟩
   ·exact ⟨none,0,by rw [h1,h2]⟩
   ·exact ⟨_,cap,h1⟩
  exact ⟨_,ob',k1,⟨A,cap,xs,o1,o2,by rw [k3],k4,k5,k6⟩,k7⟩
 refine zD Tryz.func87 (k8 (R:=λv ob=>∃ A cap xs o1 o2,v= .tuple #[.agg #[.slice A xs.length cap],YI (d5 s)]/\ob=o1++o2/\yX xs=(kV s).getD []/\RgA (.slice A xs.length cap) xs o1 o2) [] (λw hO=>hp w hO.below) ?_)
 rintro v ob ⟨A,cap,xs,o1,o2,rfl,rfl,hx,hR⟩
 refine zJ [] λb=>zB 11 [0] (d5 s=0) (λh11=> ?_) (λh11=> ?_)
 rotate_left
 ·exact z7 [] Z5 λw hO=>⟨by unfold yG;rw [decide_eq_false h11];rfl,hO.below⟩
 have hf:=fine_get h11
 rw [←hx] at hf
 have hq:∀ w,Own [] W w (o1++o2)->YC 137 #[.agg #[.slice A xs.length cap]] w (YR (.string (mkS (wB (yX xs)))) w):=λw hO=>gPrint_any A cap xs w (hR.inn rfl hO (λx hx=>List.mem_append_left _ hx) (λx hx=>List.mem_append_right _ hx) hf) (hK.lib.on hO.below)
 refine z8 (v:= .string (mkS (wB (yX xs)))) [0] (λw hO=>hq w (hO.past 1 _)) (x4 16 [] (wB (yX xs)) s (λh=> ?_) (λh=> ?_))
 ·exact z7 [] Z4 λw hO=>⟨by unfold yG;rw [decide_eq_true h11,←hx,decide_eq_true h];rfl,hO.below⟩
 ·exact z7 [] Z5 λw hO=>⟨by unfold yG;rw [decide_eq_true h11,←hx,decide_eq_false h];rfl,hO.below⟩
theorem nodL_cases (s:YL):gR s=[]∨∃ t:Tr,t.ok=true/\t.fit=true/\gR s=t.enc 0:=by
 unfold gR
 split
 ·exact .inl rfl
 ·split
  ·exact .inl rfl
  ·cases h:gP s with
   |none=>exact .inl rfl
   |some t=>have:=readM_ok h;exact .inr ⟨t,this.1,this.2,rfl⟩
theorem nodL_fine (s:YL):(gR s).length<=1000∧∀ n∈gR s,n.text.length<=1048576:=by
 rcases nodL_cases s with e|⟨t,ho,hf,e⟩
 ·rw [e];simp
 ·rw [e,Tr.enc_len]
  have h15:t.sz<=15:=by unfold Tr.fit at hf;simp at hf;exact hf.1
  exact ⟨by omega,λn hn=>by have:=bL t 0 ho n hn;omega⟩
theorem qMark_any (s:YL)(W:World)(hs:GqM s)(hK:RecLib W):YC 116 #[.string (mkS s)] W (YR (.bool (x1 s)) W):=by
 have hp:∀ w,YB W w->YC 158 #[.string (mkS s)] w λe w'=>∃ v ob,e= .returned v/\(∃ A cap,v= .tuple #[.agg #[.slice A (gR s).length cap],YI (pL s)]/\SlN (.slice A (gR s).length cap) (gR s) ob)/\Own [] w w' ob:=λw hb=>by
  refine (m10Parse_any s w hs (hK.keys.on hb)).mono λe w' ⟨v',ob',k1,k2,k3⟩=> ?_
  obtain ⟨A,cap,rfl⟩:∃ A cap,v'= .slice A (gR s).length cap:=by
   rcases k2.2 with ⟨h1,h2,_⟩|⟨g,cap,_,h1,_⟩
   ·exact ⟨none,0,by rw [h1,h2]⟩
   ·exact ⟨_,cap,h1⟩
  exact ⟨_,ob',k1,⟨A,cap,rfl,k2⟩,k3⟩
 have hfi:=nodL_fine s
 refine zD Tryz.func116 (k8 (R:=λv ob=>∃ A cap,v= .tuple #[.agg #[.slice A (gR s).length cap],YI (pL s)]/\SlN (.slice A (gR s).length cap) (gR s) ob) [] (λw hO=>hp w hO.below) ?_)
 rintro v ob ⟨A,cap,rfl,hR⟩
 refine zJ [] λb=>zB 11 [0] (pL s=0) (λh11=> ?_) (λh11=> ?_)
 rotate_left
 ·exact z7 [] Z5 λw hO=>⟨by unfold x1;rw [decide_eq_false h11];rfl,hO.below⟩
 have hq:∀ w,Own [] W w ob->YC 159 #[.agg #[.slice A (gR s).length cap]] w (YR (.string (mkS (qS (gR s)))) w):=λw hO=>m10Print_any A cap (gR s) w (Sl.reads hR rfl hO λx hx=>hx) hfi.1 hfi.2 (hK.keys.on hO.below)
 refine z8 (v:= .string (mkS (qS (gR s)))) [0] (λw hO=>hq w (hO.past 1 _)) (x4 16 [] (qS (gR s)) s (λh=> ?_) (λh=> ?_))
 ·exact z7 [] Z4 λw hO=>⟨by unfold x1;rw [decide_eq_true h11,decide_eq_true h];rfl,hO.below⟩
 ·exact z7 [] Z5 λw hO=>⟨by unfold x1;rw [decide_eq_true h11,decide_eq_false h];rfl,hO.below⟩
def jK (own name rng:YL):Int:=if nmL name=false then 4 else if name=own then 8 else if yG rng=false then 6 else 0
theorem qTarget_any (n r o:YL)(W:World)(hn:n.length<=1048576)(hr:GqR r)(hK:RecLib W):YC 114 #[.string (mkS n),.string (mkS r),.string (mkS o)] W (YR (YI (jK o n r)) W):=by
 have c1:∀ w,YC 63 #[.string (mkS n)] w (YR (.bool (nmL n)) w):=λw=>dT n w hn
 have c2:∀ w,YB W w->YC 87 #[.string (mkS r)] w (YR (.bool (yG r)) w):=λw hb=>qRange_any r w hr (hK.on hb)
 refine zD Tryz.func114 (z8 (v:= .bool (nmL n)) [] (λw hO=>c1 w) (zP 9 (nmL n) (λh1=> ?_) (λh1=> ?_)))
 rotate_left
 ·exact z7 [] (YI 4) λw hO=>⟨by rw [jK,if_pos h1],hO.below⟩
 refine x4 14 [] n o (λh2=> ?_) (λh2=> ?_)
 ·exact z7 [] (YI 8) λw hO=>⟨by rw [jK,if_neg (by simp [h1]),if_pos h2],hO.below⟩
 refine z8 (v:= .bool (yG r)) [] (λw hO=>c2 w hO.below) (zP 17 (yG r) (λh3=> ?_) (λh3=> ?_))
 ·exact z7 [] (YI 0) λw hO=>⟨by rw [jK,if_neg (by simp [h1]),if_neg h2,if_neg (by simp [h3])],hO.below⟩
 ·exact z7 [] (YI 6) λw hO=>⟨by rw [jK,if_neg (by simp [h1]),if_neg h2,if_pos h3],hO.below⟩
theorem barE_targ (own:YL)(b:Bt):bD own b=if jK own b.name b.rng≠0 then jK own b.name b.rng else if x1 b.wh=false then 7 else 0:=by
 unfold bD jK
 split
 ·simp
 ·split
  ·simp
  ·split<;>simp
theorem qBar_any (b:Bv)(own:YL)(W:World)(hb:b.name.length<=1048576/\GqR b.rng/\GqM b.wh)(hK:RecLib W):YC 66 #[bvV b,.string (mkS own)] W (YR (YI (bD own b.bt)) W):=by
 have hE:bD own b.bt=if jK own b.name b.rng≠0 then jK own b.name b.rng else if x1 b.wh=false then 7 else 0:=barE_targ own b.bt
 have c1:∀ w,YB W w->YC 114 #[.string (mkS b.name),.string (mkS b.rng),.string (mkS own)] w (YR (YI (jK own b.name b.rng)) w):=λw h=>qTarget_any b.name b.rng own w hb.1 hb.2.1 (hK.on h)
 have c2:∀ w,YB W w->YC 116 #[.string (mkS b.wh)] w (YR (.bool (x1 b.wh)) w):=λw h=>qMark_any b.wh w hb.2.2 (hK.on h)
 refine zD Tryz.func66 (yK [] λb1=>z8 (v:=YI (jK own b.name b.rng)) [0,0] (λw hO=>c1 w hO.below) (vP 13 [] (jK own b.name b.rng=0) (λh1=> ?_) (λh1=> ?_)))
 rotate_left
 ·exact z7 [] (YI (jK own b.name b.rng)) λw hO=>⟨by rw [hE,if_pos h1],hO.below⟩
 refine z8 (v:= .bool (x1 b.wh)) [0] (λw hO=>c2 w hO.below) (zP 17 (x1 b.wh) (λh2=> ?_) (λh2=> ?_))
 ·exact z7 [] (YI 0) λw hO=>⟨by rw [hE,if_neg (λq=>q h1),if_neg (by show ¬ x1 b.wh=false;simp [h2])],hO.below⟩
 ·exact z7 [] (YI 7) λw hO=>⟨by rw [hE,if_neg (λq=>q h1),if_pos h2],hO.below⟩
def askB (l:List YL):Bool:=l.all wdL && decide (l.length<=6) && qX l
theorem askB_not {l:List YL}(h:(∃ s∈l,wdL s=false)\/6<l.length\/qX l=false):askB l=false:=by
 unfold askB
 rcases h with ⟨s,hs,h⟩|h|h
 ·rw [show l.all wdL=false from List.all_eq_false.2 ⟨s,hs,by simp [h]⟩];rfl
 ·rw [decide_eq_false Om];simp
 ·rw [h];simp
theorem qAsk_any (A:Option Addr)(cap:Nat)(l:List YL)(W:World)(hv:Reads yY W W.heap.size A l)(hn:l.length<=1048576)(ht:∀ s∈l,s.length<=1048576):YC 115 #[.slice A l.length cap] W (YR (.bool (askB l)) W):=by
 refine zD Tryz.func115 (zB 8 [] ((6:Int)<(l.length:Int)) (λh8=> ?_) (λh8=> ?_))
 ·exact z7 [] Z5 λw hO=>⟨by rw [askB_not (.inr (.inl Om))],hO.below⟩
 refine zM (α:=Nat) (λi=>[(3,.string (mkS (yR l i))),(9,.slice A l.length cap),(10,YI (l.length:Int)),(11,YI (i:Int))]) (λ_=>[]) (λi m=>(i<=l.length/\(∀ s∈l.take i,wdL s=true)∧∀ z (hz:z+1<l.length),z+1<i->Op.bytesLess (l[z]'Om) l[z+1]=true)/\m=l.length-i) 0 l.length [] ⟨⟨Nat.zero_le _,λy h=>by simp at h,λz hz h=>by omega⟩,rfl⟩ ?_
 rintro i mm g kk ⟨⟨hi,hok,hup⟩,hmm⟩ nx hkk
 subst hkk
 refine zB 12 [] ((i:Int)<(l.length:Int)) (λh12=> ?_) (λh12=> ?_)
 rotate_left
 ·refine z7 [] Z4 λw hO=>⟨?_,hO.below⟩
  have hall:=xF (p:=λs=>wdL s=true) (show l.length<=i by omega) hok
  have:askB l=true:=by
   unfold askB
   rw [List.all_eq_true.2 hall,decide_eq_true Om,rise_iff.2 λz hz=>hup z hz Om];rfl
  rw [this]
 have hj:i<l.length:=by omega
 have hsm:l[i]∈l:=List.getElem_mem hj
 have hlast:i≠0->yR l i=l[i-1]'Om:=λh=>by unfold yR;rw [dif_pos ⟨by omega,by omega⟩]
 have hgo:=yQ (p:=λs=>wdL s=true) hj hok
 have hl1:=mN hj
 obtain ⟨eb,eo,hA,hel⟩:=hv.elem zX i hj
 have hsh:=ht _ hsm
 have hel':=λw hO ty=>hel w hO ty 0 (.string (mkS l[i]))
 obtain ⟨s,hs⟩:∃ s,l[i]=s:=⟨_,rfl⟩
 simp only [hs] at hsh hsm hgo hl1 hel'
 refine zI 13 [] hA l.length cap i 1 hj (zH 14 [] 9 eb (eo+i*1+0) (.string (mkS s)) (λw hO=>hel' w hO.below _ Kr) (z8 (v:= .bool (wdL s)) [] (λw hO=>dS s w hsh) (zP 16 (wdL s) (λh16=> ?_) (λh16=> ?_))))
 rotate_left
 ·exact z7 [] Z5 λw hO=>⟨by rw [askB_not (.inl ⟨s,hsm,h16⟩)],hO.below⟩
 refine x_sle 21 [] s (yR l i) (zP 21 (!Op.bytesLess (yR l i) s) (λh21=> ?_) (λh21=> ?_))
 ·refine z7 [] Z5 λw hO=>⟨?_,hO.below⟩
  have h0:i≠0:=λh0=>by
   subst h0
   have:yR l 0=[]:=by unfold yR;rw [dif_neg Om]
   rw [this,less_nil (λe=>by rw [e] at h16;exact absurd h16 (by decide))] at h21;cases h21
  rw [hlast h0] at h21
  have:qX l=false:=by
   cases hr:qX l with
   |false=>rfl
   |true=>
    have q:=rise_iff.1 hr (i-1) Om
    have e2:l[i-1+1]'Om=s:=by rw [←hs];congr 1;omega
    rw [e2] at q
    rw [q] at h21;cases h21
  rw [askB_not (.inr (.inr this))]
 have hup2:∀ z (hz:z+1<l.length),z+1<i+1->Op.bytesLess (l[z]'Om) l[z+1]=true:=λz hz hzi=>by
  rcases Nat.lt_succ_iff_lt_or_eq.1 hzi with q|q
  ·exact hup z hz q
  ·have h0:i≠0:=by omega
   rw [hlast h0] at h21
   have e1:l[i-1]'Om=l[z]'Om:=by congr 1;omega
   have e2:l[z+1]=s:=by rw [←hs];congr 1
   rw [←e1,e2];simpa using h21
 refine v8 3 [] (.string (mkS s)) (.string (mkS (yR l (i+1)))) (by rw [hl1]) (x_i 11 [] ((i+1:Nat):Int) (nx (i+1) (l.length-(i+1)) [] Om ⟨⟨hj,hgo h16,hup2⟩,rfl⟩ Kr Kr))
end
section
set_option linter.unnecessarySimpa false
theorem reads_t {w:World}{A:Option Addr}{cap:Nat}{l:List YL}{B:Nat}(h:Reads yY w B A l)(hB:B<=B):ReadsT w B (.slice A l.length cap) l:=
 ⟨A,cap,rfl,λh0=>by
  obtain ⟨b,off,e,hlt,hc⟩:=h h0
  refine ⟨⟨b,off,none⟩,e,hlt,λj hj=> ?_⟩
  rw [xP]
  refine hc j _ ?_
  rw [←kL]
  unfold jD
  rw [List.getElem?_map,List.getElem?_eq_getElem hj];rfl⟩
theorem r12when_any (s:YL)(W:World)(hs:s.length<=1048576):YC 82 #[.string (mkS s)] W (YR (.string (mkS (vM s))) W):=by
 refine zD Tryz.func82 (x4 4 [] s [] (λh=> ?_) (λh=> ?_))
 ·exact z7 [] (.string ⟨#[]⟩) λw hO=>⟨by rw [show vM s=[] from if_pos h];rfl,hO.below⟩
 ·refine zR 6 [] pT s (zR 7 [] (pT++s) [10] ?_ ?_) ?_
  ·exact z7 [] (.string (mkS (pT++s++[10]))) λw hO=>⟨by rw [show vM s=pT++s++[10] from if_neg h],hO.below⟩
  ·unfold pT;simp only [List.length_append,List.length_cons,List.length_nil];omega
  ·unfold pT;simp only [List.length_cons,List.length_nil];omega
theorem r12wished_any (x:Wv)(W:World)(hv:Reads yY W W.heap.size x.A x.fs)(hn:x.fs.length<=1048576)(ht:(kQ x.wt).length<=100000000):YC 81 #[wvV x] W (YR (.string (mkS (kQ x.wt))) W):=by
 have hT:(kQ x.wt).length=4+x.name.length+1+(bS x.fs).length+1+4+1+x.rng.length+1:=by
  unfold kQ fJ txAny j6 fS Wv.wt
  cases x.bare<;>simp only [List.length_append,List.length_cons,List.length_nil,if_true,Bool.false_eq_true,if_false]
 rw [hT] at ht
 have main:∀ (fl kd:YL),fl=bS x.fs->kd=fJ x.bare->txAny++x.name++[32]++fl++[32]++kd++[32]++x.rng++[10]=kQ x.wt:=λfl kd h1 h2=>by rw [h1,h2];rfl
 have hk4:(fJ x.bare).length=4:=by unfold fJ;cases x.bare<;>rfl
 have hJ:∀ w,YB W w->x.fs≠[]->YC 55 #[.slice x.A x.fs.length x.cap,.int .u8 44] w (YR (.string (mkS (bS x.fs))) w):=λw hb hne=>by
  have hw:bS x.fs=zG 44 x.fs:=if_neg hne
  rw [hw]
  exact rjoin_any _ x.fs 44 w (reads_t (hv.on hb hb.size) (Nat.le_refl _)) (by rw [←hw];omega) Om
 refine zD Tryz.func81 (yK [] λb1=>bR 8 (α:=YL) (λfl=>[(1,Zp b1 0),(3,.string (mkS fl)),(4,.string (mkS fS))]) (λ_=>[⟨b1, #[.string (mkS x.name),.string (mkS x.rng),.slice x.A x.fs.length x.cap,.bool x.bare],134⟩]) (λfl=>fl=bS x.fs) [0] (λnj=>x_now 8 ((0:Int)<(x.fs.length:Int)) (λh=> ?_) (λh=> ?_)) (λfl g hfl=> ?_))
 ·refine z8 (v:= .string (mkS (bS x.fs))) [0] (λw hO=>hJ w hO.below (λe=>by rw [e] at h;simp at h)) (nj (bS x.fs) [] rfl Kr)
 ·exact nj [45] [] (show [45]=bS x.fs from by unfold bS;rw [if_pos (List.eq_nil_of_length_eq_zero Om)]) Kr
 refine bR 13 (α:=YL) (λkd=>[(1,Zp b1 0),(3,.string (mkS fl)),(4,.string (mkS kd))]) (λ_=>[⟨b1, #[.string (mkS x.name),.string (mkS x.rng),.slice x.A x.fs.length x.cap,.bool x.bare],134⟩]) (λkd=>kd=fJ x.bare) [0] (λnj=>zP 13 x.bare (λh=>nj j6 [] (by rw [h];rfl) Kr) (λh=>nj fS [] (by rw [h];rfl) Kr)) (λkd g2 hkd=> ?_)
 have hfl':fl.length=(bS x.fs).length:=by rw [hfl]
 have hkd':kd.length=4:=by rw [hkd];exact hk4
 have ha:txAny.length=4:=rfl
 refine zR 16 [0] txAny x.name (zR 17 [] (txAny++x.name) [32] (zR 19 [] (txAny++x.name++[32]) fl (zR 20 [] (txAny++x.name++[32]++fl) [32] (zR 22 [] (txAny++x.name++[32]++fl++[32]) kd (zR 23 [] (txAny++x.name++[32]++fl++[32]++kd) [32] (zR 26 [0] (txAny++x.name++[32]++fl++[32]++kd++[32]) x.rng (zR 27 [] (txAny++x.name++[32]++fl++[32]++kd++[32]++x.rng) [10] ?_)))))))
 exact z7 [] (.string (mkS (txAny++x.name++[32]++fl++[32]++kd++[32]++x.rng++[10]))) λw hO=>⟨by rw [main fl kd hfl hkd],hO.below⟩
end
end Go.Proofs.YtobimfnmnkegdaaGreatDoor
