import Derived.Below
import Derived.ChangeSame
import Derived.ProofKit
import Derived.OpenShut
import Derived.LaidSub
import Derived.Carry
import Derived.SliceStrings
import Derived.Lib.LaidTab
import Derived.Deep.DeepHandedRow
import Derived.ChangeArms
import Derived.ChangeSlices
import Derived.Test.YtflhcaljcoekpaaGreatDoorIG16
set_option maxRecDepth 1000000
set_option maxHeartbeats 8000000
set_option linter.unusedVariables false
set_option linter.unusedSimpArgs false
set_option linter.unnecessarySimpa false
namespace Go.Proofs.YtflhcaljcoekpaaGreatDoor
open Go.RowKit

section
set_option linter.unnecessarySimpa false
theorem lnsP_cut:∀ (r p:YL),p++r≠[]->gF p r=(if (zB 10 r).2.2 then p++(zB 10 r).1++[10] else p++r)::(if (zB 10 r).2.2 then gF [] (zB 10 r).2.1 else [])
 | [],p,h=>by
  have:p≠[]:=by simpa using h
  rw [gF,if_neg this];simp [zB]
 |c::r,p,_=>by
  rw [gF]
  unfold zB
  by_cases hc:c=10
  ·subst hc;simp
  ·rw [if_neg hc,if_neg hc,lnsP_cut r (p++[c]) (by simp)]
   cases (zB 10 r).2.2<;>simp
theorem lns_step {r:YL}(h:r≠[]):gF [] r=lnH r::gF [] (lnR r):=by
 rw [lnsP_cut r [] (by simpa using h)]
 unfold lnH lnR
 cases (zB 10 r).2.2<;>simp [gF]
theorem lnH_le {r:YL}:(lnH r).length<=r.length:=by
 unfold lnH
 rcases ix_cut 10 r with ⟨c1,_,c3,_⟩|⟨c1,_⟩
 ·rw [if_pos c1,←c3,List.length_take];omega
 ·rw [c1,if_neg Bool.false_ne_true];exact Nat.le_refl _
theorem lns_all:∀ (n:Nat) (r:YL),r.length<=n->(gF [] r).length<=r.length∧∀ x∈gF [] r,x.length<=r.length/\x≠[]
 |0,r,h=>by
  obtain rfl:=List.eq_nil_of_length_eq_zero (Nat.le_zero.1 h)
  exact ⟨by simp [gF],λx hx=>by simp [gF] at hx⟩
 |n+1,r,h=>by
  by_cases h0:r=[]
  ·subst h0;exact ⟨by simp [gF],λx hx=>by simp [gF] at hx⟩
  ·have hl:=lnR_len h0
   obtain ⟨i1,i2⟩:=lns_all n (lnR r) Om
   rw [lns_step h0]
   refine ⟨by rw [List.length_cons];omega,λx hx=> ?_⟩
   rcases List.mem_cons.1 hx with rfl|hx
   ·refine ⟨lnH_le, ?_⟩
    unfold lnH
    split
    ·simp
    ·exact h0
   ·have:=i2 x hx;exact ⟨by omega,this.2⟩
def slsB (b:Nat)(v:Value):Blk:=⟨b, #[v],85⟩
noncomputable abbrev aRF:Code×Code:=findRF (Tryz.f82.body.getD .skip)
noncomputable abbrev aRg (i:Nat):Array Oper:=dM i (Tryz.f82.body.getD .skip)
noncomputable abbrev aAs:Oper:=(aRg 2).getD 0 default
noncomputable abbrev aO1:Oper:=(aRg 4).getD 0 default
noncomputable abbrev aO2:Oper:=(aRg 4).getD 1 default
theorem aBody_is:aRF.2= .block 1 (.region 3 (aRg 3) false):=by kernel_rfl
theorem aAssign_is:aRF.1= .region 2 #[aAs] false:=by kernel_rfl
theorem aEnd_is:aRg 4= #[aO1,aO2]:=by kernel_rfl
structure ColI (b2:Nat)(s r:YL)(L:List Blk):Prop where
 ex:∃ A c ls ob,L=slsB b2 (.slice A ls.length c)::ob/\SlT (.slice A ls.length c) ls ob/\ls++gF [] r=gF [] s/\r.length<=s.length
theorem out_rnd2 {M1:List Nat}{B:Nat}{r:YL}{rel:YL->List Blk->Prop}{relx:List Blk->Prop}{Wr:World}{id:Nat}:¬ LetsOut (Exit.inBlock id (rndQ M1 B r rel relx Wr)):=λ⟨_,_,h⟩=>h
theorem two_marks {P:Program}{n id:Nat}{f:Nat->Value}{o p:Oper}{u v:Value}{ds:List Deferred}{Q:Exit->Act->World->Prop}{w:World}(hw:zS #[o,p] n f o=true)(hr:(execOp (ev n f) o).run P w= .ok (.value u) w)(hw2:zS #[o,p] n (upd f o.dst u) p=true)(hr2:(execOp (ev n (upd f o.dst u)) p).run P w= .ok (.value v) w)
  (h:Q .normal {Fr n (upd (upd f o.dst u) p.dst v) with defers:=ds} w):(Code.region id #[o,p] false).wp P Q {Fr n f with defers:=ds} w:=by
 have hp:∀ (f:Nat->Value) (d:Option Tmp) (x:Value),({Fr n f with defers:=ds}:Act).put d x={Fr n (upd f d x) with defers:=ds}:=λf d x=>by
  have:=gV n f d x
  unfold Act.put at this ⊢
  cases d with
  |none=>exact congrArg (λa:Act=>({a with defers:=ds}:Act)) this
  |some i=>exact congrArg (λa:Act=>({a with defers:=ds}:Act)) this
 refine wp_region_list ?_
 show wpList P #[o,p] Q [o,p] {Fr n f with defers:=ds} w
 unfold wpList
 have hwt:Region.wanted o (yielded #[o,p] ({Fr n f with defers:=ds}:Act).tmps)=true:=(qA #[o,p] n f o).trans hw
 rw [if_pos hwt]
 refine .inl ?_
 unfold Oper.wp
 have he:({Fr n f with defers:=ds}:Act).eval=ev n f:=xG n f
 rw [he,hr,Oper.upon_value,hp]
 unfold wpList
 have hwt2:Region.wanted p (yielded #[o,p] ({Fr n (upd f o.dst u) with defers:=ds}:Act).tmps)=true:=(qA #[o,p] n (upd f o.dst u) p).trans hw2
 rw [if_pos hwt2]
 refine .inl ?_
 unfold Oper.wp
 have he2:({Fr n (upd f o.dst u) with defers:=ds}:Act).eval=ev n (upd f o.dst u):=xG n _
 rw [he2,hr2,Oper.upon_value,hp]
 unfold wpList
 exact h
theorem slt_add {ls:List YL}{x:YL}{v:Value}{ob:List Blk}(h:Sl 9 1 v (ls.length+1) (jQ ls++ #[(.string (mkS x):Value)].toList) ob):SlT v (ls++[x]) ob:=SlT.add h
theorem col_body {M:List Nat}{W0:World}{b2 B:Nat}{s:YL}(hs:s.length<=600000)(f:Nat->Value)(r:YL)(L:List Blk)(l:Nat)(Wr:World)(hne:r≠[])(hrel:ColI b2 s r L)(hOw:Own M W0 Wr (yY B (lnR r)::L)):
  aRF.2.wpIn (Fence.wide.inRound l) 1 YP (rndQ ((yY B (lnR r)::L).map Blk.b) B (lnR r) (ColI b2 s) (λ_=>False) Wr) (Fr Tryz.f82.ntmps (upd (jP f [(2,.pointer (some ⟨b2,0,none⟩))]) (some 5) (.string (mkS (lnH r))))) Wr:=by
 obtain ⟨A,c,ls,ob,rfl,hS,hres,hrl⟩:=hrel
 have hlen:=lnR_len hne
 have hst:=lns_step hne
 have hl1:=(lns_all s.length s (Nat.le_refl _)).1
 have hl2:ls.length<=s.length:=by have:=congrArg List.length hres;rw [List.length_append] at this;omega
 rw [hst] at hres
 generalize lnH r=p at*
 generalize lnR r=rr at*
 obtain ⟨M1,hM1⟩:∃ M1,(yY B rr::slsB b2 (.slice A ls.length c)::ob).map Blk.b=M1:=⟨_,rfl⟩
 have hOl:=hOw.lend
 rw [hM1] at hOl ⊢
 rw [aBody_is]
 refine wpIn_block (wX (M:=M1) (W:=Wr) (L:=yY B rr::slsB b2 (.slice A ls.length c)::ob) (fL pq_rnd) out_rnd2 Kr ?_ Wr hOl)
 refine vL [1] 1 9 #[.string (mkS p)] λg=>(m6 (T:=9) (sz:=1) (m:=1) (cp:=1) [] [⟨g, #[.string (mkS p)],9⟩,yY B rr,slsB b2 (.slice A ls.length c)] ob [] 0 (⟨g, #[.string (mkS p)],9⟩::yY B rr::slsB b2 (.slice A ls.length c)::ob) (λw hO=>hO.cast (by simp)) hS Om λv' ob' hS'=> ?_)
 have hS2:SlT v' (ls++[p]) ob':=slt_add hS'
 obtain ⟨A2,c2,rfl⟩:=hS2.form
 refine x_fin [2] [] λw6 f6 hO6=> ?_
 have hO7:=hO6.past 1 (yY B rr::slsB b2 (.slice A2 (ls++[p]).length c2)::(ob'++[]))
 clear hO6
 refine ⟨slsB b2 (.slice A2 (ls++[p]).length c2)::ob',⟨A2,c2,ls++[p],ob',rfl,hS2,by rw [List.append_assoc];exact hres,by omega⟩,hO7.cast (by simp)⟩
theorem apq_any (B:Nat)(s:YL)(W:World)(hO:Own [B] W W [yY B s])(hs:s.length<=600000):YC 82 #[.slice none 0 0,.func (.func 83) #[] #[.pointer (some ⟨B,0,none⟩)]] W λe w'=>∃ v ob,e= .returned v/\SlT v (gF [] s) ob/\Own [B] W w' (yY B []::ob):=by
 refine x_enterM hO Tryz.func82 (zY [] λb2=> ?_)
 refine x_range [] (g:= .tmp 6) (t:=7) aRF.1 aRF.2 (.seq (.region 4 (aRg 4) false) .ret) [(2,Zp b2 0),(6,.func (.func 83) #[] #[Zp B 0])] (slsB b2 (.slice none 0 0)::[yY B s]) λw f hOw=> ?_
 have hO0:Own [B] W w (yY B s::[slsB b2 (.slice none 0 0)]):=hOw.swap
 clear hOw
 have hres2:ev Tryz.f82.ntmps (jP f [(2,.pointer (some ⟨b2,0,none⟩)),(6,.func (.func 83) #[] #[.pointer (some ⟨B,0,none⟩)])]) (.tmp 2)= .pointer (some ⟨b2,0,none⟩):=by kernel_rfl
 refine wp_lines (B:=B) (s:=s) Kr (ColI b2 s) (λ_=>False) (λp=>upd (upd (jP f [(2,Zp b2 0),(6,.func (.func 83) #[] #[Zp B 0])]) (some 7) (.string (mkS p))) (some 5) (.string (mkS p))) (λp l w K hk=> ?_) (λr L l Wr hne hrel hOw=> ?_) ⟨none,0,[],[],rfl,Sl.nil _ _,rfl,Nat.le_refl _⟩ hO0 (by omega) ?_ (λD L w' hD h=>h.elim)
 ·have e:({tmps:=(Fr Tryz.f82.ntmps (jP f [(2,.pointer (some ⟨b2,0,none⟩)),(6,.func (.func 83) #[] #[.pointer (some ⟨B,0,none⟩)])])).tmps.setIfInBounds 7 (.string (mkS p)),defers:=[]}:Act)=Fr Tryz.f82.ntmps (upd (jP f [(2,.pointer (some ⟨b2,0,none⟩)),(6,.func (.func 83) #[] #[.pointer (some ⟨B,0,none⟩)])]) (some 7) (.string (mkS p))):=gV _ _ (some 7) _
  rw [e,aAssign_is]
  refine one_round (v:= .string (mkS p)) Kr Kr (λw=>Kr) ?_
  rw [show aAs.dst=some 5 from by kernel_rfl]
  exact hk
 ·have:=col_body hs (upd (jP f [(2,.pointer (some ⟨b2,0,none⟩)),(6,.func (.func 83) #[] #[.pointer (some ⟨B,0,none⟩)])]) (some 7) (.string (mkS (lnH r)))) r L l Wr hne hrel hOw
  rw [←gW [(2,.pointer (some ⟨b2,0,none⟩))] (gK Kr)] at this
  exact this
 ·rintro D L w' hD ⟨A,c,ls,ob,rfl,hS,hres,_⟩ hO' hdf
  have hls:ls=gF [] s:=by rw [←hres];simp [gF]
  show (Code.seq (.region 4 (aRg 4) false) .ret).wp YP (mkQ YP Tryz.f82 _) _ w'
  refine wp_seq ?_
  rw [aEnd_is]
  have hg:=hO'.held (slsB b2 (.slice A ls.length c)) (List.mem_cons_of_mem _ (List.mem_cons_self ..))
  refine two_marks (u:= .slice A ls.length c) (v:= .slice A ls.length c) Kr ?_ Kr Kr ?_
  ·exact kC (ty:=85) (x:= .tmp 2) (a:=⟨b2,0,none⟩) Kr hres2 (yM Kr hg)
  have hO3:=hO'.turn hD hdf rfl (.deferred none)
  refine wp_ret (leave_mark (v:= .slice A ls.length c) hdf Kr ?_)
  exact ⟨_,ob,rfl,hls▸hS,hO3.swap.past 1 (yY B []::ob)⟩
theorem col_any (B:Nat)(s:YL)(W:World)(hO:Own [B] W W [yY B s])(hs:s.length<=600000):YC 45 #[.func (.func 83) #[] #[.pointer (some ⟨B,0,none⟩)]] W λe w'=>∃ v ob,e= .returned v/\SlT v (gF [] s) ob/\Own [B] W w' (yY B []::ob):=by
 refine q9 hO Tryz.func45 (kW (k:=82) (args:= #[.slice none 0 0,.func (.func 83) #[] #[Zp B 0]]) (Rr:=λv ob'=>∃ o,ob'=yY B []::o/\SlT v (gF [] s) o) [] [yY B s] [] [yY B s] (λw hO=>hO) (λw hO=>(apq_any B s w (Own.lentR (R:=[]) hO) hs).mono λe w' ⟨v,o,q1,q2,q3⟩=>⟨v,_,q1,⟨o,rfl,q2⟩,q3⟩) ?_)
 rintro v _ ⟨o,rfl,hS⟩
 exact z8 [] v λw hO=>⟨v,o,rfl,hS,hO.past 0 (yY B []::o)⟩
end
section
set_option linter.unnecessarySimpa false
theorem readE_le:∀ (f:Nat) (l:List YL) (k:Nat) (es:List Et),(vN f l k es).2.2<=k+l.length
 |0,l,k,es=>Nat.le_add_right _ _
 |f+1,[],k,es=>Nat.le_refl _
 |f+1,p::r,k,es=>by
  rw [vN]
  have hx:=ext_le r
  split
  ·exact Nat.le_add_right _ _
  ·split
   ·exact Nat.le_add_right _ _
   ·have:=readE_le f (r.drop (ext r)) (k+(ext r+1)) (es++[(dN p (r.take (ext r)).flatten).2])
    rw [List.length_drop] at this
    rw [List.length_cons];omega
def ParI (s:YL)(v:Value)(ob:List Blk):Prop:=∃ y:Hv,v= .tuple #[hvV y,YI (jS s).2.1,YI (jS s).2.2]/\y.sh=(jS s).1/\ShO y ob
theorem fT (s:YL)(W:World)(hs:s.length<=1000000)(hK:RecLib W)(hL:LyAt W)(hOk:∀ p r,gF [] s=p::r->RdOk r.length r):YC 16 #[.string (mkS s)] W λe w'=>∃ v ob,e= .returned v/\ParI s v ob/\Own [] W w' ob:=by
 have hout:∀ (z k:Int) (w:World),jS s=(nilSh,z,k)->Own [] W w []→∃ v ob,Ending.returned (.tuple #[hvV hv0,YI z,YI k])= .returned v/\ParI s v ob/\Own [] W w ob:=λz k w e hO=>⟨_,[],rfl,⟨hv0,by rw [e],by rw [e];rfl,hv0_o⟩,hO⟩
 refine zD Tryz.func16 (zH [] λb2=>zG 13 [] ((s.length:Int)>524288) (λh13=> ?_) (λh13=> ?_))
 ·exact dU [0] 0 (hvV hv0) (YI 3) (YI 0) λw hO=>hout 3 0 w (by unfold jS;rw [if_pos Om]) hO.no
 have hs5:s.length<=600000:=by omega
 have hI:jS s=readL (gF [] s):=by unfold jS;rw [if_neg Om]
 obtain ⟨hl1,hl2⟩:=lns_all s.length s (Nat.le_refl _)
 refine yB (R:=λv ob=>∃ B,v= .func (.func 83) #[] #[Zp B 0]/\ob=[yY B s]) [] (λw hO=>qLines_any s w) ?_
 rintro v ob2 ⟨B,rfl,rfl⟩
 refine kW (k:=45) (args:= #[.func (.func 83) #[] #[Zp B 0]]) (Rr:=λv ob'=>∃ o,ob'=yY B []::o/\SlT v (gF [] s) o) [] (hvB b2 hv0::[yY B s]) [hvB b2 hv0] [yY B s] (λw hO=>hO) (λw hO=>(col_any B s w (Own.lentR hO) hs5).mono λe w' ⟨v,o,q1,q2,q3⟩=>⟨v,_,q1,⟨o,rfl,q2⟩,q3⟩) ?_
 rintro v _ ⟨o,rfl,hS⟩
 generalize gF [] s=ls at*
 obtain ⟨A,c,rfl⟩:=hS.form
 have hcap:=(SlT.caps hS).2
 cases ls with
 |nil=>exact dU [0] 0 (hvV hv0) (.int .i64 2) (.int .i64 1) λw hO=>hout 2 1 w (by rw [hI];rfl) hO.no
 |cons p r=>
 have hOk':=hOk p r rfl
 obtain ⟨g,hA,hld⟩:=wd_at hS rfl (by simp)
 have l0:∀ w,Own [] W w o->(loadVar 9 ⟨g,0+0*1+0,none⟩).run YP w= .ok (.string (mkS p)) w:=λw hO=>hld hO (λb h=>h) 0 (by simp)
 have hp:=(hl2 p (List.mem_cons_self ..)).1
 have hll:(p::r).length=r.length+1:=rfl
 have hrd:∀ w,Own [] W w o->Reads zW w w.heap.size (some ⟨g,0+(if c=1 then 0 else 1*1),none⟩) r:=λw hO=>by
  have h:=SlT.reads hS rfl hO λb h=>h
  rw [hA] at h
  have:=Reads.from_ zR h hcap 1
  exact this
 have hcN:∀ w,YC 47 #[.string (mkS p)] w (YR (.tuple #[.string (mkS ((dS p).getD [])),.bool (dS p).isSome]) w):=λw=>shn_any p w Om
 have hrl:readL (p::r)=match dS p with
  |none=>(nilSh,2,1)
  |some n=>outI n (vN r.length r 0 []):=rfl
 rw [hrl] at hI
 have hre:=readE_le r.length r 0 []
 have cR:∀ w,Own [] W w o->YC 48 #[.slice (some ⟨g,0+(if c=1 then 0 else 1*1),none⟩) r.length (c-1)] w λe w'=>∃ v ob,e= .returned v/\ReadB r v ob/\Own [] w w' ob:=λw hO=>rd_any _ (c-1) r w (hrd w hO) Om Om (λx hx=>by have:=hl2 x (List.mem_cons_of_mem _ hx);exact ⟨by omega,this.2⟩) (hK.on hO.below) (hL.on hO.below) hOk'
 refine zG 20 [] (((p::r).length:Int)=0) (λh=>absurd h Om) (λ_=>zL 24 [] hA (p::r).length c 0 1 (by simp) (zI 25 [] 9 g (0+0*1+0) (.string (mkS p)) (λw hO=>l0 w (hO.past 2 o)) (z7 (v:= .tuple #[.string (mkS ((dS p).getD [])),.bool (dS p).isSome]) [] (λw hO=>hcN w) ?_)))
 cases hh:dS p with
 |none=>
  rw [hh] at hI
  exact dU [0] 0 (hvV hv0) (YI 2) (YI 1) λw hO=>hout 2 1 w (by rw [hI]) hO.no
 |some nm=>
 rw [hh] at hI
 refine x_sllo 34 [] hA (p::r).length c 1 1 (by decide) Om (.slice (some ⟨g,0+(if c=1 then 0 else 1*1),none⟩) r.length (c-1)) (by rw [show (1:Int).toNat=1 from rfl,hll,Nat.add_sub_cancel]) (yB (k:=48) (args:= #[.slice (some ⟨g,0+(if c=1 then 0 else 1*1),none⟩) r.length (c-1)]) (R:=ReadB r) [] (λw hO=>cR w (hO.past 2 o)) ?_)
 rintro _ _ ⟨A2,c2,es,o1,o2,rfl,hes,rfl,hown⟩
 generalize vN r.length r 0 []=x at*
 refine gE 40 [] (x.2.1=0) (λh40=> ?_) (λh40=> ?_)
 rotate_left
 ·exact x_i 44 [] ((x.2.2:Int)+2) (dU [0] 0 (hvV hv0) (YI x.2.1) (YI ((x.2.2:Int)+2)) λw hO=>hout _ _ w (by rw [hI];exact if_pos h40) hO.no)
 ·have hI2:jS s=(⟨nm,x.1⟩,0,0):=by rw [hI];exact if_neg (by simpa using h40)
  exact dU [0] 0 (hvV ⟨nm,A2,c2,es⟩) (YI 0) (YI 0) λw hO=>⟨_,o1++o2,rfl,⟨⟨nm,A2,c2,es⟩,by rw [hI2],by rw [hI2];show (⟨nm,es.map Ev.et⟩:Sh)=_;rw [hes],⟨o1,o2,rfl,hown⟩⟩,(hO.past 2 (o++(o1++o2))).sublist (List.sublist_append_right _ _)⟩
end
section
set_option linter.unnecessarySimpa false
theorem r13One_any (a v:Ver)(W:World)(h1:a.pre.length<=1000000)(h2:a.build.length<=1000000)(h3:v.pre.length<=1000000)(h4:v.build.length<=1000000):YC 123 #[yT a,yT v] W (YR (.bool (oneV a v)) W):=by
 have cA:∀ w,YC 105 #[yT a] w (YR (.bool a.may) w):=λw=>wI a w h1 h2
 have cV:∀ w,YC 105 #[yT v] w (YR (.bool v.may) w):=λw=>wI v w h3 h4
 have cC:∀ w,YC 68 #[yT a,yT v] w (YR (YI (qQ a v)) w):=λw=>rcompareQ_any a v w h1 h2 h3 h4
 refine zD Tryz.func123 (zY [] λb2=>zY [] λb3=>z7 (v:= .bool a.may) [1] (λw hO=>cA w) (zV 6 a.may (λha=> ?_) (λha=> ?_)))
 rotate_left
 ·exact z8 [] Z5 λw hO=>⟨by unfold oneV;rw [ha];rfl,hO.below⟩
 refine z7 (v:= .bool v.may) [0] (λw hO=>cV w) (zV 9 v.may (λhv=> ?_) (λhv=> ?_))
 rotate_left
 ·exact z8 [] Z5 λw hO=>⟨by unfold oneV;rw [ha,hv];rfl,hO.below⟩
 exact z7 (v:=YI (qQ a v)) [1,0] (λw hO=>cC w) (z8 [] (.bool (decide (qQ a v=0))) λw hO=>⟨by unfold oneV;rw [ha,hv];rfl,hO.below⟩)
theorem r13Place_any (A:Option Addr)(cap:Nat)(es:List Ev)(nm:YL)(v:Ver)(W:World)(hx:EsIn W W.heap.size A es)(h3:v.pre.length<=1000000)(h4:v.build.length<=1000000):YC 78 #[.slice A es.length cap,.string (mkS nm),yT v] W (YR (YI (y8 (es.map Ev.et) nm v)) W):=by
 refine zD Tryz.func78 (zY [] λb5=> ?_)
 have hB:∀ w,Own [] W w [⟨b5,(ZP v),42⟩]->YB W w:=λw hO=>hO.below
 refine zT (α:=Nat) (λi=>[(0,.slice A es.length cap),(1,.string (mkS nm)),(5,Zp b5 0),(7,YI (i:Int))]) (λ_=>[⟨b5,(ZP v),42⟩]) (λi m=>(i<=es.length∧∀ e∈(es.map Ev.et).take i,gO nm v e=false)/\m=es.length-i) 0 es.length [] ⟨⟨Nat.zero_le _,λe h=>by simp at h⟩,rfl⟩ ?_
 rintro i mm g kk ⟨⟨hi,hno⟩,hmm⟩ nx hkk
 subst hkk
 refine zG 11 [] ((i:Int)<(es.length:Int)) (λh11=> ?_) (λh11=> ?_)
 rotate_left
 ·exact z8 [] (YI (-1)) λw hO=>⟨by rw [place_none.2 λe he=>hno e (by rw [show i=es.length by omega,←List.length_map (f:=Ev.et),List.take_length];exact he)],hO.below⟩
 have hn5:=hx.n
 have hj:i<es.length:=by omega
 have hjm:i<(es.map Ev.et).length:=by simpa using hj
 obtain ⟨eb,eo,hA,hel⟩:=hx.top.elem vJ i hj
 have hn0:∀ w,YB W w->(loadVar 9 ⟨eb,eo+i*11+0,none⟩).run YP w= .ok (.string (mkS es[i].rec'.name)) w:=λw hw=>hel w hw _ 0 _ Kr
 have hv0:∀ w,YB W w->(loadVar 42 ⟨eb,eo+i*11+1,none⟩).run YP w= .ok (yT es[i].rec'.ver) w:=λw hw=>hel w hw _ 1 _ Kr
 have hsn:=(hx.each _ (List.getElem_mem hj)).sn
 have hat:gO nm v es[i].et=true->y8 (es.map Ev.et) nm v=(i:Int):=λh=>place_at hjm hno (by rw [List.getElem_map];exact h)
 have hstep:gO nm v es[i].et=false→∀ e∈(es.map Ev.et).take (i+1),gO nm v e=false:=λh e he=>by
  rw [List.take_succ_eq_append_getElem hjm,List.getElem_map] at he
  rcases List.mem_append.1 he with he|he
  ·exact hno e he
  ·rw [List.mem_singleton.1 he];exact h
 have hdef:gO nm v es[i].et=(decide (es[i].rec'.name=nm) && oneV es[i].rec'.ver v):=rfl
 rw [hdef] at hat hstep
 generalize es[i]=u at*
 have cO:∀ w,YC 123 #[yT u.rec'.ver,yT v] w (YR (.bool (oneV u.rec'.ver v)) w):=λw=>r13One_any u.rec'.ver v w hsn.2.1 hsn.2.2 h3 h4
 refine zL 16 [] hA es.length cap i 11 hj (zI 19 [] 9 eb (eo+i*11+0) (.string (mkS u.rec'.name)) (λw hO=>hn0 w hO.below) (xH 21 [] u.rec'.name nm (λhnm=> ?_) (λhnm=> ?_)))
 rotate_left
 ·exact x_i 13 [] ((i+1:Nat):Int) (nx (i+1) (es.length-(i+1)) [] Om ⟨⟨hj,hstep (by rw [decide_eq_false hnm];rfl)⟩,rfl⟩ Kr Kr)
 rw [decide_eq_true hnm,Bool.true_and] at hat hstep
 refine zL 25 [] hA es.length cap i 11 hj (zI 28 [] 42 eb (eo+i*11+1) (yT u.rec'.ver) (λw hO=>hv0 w hO.below) (z7 (v:= .bool (oneV u.rec'.ver v)) [0] (λw hO=>cO w) (nP 31 [] (oneV u.rec'.ver v) (λho=> ?_) (λho=> ?_))))
 ·exact z8 [] (YI (i:Int)) λw hO=>⟨by rw [hat ho],hO.below⟩
 ·exact x_i 13 [] ((i+1:Nat):Int) (nx (i+1) (es.length-(i+1)) [] Om ⟨⟨hj,hstep ho⟩,rfl⟩ Kr Kr)
theorem place_self {l:List Et}{n:YL}{v:Ver}{i:Nat}(hi:i<l.length)(hs:gO n v l[i]=true):y8 l n v=(i:Int)↔y8 (l.take i) n v= -1:=by
 rw [place_none]
 constructor
 ·intro h
  obtain ⟨j,hj,e,_,h0⟩:=place_some (l:=l) (n:=n) (v:=v) Om
  obtain rfl:j=i:=by omega
  exact h0
 ·intro h;exact place_at hi h hs
theorem r13May_any (x:Hv)(W:World)(hx:ShIn W W.heap.size x):YC 40 #[hvV x] W (YR (.bool (decide (x3 x.sh))) W):=by
 have hno:∀ w,YB W w→¬ x3 x.sh->(Ending.returned (.bool false)= .returned (.bool (decide (x3 x.sh))))/\YB W w:=λw hb h=>⟨by rw [decide_eq_false h],hb⟩
 have hyes:∀ w,YB W w->x3 x.sh->(Ending.returned (.bool true)= .returned (.bool (decide (x3 x.sh))))/\YB W w:=λw hb h=>⟨by rw [decide_eq_true h],hb⟩
 have hpre:x3 x.sh→∀ i,PreM ((x.es.map Ev.et).take i):=λh i=>may_pre13 h i
 have hmk:nmL x.name=true->x.es.length<=64->PreM (x.es.map Ev.et)->x3 x.sh:=λa b c=>pre_may a (by simpa [Hv.sh] using b) c
 have hnot:x3 x.sh->nmL x.name=true:=λh=>h.name
 have hfew:x3 x.sh->x.es.length<=64:=λh=>by simpa [Hv.sh] using h.few
 obtain ⟨hE,hle,hsn⟩:=hx
 have c1:∀ w,YC 76 #[.string (mkS x.name)] w (YR (.bool (nmL x.name)) w):=λw=>fK x.name w hsn
 refine zD Tryz.func40 (zY [] λb1=>z7 (v:= .bool (nmL x.name)) [0] (λw hO=>c1 w) (zV 9 (nmL x.name) (λh9=> ?_) (λh9=> ?_)))
 rotate_left
 ·exact z8 [] Z5 λw hO=>hno w hO.below λh=>by rw [hnot h] at h9;cases h9
 refine zG 15 [0] ((x.es.length:Int)>64) (λh15=> ?_) (λh15=> ?_)
 ·exact z8 [] Z5 λw hO=>hno w hO.below λh=>by have:=hfew h;omega
 refine zT (α:=Nat) (λi=>[(1,Zp b1 0),(3,YI (i:Int))]) (λ_=>[hvB b1 x]) (λi m=>(i<=x.es.length/\PreM ((x.es.map Ev.et).take i))/\m=x.es.length-i) 0 x.es.length [] ⟨⟨Nat.zero_le _,⟨λe h=>by simp at h,by simp⟩⟩,rfl⟩ ?_
 rintro i mm g kk ⟨⟨hi,hP⟩,hmm⟩ nx hkk
 subst hkk
 refine zG 21 [0] ((i:Int)<(x.es.length:Int)) (λh21=> ?_) (λh21=> ?_)
 rotate_left
 ·exact z8 [] Z4 λw hO=>hyes w hO.below (hmk h9 Om (by rw [show i=x.es.length by omega,←List.length_map (f:=Ev.et),List.take_length] at hP;exact hP))
 have hj:i<x.es.length:=by omega
 have hjm:i<(x.es.map Ev.et).length:=by simpa using hj
 obtain ⟨eb,eo,hA,hel⟩:=hE.top.elem vJ i hj
 have hel0:∀ w,YB W w->(loadVar 69 ⟨eb,eo+i*11+0,none⟩).run YP w= .ok (evV x.es[i]) w:=λw hw=>hel w hw _ 0 _ Kr
 have hR:=hE.each _ (List.getElem_mem hj)
 have hstep:PreM ((x.es.map Ev.et).take (i+1))↔PreM ((x.es.map Ev.et).take i)/\okE x.es[i].et/\y8 ((x.es.map Ev.et).take i) x.es[i].rec'.name x.es[i].rec'.ver= -1:=by
  rw [List.take_succ_eq_append_getElem hjm,List.getElem_map];exact pre_step
 have hself:okE x.es[i].et->(y8 (x.es.map Ev.et) x.es[i].rec'.name x.es[i].rec'.ver=(i:Int)↔y8 ((x.es.map Ev.et).take i) x.es[i].rec'.name x.es[i].rec'.ver= -1):=λhk=>by
  refine place_self hjm ?_
  have hm:x.es[i].rec'.ver.may=true:=(yS hk.1).2.1
  rw [List.getElem_map]
  show (decide (x.es[i].rec'.name=x.es[i].rec'.name) && (x.es[i].rec'.ver.may && x.es[i].rec'.ver.may && decide (qQ x.es[i].rec'.ver x.es[i].rec'.ver=0)))=true
  rw [hm,order_self];simp
 have hq:=λh=>(hstep.1 (hpre h (i+1))).2
 generalize x.es[i]=u at*
 have cS:∀ w,YB W w->YC 77 #[rvV u.rec'] w (YR (.tuple #[.int .u64 (yL u.rec'.rt),YI (zK u.rec'.rt).1]) w):=λw hb=>r12Sum_any u.rec' w (hR.on hb hb.size)
 have cP:∀ w,YB W w->YC 78 #[.slice x.A x.es.length x.cap,.string (mkS u.rec'.name),yT u.rec'.ver] w (YR (YI (y8 (x.es.map Ev.et) u.rec'.name u.rec'.ver)) w):=λw hb=>r13Place_any x.A x.cap x.es u.rec'.name u.rec'.ver w (hE.on hb hb.size) hR.sn.2.1 hR.sn.2.2
 generalize y8 (x.es.map Ev.et) u.rec'.name u.rec'.ver=z at cP hself
 have hok:okE u.et↔(zK u.rec'.rt).1=0/\yL u.rec'.rt=u.sum:=Iff.rfl
 refine zL 27 [0] hA x.es.length x.cap i 11 hj (zI 28 [] 69 eb (eo+i*11+0) (evV u) (λw hO=>hel0 w hO.below) (zH [] λb4=>z7 (v:= .tuple #[.int .u64 (yL u.rec'.rt),YI (zK u.rec'.rt).1]) [0,0] (λw hO=>cS w hO.below) (gE 36 [] ((zK u.rec'.rt).1=0) (λh32=> ?_) (λh32=> ?_))))
 rotate_left
 ·exact z8 [] Z5 λw hO=>hno w hO.below λh=>h32 (hq h).1.1
 refine gE 41 [0] (yL u.rec'.rt=u.sum) (λh37=> ?_) (λh37=> ?_)
 rotate_left
 ·exact z8 [] Z5 λw hO=>hno w hO.below λh=>h37 (hq h).1.2
 have hs2:=hself (hok.2 ⟨h32,h37⟩)
 refine z7 (v:=YI z) [1,0,0] (λw hO=>cP w hO.below) (gE 54 [] (z=(i:Int)) (λh51=> ?_) (λh51=> ?_))
 ·exact x_i 23 [] ((i+1:Nat):Int) (zQ [] [hvB b1 x] (λw hO=>hO.past 1 _) (nx (i+1) (x.es.length-(i+1)) [] Om ⟨⟨hj,hstep.2 ⟨hP,hok.2 ⟨h32,h37⟩,hs2.1 h51⟩⟩,rfl⟩ Kr Kr))
 ·exact z8 [] Z5 λw hO=>hno w hO.below λh=>h51 (hs2.2 (hq h).2)
end
section
set_option linter.unnecessarySimpa false
def PutR13 (x:Hv)(r:Rv)(v:Value)(ob:List Blk):Prop:=((dB x.sh r.rt).2=0∧∃ A c,v= .tuple #[hvV ⟨x.name,A,c,x.es++[⟨r,yL r.rt,false⟩]⟩,YI 0]/\Sl 69 11 (.slice A (x.es++[(⟨r,yL r.rt,false⟩:Ev)]).length c) (x.es++[(⟨r,yL r.rt,false⟩:Ev)]).length ((x.es++[(⟨r,yL r.rt,false⟩:Ev)]).flatMap evC) ob)\/((dB x.sh r.rt).2≠0/\v= .tuple #[hvV hv0,YI (dB x.sh r.rt).2]/\ob=[])
theorem r13Put_any (x:Hv)(r:Rv)(W:World)(hx:ShIn W W.heap.size x)(hr:RcIn W W.heap.size r):YC 44 #[hvV x,rvV r] W λe w'=>∃ v ob,e= .returned v/\PutR13 x r v ob/\Own [] W w' ob:=by
 have cM:∀ w,YB W w->YC 40 #[hvV x] w (YR (.bool (decide (x3 x.sh))) w):=λw hb=>r13May_any x w (hx.on hb hb.size)
 have cS:∀ w,YB W w->YC 77 #[rvV r] w (YR (.tuple #[.int .u64 (yL r.rt),YI (zK r.rt).1]) w):=λw hb=>r12Sum_any r w (hr.on hb hb.size)
 have cP:∀ w,YB W w->YC 78 #[.slice x.A x.es.length x.cap,.string (mkS r.name),yT r.ver] w (YR (YI (y8 x.sh.es r.name r.ver)) w):=λw hb=>r13Place_any x.A x.cap x.es r.name r.ver w (hx.es.on hb hb.size) hr.sn.2.1 hr.sn.2.2
 have hl0:x.sh.es.length=x.es.length:=by simp [Hv.sh]
 have hn5:=hx.es.n
 have hmz:1<=x.es.length+1:=by omega
 have hPR:∀ v ob,PutR13 x r v ob↔((dB x.sh r.rt).2=0∧∃ A c,v= .tuple #[hvV ⟨x.name,A,c,x.es++[⟨r,yL r.rt,false⟩]⟩,YI 0]/\Sl 69 11 (.slice A (x.es++[(⟨r,yL r.rt,false⟩:Ev)]).length c) (x.es++[(⟨r,yL r.rt,false⟩:Ev)]).length ((x.es++[(⟨r,yL r.rt,false⟩:Ev)]).flatMap evC) ob)\/((dB x.sh r.rt).2≠0/\v= .tuple #[hvV hv0,YI (dB x.sh r.rt).2]/\ob=[]):=λv ob=>Iff.rfl
 simp only [hPR]
 clear hPR
 have hc64:∀ z,y8 x.sh.es r.name r.ver=z->(dB x.sh r.rt).2=if x3 x.sh then if (zK r.rt).1=0 then if z= -1 then if x.es.length=64 then 10 else 0 else 8 else (zK r.rt).1 else 1:=λz e=>by
  subst e
  unfold dB
  rw [hl0]
  have e:y8 x.sh.es r.rt.name r.rt.ver=y8 x.sh.es r.name r.ver:=rfl
  rw [e]
  split<;>(try split)<;>(try split)<;>(try split)<;>rfl
 have hfew:=λh:x3 x.sh=>h.few
 rw [hl0] at hfew
 obtain ⟨z,hz⟩:∃ z,y8 x.sh.es r.name r.ver=z:=⟨_,rfl⟩
 have hge:=place_ge x.sh.es r.name r.ver
 rw [hz] at cP hge
 have hp:=hc64 z hz
 clear hc64 hz
 generalize (dB x.sh r.rt).2=p at hp
 have hout:∀ (q:Int) (w:World),p=q->q≠0->Own [] W w []→∃ v ob,Ending.returned (.tuple #[hvV hv0,YI q])= .returned v/\((p=0∧∃ A c,v= .tuple #[hvV ⟨x.name,A,c,x.es++[⟨r,yL r.rt,false⟩]⟩,YI 0]/\Sl 69 11 (.slice A (x.es++[(⟨r,yL r.rt,false⟩:Ev)]).length c) (x.es++[(⟨r,yL r.rt,false⟩:Ev)]).length ((x.es++[(⟨r,yL r.rt,false⟩:Ev)]).flatMap evC) ob)\/(p≠0/\v= .tuple #[hvV hv0,YI p]/\ob=[]))/\Own [] W w ob:=λq w e h0 hO=>⟨_,[],rfl,.inr ⟨e▸h0,by rw [e],rfl⟩,hO⟩
 refine zD Tryz.func44 (zY [] λb2=>zY [] λb3=>zH [] λb4=>z7 (v:= .bool (decide (x3 x.sh))) [2] (λw hO=>cM w hO.below) (fI 9 (x3 x.sh) (λhm=> ?_) (λhm=> ?_)))
 rotate_left
 ·exact gG [0] 0 (hvV hv0) (YI 1) λw hO=>hout 1 w (by rw [hp,if_neg hm]) (by decide) hO.no
 rw [if_pos hm] at hp
 have hfew:=hfew hm
 refine z7 (v:= .tuple #[.int .u64 (yL r.rt),YI (zK r.rt).1]) [1] (λw hO=>cS w hO.below) (gE 19 [] ((zK r.rt).1=0) (λhc=> ?_) (λhc=> ?_))
 rotate_left
 ·exact gG [0] 0 (hvV hv0) (YI (zK r.rt).1) λw hO=>hout _ w (by rw [hp,if_neg hc]) hc hO.no
 rw [if_pos hc] at hp
 refine z7 (v:=YI z) [2,1,1] (λw hO=>cP w hO.below) (zG 30 [] (z>=0) (λh30=> ?_) (λh30=> ?_))
 ·exact gG [0] 0 (hvV hv0) (YI 8) λw hO=>hout _ w (by rw [hp,if_neg Om]) (by decide) hO.no
 rw [if_pos Om] at hp
 refine zG 36 [2] ((x.es.length:Int)>=64) (λh36=> ?_) (λh36=> ?_)
 ·exact gG [0] 0 (hvV hv0) (YI 10) λw hO=>hout _ w (by rw [hp,if_pos Om]) (by decide) hO.no
 rw [if_neg Om] at hp
 subst hp
 have hrd:∀ w,Own [] W w [⟨b4,ZM,24⟩,⟨b3,(rvV r).cells,47⟩,hvB b2 x]->Reads evC w w.heap.size x.A x.es:=λw hO=>hx.es.top.on hO.below hO.size
 have hrd2:∀ b46 w,Own [] W w (⟨b46,(evV ⟨r,yL r.rt,false⟩).cells,69⟩::[⟨b4,ZM,24⟩,⟨b3,(rvV r).cells,47⟩,hvB b2 x])->Reads evC w w.heap.size x.A x.es:=λb46 w hO=>hx.es.top.on hO.below hO.size
 refine x4 11 [] [⟨b4,ZM,24⟩,⟨b3,(rvV r).cells,47⟩,hvB b2 x] (λw hO=>hO.past 0 _) (x_h2 [2,2,1] 4 8 (qR (g:=evC) (T:=69) (sz:=11) (cp:=x.cap) x.es [⟨b4,ZM,24⟩,⟨b3,(rvV r).cells,47⟩,hvB b2 x] [] [] [⟨b4,ZM,24⟩,⟨b3,(rvV r).cells,47⟩,hvB b2 x] [⟨b4,ZM,24⟩,⟨b3,(rvV r).cells,47⟩,hvB b2 x] (λw hO=>hO) (λo w hO=>(hO.sublist (List.sublist_append_left _ _)).sublist (List.sublist_append_left _ _)) vJ evC_one (λw hO=>hrd w hO) (Sl.nil _ _) (by omega) λv1 o1 hS=>zX [] 8 (gR 1 69 (evV ⟨r,yL r.rt,false⟩).cells λb46=> ?_)) (gR 1 69 (evV ⟨r,yL r.rt,false⟩).cells λb46=>zX [] 4 (qR (g:=evC) (T:=69) (sz:=11) (cp:=x.cap) x.es (⟨b46,(evV ⟨r,yL r.rt,false⟩).cells,69⟩::[⟨b4,ZM,24⟩,⟨b3,(rvV r).cells,47⟩,hvB b2 x]) [] [] (⟨b46,(evV ⟨r,yL r.rt,false⟩).cells,69⟩::[⟨b4,ZM,24⟩,⟨b3,(rvV r).cells,47⟩,hvB b2 x]) [⟨b4,ZM,24⟩,⟨b3,(rvV r).cells,47⟩,hvB b2 x] (λw hO=>hO) (λo w hO=>(hO.sublist (List.sublist_append_left _ _)).sublist (List.Sublist.trans (List.sublist_cons_self _ _) (List.sublist_append_left _ _))) vJ evC_one (λw hO=>hrd2 b46 w hO) (Sl.nil _ _) (by omega) λv1 o1 hS=> ?_)))
 all_goals
  obtain ⟨A1,c1,rfl⟩:=Sl.form hS
  refine zX [] 9 (wD (T:=69) (sz:=11) (⟨b46,(evV ⟨r,yL r.rt,false⟩).cells,69⟩::[⟨b4,ZM,24⟩,⟨b3,(rvV r).cells,47⟩,hvB b2 x]) o1 [] 0 (⟨b46,(evV ⟨r,yL r.rt,false⟩).cells,69⟩::(([⟨b4,ZM,24⟩,⟨b3,(rvV r).cells,47⟩,hvB b2 x]:List Blk)++o1++[])) [⟨b4,ZM,24⟩,⟨b3,(rvV r).cells,47⟩,hvB b2 x] (λw hO=>hO.cast (by simp only [List.append_assoc,List.cons_append,List.nil_append])) (λo w hO=>(hO.sublist (List.sublist_append_left _ _)).sublist (List.Sublist.trans (List.sublist_cons_self _ _) (List.sublist_append_left _ _))) hS (m:=1) (cp:=1) Om λv2 o2 hS2=> ?_)
  obtain ⟨A2,c2,rfl⟩:=Sl.form hS2
  have e1:0+x.es.length+1=(x.es++[(⟨r,yL r.rt,false⟩:Ev)]).length:=by rw [List.length_append,List.length_singleton];omega
  have e2:[]++x.es.flatMap evC++(evV ⟨r,yL r.rt,false⟩).cells.toList=(x.es++[(⟨r,yL r.rt,false⟩:Ev)]).flatMap evC:=by rw [List.flatMap_append,List.flatMap_singleton];rfl
  refine gG [1] 1 (.agg #[.string (mkS x.name),.slice A2 (0+x.es.length+1) c2]) (YI 0) λw hO=> ?_
  have hO':=hO.past 4 (o2++[])
  clear hO
  have hS3:∀ k,0+x.es.length+1=k->k=(x.es++[(⟨r,yL r.rt,false⟩:Ev)]).length→∃ v ob,Ending.returned (.tuple #[.agg #[.string (mkS x.name),.slice A2 k c2],YI 0])= .returned v/\(((0:Int)=0∧∃ A c,v= .tuple #[hvV ⟨x.name,A,c,x.es++[⟨r,yL r.rt,false⟩]⟩,YI 0]/\Sl 69 11 (.slice A (x.es++[(⟨r,yL r.rt,false⟩:Ev)]).length c) (x.es++[(⟨r,yL r.rt,false⟩:Ev)]).length ((x.es++[(⟨r,yL r.rt,false⟩:Ev)]).flatMap evC) ob)\/((0:Int)≠0/\v= .tuple #[hvV hv0,YI 0]/\ob=[]))/\Own [] W w ob:=λk hk hk2=>by
   subst hk
   rw [hk2] at hS2 ⊢
   exact ⟨_,o2,rfl,.inl ⟨rfl,A2,c2,rfl,Sl.to hS2 rfl e2⟩,hO'.cast (by simp)⟩
  exact hS3 _ rfl e1
theorem r13SameE_any (x y:Ev)(W:World)(hx:RcSm W W.heap.size x.rec')(hy:RcSm W W.heap.size y.rec'):YC 49 #[evV x,evV y] W (YR (.bool (decide (jY x.et=jY y.et))) W):=by
 have c:∀ w,YB W w->YC 89 #[rvV x.rec',rvV y.rec'] w (YR (.bool (decide (x.rec'.rt=y.rec'.rt))) w):=λw hb=>r12Same_any x.rec' y.rec' w (hx.on hb hb.size) (hy.on hb hb.size)
 have hd:jY x.et=jY y.et↔x.rec'.rt=y.rec'.rt/\x.sum=y.sum:=Prod.mk.injEq .. ▸Iff.rfl
 refine zD Tryz.func49 (zY [] λb2=>zY [] λb3=>zG 9 [1,0] (x.sum=y.sum) (λh=> ?_) (λh=> ?_))
 ·exact z7 (v:= .bool (decide (x.rec'.rt=y.rec'.rt))) [1,0] (λw hO=>c w hO.below) (z8 [] (.bool (decide (x.rec'.rt=y.rec'.rt))) λw hO=>⟨by rw [show decide (x.rec'.rt=y.rec'.rt)=decide (jY x.et=jY y.et) from by rw [decide_eq_decide,hd];exact ⟨λq=>⟨q,h⟩,λq=>q.1⟩],hO.below⟩)
 ·exact z8 [] Z5 λw hO=>⟨by rw [decide_eq_false λq=>h (hd.1 q).2],hO.below⟩
end
section
set_option linter.unnecessarySimpa false
theorem put_is {s:Sh}{r:Rt}(h:x3 s)(hc:(zK r).1=0)(hl:s.es.length<64):dB s r=if y8 s.es r.name r.ver= -1 then (⟨s.name,s.es++[⟨r,yL r,false⟩]⟩,0) else (nilSh,8):=by
 unfold dB
 rw [if_pos h,if_pos hc,if_neg (show ¬ s.es.length=64 by omega)]
def oneN:YL:=[111,110,101]
def s0v:Hv:=⟨[111,110,101],none,0,[]⟩
def r0v:Rv:=⟨[98],1,0,0,[],[],none,0,[],none,0,[],none,0,[]⟩
theorem s0_in (w:World):ShIn w w.heap.size s0v:=⟨⟨λh=>absurd h (by decide),(λe h=>by cases h),by decide⟩,by decide,by decide⟩
def es0 (y:Bool):List Et:=[⟨r0v.rt,yL r0v.rt,y⟩]
end
section
theorem nmF_word:∀ j,j<4->wdL (nmF j)=true/\(zO (nmF j)).1=1/\(zO (nmF j)).2.1=nmF j
 |0,_=>⟨by kernel_rfl,by kernel_rfl,by kernel_rfl⟩
 |1,_=>⟨by kernel_rfl,by kernel_rfl,by kernel_rfl⟩
 |2,_=>⟨by kernel_rfl,by kernel_rfl,by kernel_rfl⟩
 |3,_=>⟨by kernel_rfl,by kernel_rfl,by kernel_rfl⟩
theorem opt_kind:∀ j,j<4->(zO ([63]++v7 j)).1=2
 |0,_=>by kernel_rfl
 |1,_=>by kernel_rfl
 |2,_=>by kernel_rfl
 |3,_=>by kernel_rfl
theorem pull_kind:∀ j,j<5->(zO (x2 j++[47]++[120])).1=3
 |0,_=>by kernel_rfl
 |1,_=>by kernel_rfl
 |2,_=>by kernel_rfl
 |3,_=>by kernel_rfl
 |4,_=>by kernel_rfl
def four (a b c d:Bool):List YL:=(if a then [nmF 0] else [])++((if b then [nmF 1] else [])++((if c then [nmF 2] else [])++if d then [nmF 3] else []))
theorem rise_16:∀ a b c d,xR (four a b c d)=true:=by decide
theorem rise_four (keep:Nat->Bool):xR (((List.range 4).filter keep).map nmF)=true:=by
 have e:List.range 4=[0,1,2,3]:=rfl
 have h:=rise_16 (keep 0) (keep 1) (keep 2) (keep 3)
 rw [e]
 unfold four at h
 cases h0:keep 0<;>cases h1:keep 1<;>cases h2:keep 2<;>cases h3:keep 3<;>simp only [h0,h1,h2,h3] at h<;>simpa [List.filter,h0,h1,h2,h3] using h
theorem feats_may {own:Nat}{keep:Nat->Bool}{x:Rv}(h:RecG own keep x):jU (yI x.fts)=true:=by
 have hn:(yI x.fts).map Ft.name=((List.range 4).filter keep).map nmF:=by
  rw [←h.fts.names];unfold yI;rw [List.map_map];rfl
 have hin:∀ f∈yI x.fts,∃ j,j<4/\f.name=nmF j:=λf hf=>by
  have:f.name∈(yI x.fts).map Ft.name:=List.mem_map_of_mem hf
  rw [hn] at this
  obtain ⟨j,hj,e⟩:=List.mem_map.1 this
  exact ⟨j,List.mem_range.1 (List.mem_filter.1 hj).1,e.symm⟩
 have his:∀ j,j<4->keep j=true->isT (yI x.fts) (nmF j)=true:=λj hj hk=>by
  have:nmF j∈(yI x.fts).map Ft.name:=by rw [hn];exact List.mem_map_of_mem (List.mem_filter.2 ⟨List.mem_range.2 hj,hk⟩)
  obtain ⟨f,hf,e⟩:=List.mem_map.1 this
  unfold isT findT
  rw [Bool.or_eq_true]
  exact .inr (List.findIdx?_isSome.trans (List.any_eq_true.2 ⟨f,hf,decide_eq_true e⟩))
 unfold jU
 simp only [Bool.and_eq_true,decide_eq_true_eq,List.all_eq_true]
 refine ⟨⟨⟨?_,λf hf=> ?_⟩,by rw [hn];exact rise_four keep⟩,λf hf=> ?_⟩
 ·have e:=congrArg List.length hn
  rw [List.length_map,List.length_map] at e
  have:=List.length_filter_le keep (List.range 4)
  rw [List.length_range] at this;omega
 ·obtain ⟨j,hj,e⟩:=hin f hf
  rw [e];exact (nmF_word j hj).1
 ·obtain ⟨y,hy,rfl⟩:=List.mem_map.1 hf
  have hg:=h.fts.each y hy
  unfold kA
  simp only [Bool.and_eq_true,decide_eq_true_eq,List.all_eq_true]
  refine ⟨⟨Nat.le_trans hg.len Om,hg.rise⟩,λs hs=> ?_⟩
  unfold vR
  simp only [Bool.and_eq_true,Bool.or_eq_true,decide_eq_true_eq]
  rcases hg.all s hs with ⟨m,hm,hne,rfl⟩|⟨m,hm,w,hw,rfl⟩|⟨j,hj,hk,rfl⟩
  ·rcases (h.needs m hm).opt with e|⟨j,hj,e⟩
   ·exact absurd e hne
   ·rw [e,opt_kind j hj];exact ⟨by omega,.inl Om⟩
  ·have key:∀ (a:Bool) (u:Wv),WishG own a u->(zO (u.name++[47]++[120])).1=3:=λa u hu=>by
    obtain ⟨k,_,e⟩:=hu.name
    rw [e];exact pull_kind _ Om
   have h3:(zO (w.name++[47]++[120])).1=3:=by
    rcases (h.needs m hm).any with ⟨u,e,hu⟩|⟨u,z,e,_,_⟩
    ·rw [hw] at e;injection e with e1 _;rw [e1];exact key _ _ hu
    ·rw [hw] at e;simp at e
   rw [h3];exact ⟨by omega,.inl Om⟩
  ·obtain ⟨_,k1,k2⟩:=nmF_word j hj
   rw [k1,k2];exact ⟨by omega,.inr (his j hj hk)⟩
end
section
theorem check_is {r:Rt}(h1:nmL r.name=true)(h2:r.ver.may=true)(h3:r.needs.length<=8)(h4:r.bars.length<=8)(h5:∀ n∈r.needs,kK r.name n=0)(h6:∀ b∈r.bars,vQ r.name b=0)(h7:jU r.fts=true)(h8:∀ f∈r.fts,yR (xF r.needs) f.of=0)(h9:(yK r).length<=4096):zK r=(0,0):=by
 have hp:kS r=(0,0):=by
  unfold kS
  rw [gI h5,if_neg (by simp),gI h6,if_neg (by simp),if_neg (by simp [h7]),gI h8]
 unfold zK
 rw [if_neg (by simp [h1]),if_neg (by simp [h2]),if_neg Om,hp,if_neg (by simp),if_neg Om]
theorem few_all12:∀ op∈[(7:Int),6,3,1,2],∀ a:Nat,a<3→∀ b:Nat,b<2->kE (Co.print ⟨op,3,⟨(a:Int),(b:Int),0,[],[]⟩⟩)=true:=by decide+kernel
theorem few_plain {t:YL}(h:FewT t):kE t=true:=by
 rcases h with rfl|⟨c,hc,rfl⟩
 ·decide+kernel
 ·obtain ⟨a,b,ha,hb,hv⟩:=hc.v
  have e:c=⟨c.op,3,⟨(a:Int),(b:Int),0,[],[]⟩⟩:=by rw [←hv,←hc.parts]
  rw [e]
  refine few_all12 c.op ?_ a ha b hb
  rcases hc.op with e|e|e|e|e<;>rw [e]<;>decide
theorem when_all:∀ k:Nat,k<3→∀ c:Nat,c<2→∀ j:Nat,j<4->x7 (m4 k++sepT c++v7 j)=true:=by decide+kernel
theorem when_plain {t:YL}(h:WhenT t):x7 t=true:=by
 rcases h with rfl|⟨k,c,j,hk,rfl⟩
 ·decide+kernel
 ·have hj:∃ i,i<4/\v7 j=v7 i:=by
   by_cases h:j<4
   ·exact ⟨j,h,rfl⟩
   ·exact ⟨3,by decide,by unfold v7;rw [if_neg Om,if_neg Om,if_neg Om];rfl⟩
  have hc:∃ i,i<2/\sepT c=sepT i:=by
   by_cases h:c<2
   ·exact ⟨c,h,rfl⟩
   ·exact ⟨1,by decide,by unfold sepT;rw [if_neg Om];rfl⟩
  obtain ⟨i,hi,e⟩:=hj
  obtain ⟨d,hd,e2⟩:=hc
  rw [e,e2];exact when_all k hk d hd i hi
theorem nameT_apart:∀ a:Nat,a<5→∀ b:Nat,b<5->a≠b->x2 a≠x2 b:=by decide
theorem kind_opt:∀ j:Nat,j<4->zO ([63]++v7 j)=(2,v7 j,[]):=by decide+kernel
theorem kind_pull:∀ j:Nat,j<5->zO (x2 j++[47]++[120])=(3,x2 j,[120]):=by decide+kernel
theorem verG_all:∀ a:Nat,a<3→∀ b:Nat,b<2→∀ q∈[(([]:YL),([]:YL)),([114,99,46,49],[]),([],[55])],(Ver.mk a b 0 q.1 q.2).may=true/\(Ver.mk a b 0 q.1 q.2).print.length<=20:=by decide+kernel
theorem wishG_zero {own:Nat}{al:Bool}{u:Wv}(h:WishG own al u):kQ (x2 (own % 5)) u.wt al=0:=by
 obtain ⟨k,hk,e⟩:=h.name
 have hne:u.name≠x2 (own % 5):=by rw [e];exact nameT_apart _ Om _ Om Om
 have hf:jK u.fs al=true:=by
  rcases h.fs with e|⟨ha,e|e⟩
  ·rw [e];cases al<;>decide
  ·rw [e,ha];decide
  ·rw [e,ha];decide
 unfold kQ
 rw [if_neg (show ¬ nmL u.wt.name=false by rw [show u.wt.name=u.name from rfl,e,nameT_ok];simp),if_neg (show ¬ u.wt.name=_ from hne),if_neg (show ¬ kE u.wt.rng=false by rw [show u.wt.rng=u.rng from rfl,few_plain h.rng];simp),if_neg (show ¬ jK u.wt.fs al=false by rw [show u.wt.fs=u.fs from rfl,hf];simp)]
theorem need_zero {own:YL}{n:Nt}(h1:n.any≠[])(h2:n.any.length<=3)(h3:∀ x∈n.any,kQ own x (decide (n.any.length=1))=0)(h4:x7 n.wh=true)(h5:n.opt=[]\/wdL n.opt=true):kK own n=0:=by
 unfold kK
 rw [if_neg h1,if_neg Om,if_neg (by rw [j8 h3];simp),if_neg (by simp [h4]),if_neg (λh=>by
  rcases h5 with e|e
  ·exact h.1 e
  ·rw [e] at h;exact absurd h.2 (by simp))]
theorem needG_zero {own:Nat}{n:Nv}(h:NeedG own n):kK (x2 (own % 5)) n.nt=0:=by
 have hop:n.nt.opt=[]\/wdL n.nt.opt=true:=by
  rcases h.opt with e|⟨j,_,e⟩
  ·exact .inl e
  ·exact .inr (by rw [show n.nt.opt=n.opt from rfl,e];exact wordT_ok j)
 rcases h.any with ⟨w,e,hw⟩|⟨w,u,e,hw,hu⟩
 ·have e':n.nt.any=[w.wt]:=by unfold Nv.nt;rw [e];rfl
  refine need_zero (by rw [e'];simp) (by rw [e'];simp) (λx hx=> ?_) (when_plain h.wh) hop
  rw [e'] at hx ⊢
  rw [List.mem_singleton.1 hx];exact wishG_zero hw
 ·have e':n.nt.any=[w.wt,u.wt]:=by unfold Nv.nt;rw [e];rfl
  refine need_zero (by rw [e'];simp) (by rw [e'];simp) (λx hx=> ?_) (when_plain h.wh) hop
  rw [e'] at hx ⊢
  simp only [List.mem_cons,List.not_mem_nil,or_false] at hx
  rcases hx with rfl|rfl
  ·exact wishG_zero hw
  ·exact wishG_zero hu
theorem barG_zero {own:Nat}{b:Bv}(h:BarG own b):vQ (x2 (own % 5)) b.bt=0:=by
 obtain ⟨k,hk,e⟩:=h.name
 have hne:b.name≠x2 (own % 5):=by rw [e];exact nameT_apart _ Om _ Om Om
 unfold vQ
 rw [if_neg (show ¬ nmL b.bt.name=false by rw [show b.bt.name=b.name from rfl,e,nameT_ok];simp),if_neg (show ¬ b.bt.name=_ from hne),if_neg (show ¬ kE b.bt.rng=false by rw [show b.bt.rng=b.rng from rfl,few_plain h.rng];simp),if_neg (show ¬ x7 b.bt.wh=false by rw [show b.bt.wh=b.wh from rfl,when_plain h.wh];simp)]
theorem item_zero {own:Nat}{keep:Nat->Bool}{x:Rv}(h:RecG own keep x){s:YL}(hs:ItemG x.needs keep s):xF x.rt.needs s=0/\s.length<=7:=by
 unfold xF wordOf
 rcases hs with ⟨m,hm,hne,rfl⟩|⟨m,hm,w,hw,rfl⟩|⟨j,hj,hk,rfl⟩
 ·rcases (h.needs m hm).opt with e|⟨j,hj,e⟩
  ·exact absurd e hne
  ·have ho:optR x.rt.needs m.opt=true:=by
    unfold optR
    exact List.any_eq_true.2 ⟨m.nt,List.mem_map_of_mem hm,decide_eq_true rfl⟩
   have h4:=wordT_four j
   rw [e] at ho ⊢
   rw [kind_opt j hj]
   refine ⟨?_,by rw [List.length_append];simp only [List.length_cons,List.length_nil];omega⟩
   rw [if_neg (λq=>by rw [ho] at q;exact absurd q.2 (by simp)),if_neg (λq=>absurd (show (2:Int)=3 from q.1) (by decide))]
 ·have key:∃ a,WishG own a w:=by
   rcases (h.needs m hm).any with ⟨u,e,hu⟩|⟨u,z,e,_,_⟩
   ·rw [hw] at e;injection e with e1 _;exact ⟨true,e1▸hu⟩
   ·rw [hw] at e;simp at e
  obtain ⟨a,hu⟩:=key
  obtain ⟨k,hk,e⟩:=hu.name
  have hp:pulR x.rt.needs w.name=true:=by
   unfold pulR
   refine List.any_eq_true.2 ⟨m.nt,List.mem_map_of_mem hm, ?_⟩
   unfold pulN Nv.nt
   rw [hw]
   exact decide_eq_true rfl
  have h4:=nameT_len ((own+1+k) % 5)
  rw [e] at hp ⊢
  rw [kind_pull _ Om]
  refine ⟨?_,by simp only [List.length_append,List.length_cons,List.length_nil];omega⟩
  rw [if_neg (λq=>absurd (show (3:Int)=2 from q.1) (by decide)),if_neg (λq=>by rw [hp] at q;exact absurd q.2 (by simp))]
 ·obtain ⟨_,k1,_⟩:=nmF_word j hj
  rw [k1]
  refine ⟨by rw [if_neg (λq=>absurd q.1 (by decide)),if_neg (λq=>absurd q.1 (by decide))], ?_⟩
  unfold nmF dfl
  repeat' split
  all_goals simp
theorem rec_good {own:Nat}{keep:Nat->Bool}{x:Rv}(h:RecG own keep x):zK x.rt=(0,0)/\(yK x.rt).length<=3000:=by
 have hn:nmL x.rt.name=true:=by rw [show x.rt.name=x.name from rfl,h.name];exact nameT_ok _
 obtain ⟨a,b,ha,hb,e1,e2,e3⟩:=h.ver
 have hv:x.rt.ver.may=true/\x.rt.ver.print.length<=20:=by
  have e:x.rt.ver=Ver.mk a b 0 x.pre x.bld:=by show Ver.mk x.maj x.min x.pat x.pre x.bld=_;rw [e1,e2,e3]
  rw [e]
  refine verG_all a ha b hb (x.pre,x.bld) ?_
  rcases h.pb with ⟨e,e'⟩|⟨e,e'⟩|⟨e,e'⟩<;>rw [e,e']<;>simp
 have hN:∀ n∈x.rt.needs,kK x.rt.name n=0:=λn hn=>by
  obtain ⟨m,hm,rfl⟩:=List.mem_map.1 hn
  rw [show x.rt.name=x.name from rfl,h.name];exact needG_zero (h.needs m hm)
 have hB:∀ n∈x.rt.bars,vQ x.rt.name n=0:=λn hn=>by
  obtain ⟨m,hm,rfl⟩:=List.mem_map.1 hn
  rw [show x.rt.name=x.name from rfl,h.name];exact barG_zero (h.bars m hm)
 have hF:∀ f∈x.rt.fts,yR (xF x.rt.needs) f.of=0/\(g0 f).length<=57:=λf hf=>by
  obtain ⟨y,hy,rfl⟩:=List.mem_map.1 hf
  have hg:=h.fts.each y hy
  refine ⟨j8 λs hs=>(item_zero h (hg.all s hs)).1, ?_⟩
  have hnm:y.name.length<=7:=by
   have:y.name∈x.fts.map Fv.name:=List.mem_map_of_mem hy
   rw [h.fts.names] at this
   obtain ⟨j,hj,e⟩:=List.mem_map.1 this
   rw [←e]
   unfold nmF dfl
   repeat' split
   all_goals simp
  have:=jn_most 32 7 (l:=yE::y.name::y.of) λs hs=>by
   rcases List.mem_cons.1 hs with rfl|hs
   ·decide
   ·rcases List.mem_cons.1 hs with rfl|hs
    ·exact hnm
    ·exact (item_zero h (hg.all s hs)).2
  have hl:=hg.len
  show (zE 32 (yE::y.name::y.of)++[10]).length<=57
  simp only [List.length_append,List.length_cons,List.length_nil] at this ⊢
  omega
 have l1:x.rt.needs.length<=2:=by rw [show x.rt.needs.length=x.needs.length from List.length_map ..];exact h.nlen
 have l2:x.rt.bars.length<=1:=by rw [show x.rt.bars.length=x.bars.length from List.length_map ..];exact h.blen
 have l3:x.rt.fts.length<=4:=by
  have e:=congrArg List.length h.fts.names
  rw [List.length_map,List.length_map] at e
  have:=List.length_filter_le keep (List.range 4)
  rw [List.length_range] at this
  rw [show x.rt.fts.length=x.fts.length from List.length_map ..];omega
 have hT:(yK x.rt).length<=3000:=by
  have k1:=mC k8 900 (l:=x.rt.needs) λn hx=>needT_short (hN n hx)
  have k2:=mC jD 300 (l:=x.rt.bars) λn hx=>barT_short (hB n hx)
  have k3:=mC g0 57 (l:=x.rt.fts) λf hx=>(hF f hx).2
  have k4:=bB hn
  unfold yK vO
  simp only [List.length_append,txPack,List.length_cons,List.length_nil];omega
 exact ⟨check_is hn hv.1 Om Om hN hB (feats_may h) (λf hf=>(hF f hf).1) Om,hT⟩
end
section
def moreV (r:Rt):Rt:={r with ver:={r.ver with maj:=r.ver.maj+1}}
def bareR12 (r:Rt):Rt:={r with fts:=[]}
def zoo:Bt:=⟨[122,111,111],[42],[]⟩
end
section
set_option linter.unnecessarySimpa false
structure MadeR (x:Rv)(ob:List Blk):Prop where
 mem:RecO x ob
 gen:∃ own keep,RecG own keep x
 chk:zK x.rt=(0,0)
 len:(yK x.rt).length<=3000
 bnd:BndR x.rt
 few:FewR x.rt 4096
theorem made_of {x:Rv}{ob:List Blk}{own:Nat}{keep:Nat->Bool}(h:RecG own keep x)(hR:RecO x ob):MadeR x ob:=by
 obtain ⟨g1,g2⟩:=rec_good h
 have hb:=chk_bnd (r:=x.rt) (by rw [g1])
 exact ⟨hR,⟨own,keep,h⟩,g1,g2,hb.1,hb.2⟩
theorem MadeR.inn {x:Rv}{ob L:List Blk}{M:List Nat}{W w:World}(h:MadeR x ob)(hO:Own M W w L)(hs:∀ b∈ob,b∈L):RcIn w w.heap.size x:=h.mem.inn hO hs h.bnd h.few
end
section
set_option linter.unnecessarySimpa false
theorem et_eq {a b:Et}:a=b↔jY a=jY b/\a.yk=b.yk:=by
 obtain ⟨r,s,k⟩:=a
 obtain ⟨r2,s2,k2⟩:=b
 simp only [jY,Prod.mk.injEq,Et.mk.injEq,and_assoc]
theorem r13Same_any (x y:Hv)(W:World)(hx:ShIn W W.heap.size x)(hy:ShIn W W.heap.size y):YC 17 #[hvV x,hvV y] W (YR (.bool (decide (x.sh=y.sh))) W):=by
 have hno:∀ w,YB W w→¬ x.sh=y.sh->(Ending.returned (.bool false)= .returned (.bool (decide (x.sh=y.sh))))/\YB W w:=λw hb h=>⟨by rw [decide_eq_false h],hb⟩
 have hsh:x.sh=y.sh↔x.name=y.name/\x.es.map Ev.et=y.es.map Ev.et:=by unfold Hv.sh;simp only [Sh.mk.injEq]
 have hn5:=hx.es.n
 refine zD Tryz.func17 (zY [] λb2=>zY [] λb3=>jJ 10 [1,0] x.name y.name (λh1=>gE 18 [1,0] ((x.es.length:Int)=(y.es.length:Int)) (λh2=> ?_) (λh2=> ?_)) (λh1=> ?_))
 rotate_left
 ·exact z8 [] Z5 λw hO=>hno w hO.below λh=>no_len h2 (hsh.1 h).2
 ·exact z8 [] Z5 λw hO=>hno w hO.below λh=>h1 (hsh.1 h).1
 have hl:x.es.length=y.es.length:=by omega
 refine zT (α:=Nat) (λi=>[(2,Zp b2 0),(3,Zp b3 0),(5,YI (i:Int))]) (λ_=>[hvB b3 y,hvB b2 x]) (λi m=>(i<=x.es.length/\(x.es.map Ev.et).take i=(y.es.map Ev.et).take i)/\m=x.es.length-i) 0 x.es.length [] ⟨⟨Nat.zero_le _,rfl⟩,rfl⟩ ?_
 rintro i mm g kk ⟨⟨hi,heq⟩,hmm⟩ nx hkk
 subst hkk
 refine zG 24 [1] ((i:Int)<(x.es.length:Int)) (λh24=> ?_) (λh24=> ?_)
 rotate_left
 ·exact z8 [] Z4 λw hO=>⟨by rw [decide_eq_true (hsh.2 ⟨h1,map_end hl Om heq⟩)],hO.below⟩
 have hj:i<x.es.length:=by omega
 have hj2:i<y.es.length:=by omega
 have hst:=tD hj hj2 heq
 have hdf:=fR (f:=Ev.et) hj hj2
 obtain ⟨eb,eo,hA,hel⟩:=hx.es.top.elem vJ i hj
 obtain ⟨fb,fo,hB,hel2⟩:=hy.es.top.elem vJ i hj2
 have q1:∀ w,YB W w->(loadVar 69 ⟨eb,eo+i*11+0,none⟩).run YP w= .ok (evV x.es[i]) w:=λw hw=>hel w hw _ 0 _ Kr
 have q2:∀ w,YB W w->(loadVar 69 ⟨fb,fo+i*11+0,none⟩).run YP w= .ok (evV y.es[i]) w:=λw hw=>hel2 w hw _ 0 _ Kr
 have k1:∀ w,YB W w->(loadVar 4 ⟨eb,eo+i*11+10,none⟩).run YP w= .ok (.bool x.es[i].yk) w:=λw hw=>hel w hw _ 10 _ Kr
 have k2:∀ w,YB W w->(loadVar 4 ⟨fb,fo+i*11+10,none⟩).run YP w= .ok (.bool y.es[i].yk) w:=λw hw=>hel2 w hw _ 10 _ Kr
 have r1:=(hx.es.each _ (List.getElem_mem hj)).sm
 have r2:=(hy.es.each _ (List.getElem_mem hj2)).sm
 generalize x.es[i]=u at*
 generalize y.es[i]=v at*
 have hc:∀ w,YB W w->YC 49 #[evV u,evV v] w (YR (.bool (decide (jY u.et=jY v.et))) w):=λw hb=>r13SameE_any u v w (r1.on hb hb.size) (r2.on hb hb.size)
 refine zL 30 [1] hA x.es.length x.cap i 11 hj (zI 31 [] 69 eb (eo+i*11+0) (evV u) (λw hO=>q1 w hO.below) (zL 35 [0] hB y.es.length y.cap i 11 hj2 (zI 36 [] 69 fb (fo+i*11+0) (evV v) (λw hO=>q2 w hO.below) (z7 (v:= .bool (decide (jY u.et=jY v.et))) [] (λw hO=>hc w hO.below) (fI 37 (jY u.et=jY v.et) (λhu=> ?_) (λhu=> ?_))))))
 rotate_left
 ·exact z8 [] Z5 λw hO=>hno w hO.below λh=>hdf (λq=>hu (et_eq.1 q).1) (hsh.1 h).2
 refine zL 43 [1] hA x.es.length x.cap i 11 hj (zI 45 [] 4 eb (eo+i*11+10) (.bool u.yk) (λw hO=>k1 w hO.below) (zL 49 [0] hB y.es.length y.cap i 11 hj2 (zI 51 [] 4 fb (fo+i*11+10) (.bool v.yk) (λw hO=>k2 w hO.below) (nP 52 [] (u.yk !=v.yk) (λhk=> ?_) (λhk=> ?_)))))
 ·exact z8 [] Z5 λw hO=>hno w hO.below λh=>hdf (λq=>by have:u.yk=v.yk:=(et_eq.1 q).2;rw [this] at hk;simp at hk) (hsh.1 h).2
 ·exact x_i 26 [] ((i+1:Nat):Int) (nx (i+1) (x.es.length-(i+1)) [] Om ⟨⟨hj,hst (et_eq.2 ⟨hu,by show u.yk=v.yk;simpa using hk⟩)⟩,rfl⟩ Kr Kr)
structure MadeN (nm:YL)(y:Hv)(o1 o2:List Blk):Prop where
 may:x3 y.sh
 name:y.name=nm
 own:LsO 69 11 evC esO y.A y.cap y.es o1 o2
 gen:∀ e∈y.es,∃ own keep,RecG own keep e.rec'
abbrev MadeS:=MadeN oneN
theorem MadeN.sho {nm:YL}{y:Hv}{o1 o2:List Blk}(h:MadeN nm y o1 o2):ShO y (o1++o2):=⟨o1,o2,rfl,h.own⟩
theorem LsO.more {A A':Option Addr}{c c':Nat}{xs:List Ev}{o1 o1' o2 ob:List Blk}{x:Ev}(h:LsO 69 11 evC esO A c xs o1 o2)(ht:Sl 69 11 (.slice A' (xs.length+1) c') (xs.length+1) ((xs++[x]).flatMap evC) o1')(hx:esO x ob):LsO 69 11 evC esO A' c' (xs++[x]) o1' (o2++ob):=
 h.add (by rw [List.flatMap_append,List.flatMap_singleton] at ht;exact ht) hx
theorem shelf_genN (v:Value)(l:List Int)(i0:Nat)(nm:YL)(most:Nat)(W:World)(hv:ReadsI W W.heap.size v l)(hl:l.length<=9223372036854775807)(hm:most<=8)(hi0:i0+82*most<=1000)(hnm0:nmL nm=true):YC 15 #[v,YI (i0:Int),.string (mkS nm),YI (most:Int)] W λe w'=>∃ v' ob,e= .returned v'/\(∃ y o1 o2,v'=hvV y/\ob=o1++o2/\MadeN nm y o1 o2/\y.es.length<=most)/\Own [] W w' ob:=by
 obtain ⟨n,hn,hnm⟩:=x6 (atL l i0) (most+1) Om
 have f0:=kZ hv hl i0 ((most+1:Nat):Int) Om Om Om hn
 refine zD Tryz.func15 (zH [] λb8=>zH [] λb9=> ?_)
 refine zT (α:=Nat×Hv×List Blk×List Blk) (λ(k,y,o1,o2)=>[(0,v),(1,YI (i0:Int)),(3,YI (most:Int)),(8,Zp b8 0),(9,Zp b9 0),(10,YI (k:Int))]) (λ(k,y,o1,o2)=>[hvB b9 y,⟨b8,ZM,24⟩]++(o1++o2)) (λ(k,y,o1,o2) m=>(k<=most/\MadeN nm y o1 o2/\y.es.length<=k)/\m=most-k) (0,⟨nm,none,0,[]⟩,[],[]) most [0] ⟨⟨Nat.zero_le _,⟨⟨hnm0,Nat.zero_le _,(λe h=>by cases h),List.Pairwise.nil⟩,rfl,LsO.nil,λe h=>by cases h⟩,Nat.le_refl _⟩,rfl⟩ ?_
 rintro ⟨k,y,o1,o2⟩ mm g kk ⟨⟨hk,hM,hlen⟩,hmm⟩ nx hkk
 subst hkk
 have hfin:∀ w,Own [] W w (o1++o2)→∃ v' ob,Ending.returned (hvV y)= .returned v'/\(∃ y o1 o2,v'=hvV y/\ob=o1++o2/\MadeN nm y o1 o2/\y.es.length<=most)/\Own [] W w ob:=λw hO=>⟨_,_,rfl,⟨y,o1,o2,rfl,rfl,hM,by omega⟩,hO⟩
 refine zG 18 [] ((k:Int)<(most:Int)) (λh18=>x_i 24 [] ((most+1:Nat):Int) (z7 [] (λw hO=>f0 w hO.below) (zG 26 [] ((k:Int)<(n:Int)) (λh26=> ?_) (λh26=> ?_)))) (λh18=> ?_)
 rotate_left
 ·exact qK [0,1] 1 (hvV y) λw hO=>hfin w (hO.past 2 _)
 ·exact qK [0,1] 1 (hvV y) λw hO=>hfin w (hO.past 2 _)
 obtain ⟨q,hq,hq4⟩:=x6 (atL l (i0+1+82*k+80)) 4 (by decide)
 obtain ⟨r9,hr9,_⟩:=x6 (atL l (i0+1+82*k+81)) 9 (by decide)
 have f1:=kZ hv hl (i0+1+82*k+80) 4 Om (by decide) (by decide) hq
 have f2:=kZ hv hl (i0+1+82*k+81) 9 Om (by decide) (by decide) hr9
 refine x_i 32 [] ((i0+1:Nat):Int) (x_i 34 [] ((82*k:Nat):Int) (x_i 35 [] ((i0+1+82*k:Nat):Int) (x_i 38 [] ((i0+1:Nat):Int) (x_i 40 [] ((82*k:Nat):Int) (x_i 41 [] ((i0+1+82*k:Nat):Int) (x_i 42 [] ((i0+1+82*k+80:Nat):Int) (z7 [] (λw hO=>f1 w hO.below) (x_i 44 [] ((1+q:Nat):Int) (yB (R:=λv ob=>∃ x,v=rvV x/\(∃ own keep,RecG own keep x)/\MadeR x ob) [] (λw hO=>(record_gen v l (i0+1+82*k) (1+q) w ((hv.below hO.below).more hO.below.size) hl Om Om).mono λe w' ⟨x,ob,q1,⟨q2,q3⟩,q4⟩=>⟨_,ob,q1,⟨x,rfl,⟨_,_,q2⟩,made_of q2 q3⟩,q4⟩) ?_)))))))))
 rintro _ obr ⟨x,rfl,hG,hX⟩
 have hc0:(zK x.rt).1=0:=by rw [hX.chk]
 have hyl:y.sh.es.length=y.es.length:=by simp [Hv.sh]
 have hpz:=put_is hM.may hc0 Om
 refine zH [] λb11=>yB (k:=44) (args:= #[hvV y,rvV x]) (R:=PutR13 y x) [0,1,0] (λw hO=> ?_) ?_
 ·have hO':=hO.past 3 ((o1++o2)++obr)
  clear hO
  exact r13Put_any y x w (hM.sho.inn hO' (λb hb=>List.mem_append_left _ hb) hM.may) (hX.inn hO' (λb hb=>List.mem_append_right _ hb))
 rintro v3 o3 hP
 rcases hP with ⟨hp0,A,c,rfl,hS⟩|⟨hp0,rfl,rfl⟩
 rotate_left
 ·generalize (dB y.sh x.rt).2=p at*
  refine zH [] λb12=>zG 53 [0] (p=0) (λh=>absurd h hp0) (λ_=>x_i 29 [] ((k+1:Nat):Int) (zQ [] ([hvB b9 y,⟨b8,ZM,24⟩]++(o1++o2)) (λw hO=>gP obr (hO.past 2 ([hvB b9 y,⟨b8,ZM,24⟩]++(o1++o2)++obr++[])) λf=>by simp only [List.countP_append,List.countP_cons,List.countP_nil,List.cons_append,List.nil_append];omega) (nx (k+1,y,o1,o2) (most-(k+1)) [] Om ⟨⟨by omega,hM,by omega⟩,rfl⟩ Kr Kr)))
 have hle1:(y.es++[(⟨x,yL x.rt,false⟩:Ev)]).length=y.es.length+1:=by simp
 obtain ⟨ga,cur,rfl,rfl,_⟩:=Sl.block hS Om
 rw [hle1] at hS
 obtain ⟨hS2,hfit⟩:=Sl.putLast vJ hS ⟨x,yL x.rt,decide ((r9:Int)=1)⟩ 10 #[.bool (decide ((r9:Int)=1))] (by show 10+1<=11;omega) rfl
 have hpl:y8 y.sh.es x.rt.name x.rt.ver= -1:=by
  apply Classical.byContradiction
  intro h
  rw [hpz,if_neg h] at hp0
  exact absurd hp0 (by decide)
 have hMay:x3 (⟨y.name,some ⟨ga,0,none⟩,c,y.es++[⟨x,yL x.rt,decide ((r9:Int)=1)⟩]⟩:Hv).sh:=by
  refine may_core (s:=⟨y.sh.name,y.sh.es++[⟨x.rt,yL x.rt,false⟩]⟩) rfl ?_ (put_may hM.may hc0 hpl Om)
  simp [Hv.sh,Ev.et,jY]
 have hNew:MadeN nm ⟨y.name,some ⟨ga,0,none⟩,c,y.es++[⟨x,yL x.rt,decide ((r9:Int)=1)⟩]⟩ [⟨ga,zP cur (y.es.length*11+10) #[.bool (decide ((r9:Int)=1))],69⟩] (o2++obr):=⟨hMay,hM.name,hM.own.more hS2 hX.mem,λe he=>by
  rcases List.mem_append.1 he with he|he
  ·exact hM.gen e he
  ·rw [List.mem_singleton.1 he];exact hG⟩
 refine zH [] λb12=>zQ [0,0,2] ([⟨ga,cur,69⟩,⟨b9, #[.string (mkS y.name),.slice (some ⟨ga,0,none⟩) (y.es++[(⟨x,yL x.rt,false⟩:Ev)]).length c],24⟩,⟨b8,ZM,24⟩]++(o2++obr)) (λw hO=> ?_) ?_
 ·have hO':=hO.past 0 ([⟨b12, #[.string (mkS y.name),.slice (some ⟨ga,0,none⟩) (y.es++[(⟨x,yL x.rt,false⟩:Ev)]).length c],24⟩,rvB b11 x,⟨b9, #[.string (mkS y.name),.slice (some ⟨ga,0,none⟩) (y.es++[(⟨x,yL x.rt,false⟩:Ev)]).length c],24⟩,⟨b8,ZM,24⟩]++(o1++o2)++obr++[⟨ga,cur,69⟩])
  clear hO
  exact gP (⟨b12, #[.string (mkS y.name),.slice (some ⟨ga,0,none⟩) (y.es++[(⟨x,yL x.rt,false⟩:Ev)]).length c],24⟩::rvB b11 x::o1) hO' λp=>by simp only [List.countP_append,List.countP_cons,List.countP_nil,List.cons_append,List.nil_append];omega
 refine x4 16 [] [⟨b9, #[.string (mkS y.name),.slice (some ⟨ga,0,none⟩) (y.es++[(⟨x,yL x.rt,false⟩:Ev)]).length c],24⟩] (λw hO=>hO.nth 1 _) (xY 60 [0,0] (YI (IntKind.i64.wrap (((y.es++[(⟨x,yL x.rt,false⟩:Ev)]).length:Int) -1))) (YI ((y.es.length:Nat):Int)) (by rw [hle1,IntWalk.i64_in _ Om];congr 1;omega) (x_i 63 [] ((i0+1:Nat):Int) (x_i 65 [] ((82*k:Nat):Int) (x_i 66 [] ((i0+1+82*k:Nat):Int) (x_i 67 [] ((i0+1+82*k+81:Nat):Int) (zX [] 13 (z7 [] (λw hO=>f2 w hO.below) (qJ 50070 [] 15 (b:=ga) (off:=0) rfl (y.es++[(⟨x,yL x.rt,false⟩:Ev)]).length c y.es.length 11 Om ?_))))))))
 refine xY 71 [] (Zp ga (0+(y.es.length:Int).toNat*11+10)) (Zp ga (y.es.length*11+10)) (by rw [Int.toNat_natCast,Nat.zero_add]) (x_sto 0 ⟨ga,cur,69⟩ (y.es.length*11+10) 1 (.bool (decide ((r9:Int)=1))) ([⟨ga,cur,69⟩,⟨b9, #[.string (mkS y.name),.slice (some ⟨ga,0,none⟩) (y.es++[(⟨x,yL x.rt,false⟩:Ev)]).length c],24⟩,⟨b8,ZM,24⟩]++(o2++obr)) hfit ?_)
 refine x_i 29 [] ((k+1:Nat):Int) (zQ [] ([⟨b9, #[.string (mkS y.name),.slice (some ⟨ga,0,none⟩) (y.es++[(⟨x,yL x.rt,decide ((r9:Int)=1)⟩:Ev)]).length c],24⟩,⟨b8,ZM,24⟩]++([⟨ga,zP cur (y.es.length*11+10) #[.bool (decide ((r9:Int)=1))],69⟩]++(o2++obr))) (λw hO=> ?_) ?_)
 ·have hO':=hO.past 0 ([⟨ga,zP cur (y.es.length*11+10) (Value.bool (decide ((r9:Int)=1))).cells,69⟩,⟨b9, #[.string (mkS y.name),.slice (some ⟨ga,0,none⟩) (y.es++[(⟨x,yL x.rt,false⟩:Ev)]).length c],24⟩,⟨b8,ZM,24⟩]++(o2++obr))
  clear hO
  have e2:(y.es++[(⟨x,yL x.rt,false⟩:Ev)]).length=(y.es++[(⟨x,yL x.rt,decide ((r9:Int)=1)⟩:Ev)]).length:=by simp
  rw [e2] at hO'
  exact gP [] hO' λp=>by
   show List.countP p ([⟨ga,zP cur (y.es.length*11+10) #[.bool (decide ((r9:Int)=1))],69⟩,⟨b9, #[.string (mkS y.name),.slice (some ⟨ga,0,none⟩) (y.es++[(⟨x,yL x.rt,decide ((r9:Int)=1)⟩:Ev)]).length c],24⟩,⟨b8,ZM,24⟩]++(o2++obr))=_
   simp only [List.countP_append,List.countP_cons,List.countP_nil,List.cons_append,List.nil_append];omega
 exact nx (k+1,⟨y.name,some ⟨ga,0,none⟩,c,y.es++[⟨x,yL x.rt,decide ((r9:Int)=1)⟩]⟩,[⟨ga,zP cur (y.es.length*11+10) #[.bool (decide ((r9:Int)=1))],69⟩],o2++obr) (most-(k+1)) [] Om ⟨⟨by omega,hNew,by simp;omega⟩,rfl⟩ Kr Kr
theorem shelf_gen (v:Value)(l:List Int)(most:Nat)(W:World)(hv:ReadsI W W.heap.size v l)(hl:l.length<=9223372036854775807)(hm:most<=8):YC 15 #[v,YI 0,.string ⟨#[111,110,101]⟩,YI (most:Int)] W λe w'=>∃ v' ob,e= .returned v'/\(∃ y o1 o2,v'=hvV y/\ob=o1++o2/\MadeS y o1 o2/\y.es.length<=most)/\Own [] W w' ob:=
 shelf_genN v l 0 oneN most W hv hl hm Om Kr
end
section
set_option linter.unnecessarySimpa false
theorem okT_rec {r:Rt}(h:(zK r).1=0):OkT (yK r):=λhs hb=>by
 have q:=read_back h
 rw [parse_is hs,if_neg (λw=>w hb)] at q
 by_cases hc:(zK (recA (yK r))).1=0
 ·rw [if_neg (λw=>w hc)] at q
  rw [show recA (yK r)=r from congrArg Prod.fst q];exact (chk_bnd h).1
 ·rw [if_pos hc] at q
  exact absurd (congrArg (λx=>x.2.1) q) hc
theorem unL_len:∀ l:List YL,l.length<=(unL l).length
 | []=>Nat.zero_le _
 |x::l=>by
  have:=unL_len l
  rw [qB];simp only [List.length_append,List.length_cons,List.length_nil];omega
theorem rdok_nil (f:Nat):RdOk f []:=by cases f<;>trivial
theorem rdok_cons {p:YL}{r:Rt}{R:List YL}(hc:(zK r).1=0)(hR:∀ p∈R.head?,wL p=true)(h:∀ f,RdOk f R):∀ f,RdOk f (p::(nlL (kJ r)++R))
 |0=>trivial
 |f+1=>by
  obtain ⟨e1,e2,e3⟩:=ext_rec r hR
  have hl:=(yS hc).2.2.2.2.2
  have hu:=unL_len (kJ r)
  rw [vY] at hu
  show (wM p≠none->OkT ((nlL (kJ r)++R).take (ext (nlL (kJ r)++R))).flatten)/\((nlL (kJ r)++R).take (ext (nlL (kJ r)++R))).flatten.length<=1000000/\ext (nlL (kJ r)++R)<=5000/\RdOk f ((nlL (kJ r)++R).drop (ext (nlL (kJ r)++R)))
  rw [e1,e2,e3,nl_flat,vY]
  exact ⟨λ_=>okT_rec hc,by omega,by omega,h f⟩
theorem rdok_ents:∀ {es:List Et},(∀ e∈es,okE e)→∀ f,RdOk f (nlL (es.flatMap kL))
 | [],_,f=>rdok_nil f
 |e::es,h,f=>by
  have ih:=rdok_ents (es:=es) λx hx=>h x (List.mem_cons_of_mem _ hx)
  have hh:∀ p∈(nlL (es.flatMap kL)).head?,wL p=true:=λp hp=>ents_head es (R:=[]) (λp hp=>by cases hp) p (by rw [List.append_nil];exact hp)
  have:=rdok_cons (p:=bK (yD (g7 e)) e.yk++[10]) (h e (List.mem_cons_self ..)).1 hh ih f
  have e2:nlL ((e::es).flatMap kL)=(bK (yD (g7 e)) e.yk++[10])::(nlL (kJ e.rc)++nlL (es.flatMap kL)):=by simp [nlL,kL]
  rw [e2];exact this
theorem sh_lines {n:YL}{es:List Et}(hn:nmL n=true)(he:∀ e∈es,okE e):gF [] (shT ⟨n,es⟩)=(shH n++[10])::nlL (es.flatMap kL):=by
 have hf:∀ x∈shH n::es.flatMap kL,(10:UInt8)∉x:=λx hx=>by
  rcases List.mem_cons.1 hx with rfl|hx
  ·exact qZ 10 32 (by decide) λy hy=>by
    simp only [List.mem_cons,List.not_mem_nil,or_false] at hy
    rcases hy with rfl|rfl
    ·decide
    ·exact pL hn (by decide) (by decide) (by decide)
  ·obtain ⟨e,he',hx⟩:=List.mem_flatMap.1 hx
   exact ent_free (he e he') x hx
 have h:=n8 _ [] hf
 rw [List.append_nil] at h
 rw [shT_is,h];show _++[]=_;rw [List.append_nil];rfl
theorem sh_rd {n:YL}{es:List Et}(hn:nmL n=true)(he:∀ e∈es,okE e):∀ p r,gF [] (shT ⟨n,es⟩)=p::r->RdOk r.length r:=λp r h=>by
 rw [sh_lines hn he] at h
 obtain ⟨_,rfl⟩:=List.cons.inj h
 exact rdok_ents he _
theorem sh_len {s:Sh}(h:x3 s):(shT s).length<=30+s.es.length*5000:=by
 have h1:=ents_len h.ok
 have h2:=bB h.name
 show ((shH s.name++[10])++s.es.flatMap vT).length<=_
 have h3:(shH s.name).length=6+s.name.length:=by
  show (zE 32 [vC,s.name]).length=_
  simp only [zE,vC,List.length_append,List.length_cons,List.length_nil];omega
 simp only [List.length_append,List.length_cons,List.length_nil]
 omega
theorem may_pre1 {s:Sh}(h:x3 s)(k:Nat):x3 ⟨s.name,s.es.take k⟩:=⟨h.name,by show (s.es.take k).length<=64;have:=h.few;rw [List.length_take];omega,λe he=>h.ok e (List.mem_of_mem_take he),h.apart.sublist (List.take_sublist ..)⟩
def awT1:YL:=[115,104,101,108,102,32,111,110,101,10]
def awT2:YL:=[115,104,101,108,102,32,111,110,101,10,101,110,116,114,121,32,48,32,111,110,10]
theorem aw_may:x3 s0v.sh:=⟨by kernel_rfl,Nat.zero_le _,(λe h=>by cases h),List.Pairwise.nil⟩
theorem aw_t1:shT s0v.sh=awT1:=by kernel_rfl
theorem aw_r1:jS awT1=(⟨oneN,[]⟩,0,0):=by
 rw [←aw_t1];exact shelf_back aw_may (by rw [aw_t1];decide)
theorem aw_r2:jS awT2=(nilSh,2,2):=by kernel_rfl
theorem aw_k1:∀ p r,gF [] awT1=p::r->RdOk r.length r:=λp r h=>by
 rw [←aw_t1] at h;exact sh_rd (n:=oneN) (es:=[]) Kr (λe h=>by cases h) p r h
theorem aw_l2:gF [] awT2=[awT1,[101,110,116,114,121,32,48,32,111,110,10]]:=by kernel_rfl
theorem aw_h2:wM [101,110,116,114,121,32,48,32,111,110,10]=none:=by kernel_rfl
theorem aw_k2:∀ p r,gF [] awT2=p::r->RdOk r.length r:=λp r h=>by
 rw [aw_l2] at h
 obtain ⟨_,rfl⟩:=List.cons.inj h
 exact ⟨λq=>absurd aw_h2 q,by decide,by decide,rdok_nil _⟩
theorem kD (W:World)(hK:RecLib W)(hL:LyAt W):YC 12 #[] W (YR (.bool true) W):=by
 have c1:∀ w,YB W w->YC 13 #[hvV s0v] w (YR (.tuple #[.string (mkS awT1),YI 0]) w):=λw hb=>by
  have h:=j6 s0v w (s0_in w) (hK.on hb)
  rw [if_pos aw_may,if_pos aw_may,aw_t1] at h;exact h
 refine zD Tryz.func12 (z7 (k:=13) (args:= #[hvV s0v]) (v:= .tuple #[.string (mkS awT1),YI 0]) [] (λw hO=>c1 w hO.below) ?_)
 refine yB (k:=16) (args:= #[.string (mkS awT1)]) (R:=λv ob=>∃ y:Hv,v= .tuple #[hvV y,YI 0,YI 0]/\y.name=oneN) [] (λw hO=>(fT awT1 w (by decide) (hK.on hO.below) (hL.on hO.below) aw_k1).mono λe w' ⟨v,ob,q1,⟨y,q2,q3,q4⟩,q5⟩=>⟨v,ob,q1,⟨y,by rw [q2,aw_r1],by rw [aw_r1] at q3;exact congrArg Sh.name q3⟩,q5⟩) ?_
 rintro _ ob1 ⟨y,rfl,hy⟩
 refine zH [] λb3=>yB (k:=16) (args:= #[.string (mkS awT2)]) (R:=λv ob=>∃ y:Hv,v= .tuple #[hvV y,YI 2,YI 2]) [0] (λw hO=>(fT awT2 w (by decide) (hK.on hO.below) (hL.on hO.below) aw_k2).mono λe w' ⟨v,ob,q1,⟨y,q2,q3,q4⟩,q5⟩=>⟨v,ob,q1,⟨y,by rw [q2,aw_r2]⟩,q5⟩) ?_
 rintro _ ob2 ⟨z,rfl⟩
 refine zH [] λb6=>xH 28 [0] awT1 awT1 (λ_=> ?_) (λh=>absurd rfl h)
 exact xH 41 [1] y.name oneN (λ_=>z8 [] Z4 λw hO=>⟨rfl,hO.below⟩) (λh=>absurd hy h)
end
section
open Go.ChangeShapes Go.WideShapes Go.ChangeAt Go.RowKit
theorem open_texts {H:Type}{enc:TypeId×Value->H}{W:World}{base:Nat}{v:Value}{d:DataW H}{ps:List MemPlace}(hval:Value.okWide YP W .any base 85 v)
  (h:DataW.Trod enc YP W 0 (λ_=>true) true 85 v d ps):∃ l:List YL,ReadsT W W.heap.size v l/\l.length<=maxLen∧∀ x∈l,x.length<=maxLen:=by
 obtain ⟨A,len,cap,rfl⟩:=okWide_slice Tryz.underlying85 hval
 obtain ⟨fuel,hf⟩:=h
 rcases open_strings Tryz.underlying85 Tryz.underlying9 strCells1 hf with ⟨hcs,_⟩|⟨a,len',cap',ss,hcs,_,hl,hm,hz,_,hcell,hws⟩
 ·simp [Value.cells] at hcs
  obtain ⟨rfl,rfl,rfl⟩:=hcs
  exact ⟨[],⟨none,0,rfl,λh=>by cases h⟩,by simp,by simp⟩
 ·simp [Value.cells] at hcs
  obtain ⟨rfl,rfl,rfl⟩:=hcs
  simp only [if_true] at hz
  have hlen:((ss.take len).map (·.data.toList)).length=len:=by rw [List.length_map,List.length_take];omega
  refine ⟨(ss.take len).map (·.data.toList),⟨some a,cap,by rw [hlen],λh0=>⟨a,rfl, ?_,λj hj=> ?_⟩⟩,by rw [hlen];omega,λx hx=> ?_⟩
  ·have:=cell_lt (hcell 0 Om)
   rwa [fY] at this
  ·have hj2:j<ss.length:=by omega
   rw [hcell j hj2,List.getElem_map,List.getElem_take]
   simp only [List.getD,List.getElem?_eq_getElem hj2,Option.getD_some]
   rfl
  ·obtain ⟨s,hs,rfl⟩:=List.mem_map.1 hx
   have:=hws s (List.mem_of_mem_take hs)
   rw [jV];exact this
theorem powType:(Tryz.prog.globals[3]?).map (·.type)=some 350:=by kernel_rfl
theorem powNamed : Tryz.prog.globalNamed "internal/strconv.uint64pow10" = some 3 := by kernel_rfl
theorem powCells:Tryz.prog.cellsOf 350=20:=by kernel_rfl
theorem u64Cells:Tryz.prog.cellsOf 67=1:=by kernel_rfl
theorem hasTab_of {W : World} {l : List (String × DataW Unit)} (h : laidMetH YP l W) (e : (l.filter fun x => x.1 == "internal/strconv.uint64pow10") = [("internal/strconv.uint64pow10", Lib.tabData .u64 Lib.pow10Tab)]) : HasTab W := by
 have h2 := h.filter (fun x => x.1 == "internal/strconv.uint64pow10")
 rw [e] at h2
 exact Lib.tabBelow_of_tabIs (Lib.tabIs_of_head (rest:=[]) powNamed powType Tryz.underlying350 Tryz.underlying67 u64Cells powCells h2)
end
section
open Go.ChangeShapes Go.WideShapes Go.ChangeAt Go.RowKit
theorem cells_of_strs {H:Type}{enc:TypeId×Value->H}{P:Program}{w:World}{base:Nat}{sp:Nat->Bool}{held:Bool}{fuel:Nat}{t e:TypeId}{n:Nat}{cs:List Value}{ss:List YL}{p:List MemPlace}
  (ht:P.underlying t=some (.array n e)) (he:P.underlying e=some .string) (hce:P.cellsOf e=1) (hct:P.cellsOf t=n)
  (h:DataW.trod enc P w base sp held fuel t cs=some (.agg (ss.map λs=> .lit (.string s)),p)):cs=ss.map λs=>Value.string (mkS s):=by
 cases fuel with
 |zero=>simp [DataW.trod] at h
 |succ fuel=>
  simp only [DataW.trod,ht,hce,hct,Nat.mul_one] at h
  split at h
  ·rename_i hl
   obtain ⟨xs,hm,hx⟩:=Option.map_eq_some_iff.1 h
   have hxs:xs.map (·.1)=ss.map λs=>(DataW.lit (.string s):DataW H):=by
    have:=congrArg Prod.fst hx
    simpa using this
   have hxl:xs.length=n:=by simpa using Lib.mapM_length hm
   have hzl:ss.length=n:=by
    have:=congrArg List.length hxs
    simp at this
    omega
   apply List.ext_getElem?
   intro i
   by_cases hi:i<n
   ·obtain ⟨b,hb,hf⟩:=Lib.mapM_at hm i i (by simp [hi])
    obtain ⟨s,hc,rfl,_⟩:=DataW.trod_string he hf
    have h1:cs[i]?=some (.string s):=by
     have:=congrArg (·[0]?) hc
     simpa [List.getElem?_take,List.getElem?_drop] using this
    have h2:(xs.map (·.1))[i]?=some (DataW.lit (.string s.data.toList):DataW H):=by simp [hb]
    rw [hxs] at h2
    simp only [List.getElem?_map,Option.map_eq_some_iff,DataW.lit.injEq,Lit.string.injEq] at h2
    obtain ⟨z',hz',e9⟩:=h2
    rw [h1,List.getElem?_map,hz',e9]
    show some (Value.string s)=some (Value.string (mkS s.data.toList))
    rw [show mkS s.data.toList=s from by cases s;unfold mkS;simp]
   ·rw [List.getElem?_eq_none (by omega),List.getElem?_eq_none (by simp;omega)]
  ·cases h
theorem keysType:(Tryz.prog.globals[2]?).map (·.type)=some 112:=by kernel_rfl
theorem keysNamed : Tryz.prog.globalNamed "linchpin/mark.keys" = some 2 := by kernel_rfl
theorem keysCells:Tryz.prog.cellsOf 112=3:=by kernel_rfl
theorem mkLib_of {W : World} {l : List (String × DataW Unit)} (h : laidMetH YP l W) (e : (l.filter fun x => x.1 == "linchpin/mark.keys") = [("linchpin/mark.keys", .agg [.lit (.string [111, 115]), .lit (.string [97, 114, 99, 104]), .lit (.string [97, 98, 105])])]) : MkLib W := by
 have h2 := h.filter (fun x => x.1 == "linchpin/mark.keys")
 rw [e] at h2
 obtain ⟨ps,⟨g',t',cs,fuel,p,q,hg',ht',hvar,hd,_,hps⟩,_,hcell⟩:=h2
 obtain rfl:=Option.some.inj (keysNamed.symm.trans hg')
 obtain rfl:=Option.some.inj (keysType.symm.trans ht')
 have hcs:cs.toList=[[111,115],[97,114,99,104],[97,98,105]].map λs=>Value.string (mkS s):=cells_of_strs (n:=3) Tryz.underlying112 Tryz.underlying9 strCells1 keysCells hd
 have hsz:cs.size=3:=by rw [←Array.length_toList,hcs];rfl
 have hm:MemPlace.cell 2 0∈ps:=by
  rw [hps]
  refine List.mem_append_left _ (List.mem_append_left _ ?_)
  exact MemPlace.mem_row.2 ⟨0,by rw [hsz];decide,rfl⟩
 obtain ⟨⟨c,t,hb⟩,_⟩:=hcell _ _ hm
 have hv : W.var? YP "linchpin/mark.keys" = some c := by
  unfold World.var?
  rw [keysNamed]
  simp only [Option.bind_some,hb]
 have hcc:c=cs:=Option.some.inj (hv.symm.trans hvar)
 refine ⟨(Array.getElem?_eq_some_iff.1 hb).1,t, ?_⟩
 rw [hb,hcc]
 congr 2
 apply Array.toList_inj.1
 rw [hcs]
 rfl
end
section
open Go.ChangeShapes Go.WideShapes Go.ChangeAt Go.RowKit
def layR (l:La):DataW Unit:= .agg [.lit (.int .i64 (l.kind:Int)),.lit (.string l.word),.lit (.int .i64 (l.lo:Int)),.lit (.int .i64 (l.hi:Int)),.lit (.int .i64 (l.parts:Int)),.lit (.bool l.opn),.lit (.bool l.more)]
def layD:DataW Unit:= .agg (lays.map layR)
theorem size_lay12:Tryz.prog.cellsOf 248=7:=by kernel_rfl
theorem size_lays12:Tryz.prog.cellsOf 249=56:=by kernel_rfl
theorem laysType:(Tryz.prog.globals[1]?).map (·.type)=some 249:=by kernel_rfl
theorem laysNamed : Tryz.prog.globalNamed "linchpin/record.layouts" = some 1 := by kernel_rfl
theorem lay_row {enc:TypeId×Value->Unit}{w:World}{base:Nat}{sp:Nat->Bool}{held:Bool}{fuel:Nat}{cs:List Value}{p:List MemPlace}{l:La}(h:DataW.trod enc YP w base sp held fuel 248 cs=some (layR l,p)):cs=(laV l).cells.toList:=by
 obtain ⟨xs,n,_,hx,hl,hxl,hg⟩:=DataW.trod_struct Tryz.underlying248 h
 rw [size_lay12] at hl
 have hx1:DataW.agg (xs.map (·.1))=layR l:=(congrArg Prod.fst hx).symm
 unfold layR at hx1
 injection hx1 with hx1
 match cs,hl with
 | [c0,c1,c2,c3,c4,c5,c6],_=>
  have g:∀ i,i<7→∃ y,xs[i]?=some y:=λi hi=>⟨_,List.getElem?_eq_getElem (by rw [hxl];exact hi)⟩
  obtain ⟨y0,e0⟩:=g 0 Om
  obtain ⟨y1,e1⟩:=g 1 Om
  obtain ⟨y2,e2⟩:=g 2 Om
  obtain ⟨y3,e3⟩:=g 3 Om
  obtain ⟨y4,e4⟩:=g 4 Om
  obtain ⟨y5,e5⟩:=g 5 Om
  obtain ⟨y6,e6⟩:=g 6 Om
  have q:∀ (i:Nat) (y:DataW Unit×List MemPlace),xs[i]?=some y->(xs.map (·.1))[i]?=some y.1:=λi y hy=>by rw [List.getElem?_map,hy];rfl
  have q0:=q 0 _ e0;have q1:=q 1 _ e1;have q2:=q 2 _ e2;have q3:=q 3 _ e3;have q4:=q 4 _ e4;have q5:=q 5 _ e5;have q6:=q 6 _ e6
  rw [hx1] at q0 q1 q2 q3 q4 q5 q6
  obtain ⟨a0,h0,z0,_⟩:=DataW.trod_int Tryz.underlying3 ((hg 0 _ rfl).trans e0)
  obtain ⟨a1,h1,z1,_⟩:=DataW.trod_string Tryz.underlying9 ((hg 1 _ rfl).trans e1)
  obtain ⟨a2,h2,z2,_⟩:=DataW.trod_int Tryz.underlying3 ((hg 2 _ rfl).trans e2)
  obtain ⟨a3,h3,z3,_⟩:=DataW.trod_int Tryz.underlying3 ((hg 3 _ rfl).trans e3)
  obtain ⟨a4,h4,z4,_⟩:=DataW.trod_int Tryz.underlying3 ((hg 4 _ rfl).trans e4)
  obtain ⟨a5,h5,z5⟩:=DataW.trod_bool Tryz.underlying4 ((hg 5 _ rfl).trans e5)
  obtain ⟨a6,h6,z6⟩:=DataW.trod_bool Tryz.underlying4 ((hg 6 _ rfl).trans e6)
  have r0:List.take (Tryz.prog.cellsOf 3) (List.drop 0 [c0,c1,c2,c3,c4,c5,c6])=_:=h0
  have r1:List.take (Tryz.prog.cellsOf 9) (List.drop 1 [c0,c1,c2,c3,c4,c5,c6])=_:=h1
  have r2:List.take (Tryz.prog.cellsOf 3) (List.drop 2 [c0,c1,c2,c3,c4,c5,c6])=_:=h2
  have r3:List.take (Tryz.prog.cellsOf 3) (List.drop 3 [c0,c1,c2,c3,c4,c5,c6])=_:=h3
  have r4:List.take (Tryz.prog.cellsOf 3) (List.drop 4 [c0,c1,c2,c3,c4,c5,c6])=_:=h4
  have r5:List.take (Tryz.prog.cellsOf 4) (List.drop 5 [c0,c1,c2,c3,c4,c5,c6])=_:=h5
  have r6:List.take (Tryz.prog.cellsOf 4) (List.drop 6 [c0,c1,c2,c3,c4,c5,c6])=_:=h6
  rw [show Tryz.prog.cellsOf 3=1 by kernel_rfl] at r0 r2 r3 r4
  rw [strCells1] at r1
  rw [show Tryz.prog.cellsOf 4=1 by kernel_rfl] at r5 r6
  obtain rfl:c0=_:=List.singleton_inj.1 r0
  obtain rfl:c1=_:=List.singleton_inj.1 r1
  obtain rfl:c2=_:=List.singleton_inj.1 r2
  obtain rfl:c3=_:=List.singleton_inj.1 r3
  obtain rfl:c4=_:=List.singleton_inj.1 r4
  obtain rfl:c5=_:=List.singleton_inj.1 r5
  obtain rfl:c6=_:=List.singleton_inj.1 r6
  rw [z0] at q0;rw [z1] at q1;rw [z2] at q2;rw [z3] at q3;rw [z4] at q4;rw [z5] at q5;rw [z6] at q6
  have i0:a0=(l.kind:Int):=by injection q0 with q;injection q with q;injection q with _ q;exact q.symm
  have i1:a1.data.toList=l.word:=by injection q1 with q;injection q with q;injection q with q;exact q.symm
  have i2:a2=(l.lo:Int):=by injection q2 with q;injection q with q;injection q with _ q;exact q.symm
  have i3:a3=(l.hi:Int):=by injection q3 with q;injection q with q;injection q with _ q;exact q.symm
  have i4:a4=(l.parts:Int):=by injection q4 with q;injection q with q;injection q with _ q;exact q.symm
  have i5:a5=l.opn:=by injection q5 with q;injection q with q;injection q with q;exact q.symm
  have i6:a6=l.more:=by injection q6 with q;injection q with q;injection q with q;exact q.symm
  have i1':a1=mkS l.word:=by rw [←i1];cases a1;unfold mkS;simp
  rw [i0,i1',i2,i3,i4,i5,i6]
  rfl
theorem chunk7 {f:La->List Value}(hf:∀ l,(f l).length=7):∀ (ls:List La) (cs:List Value),cs.length=ls.length*7->(∀ i (h:i<ls.length),(cs.drop (i*7)).take 7=f ls[i])->cs=ls.flatMap f
 | [],cs,hl,_=>by simpa using hl
 |l::ls,cs,hl,h=>by
  have h0:(cs.drop (0*7)).take 7=f l:=h 0 (by simp)
  rw [Nat.zero_mul,List.drop_zero] at h0
  have:=chunk7 hf ls (cs.drop 7) (by rw [List.length_drop,hl,List.length_cons];omega) λi hi=>by
   rw [List.drop_drop,show 7+i*7=(i+1)*7 by omega]
   exact h (i+1) (by simpa using hi)
  rw [List.flatMap_cons,←h0,←this,List.take_append_drop]
theorem lay_cells {enc:TypeId×Value->Unit}{w:World}{base:Nat}{sp:Nat->Bool}{held:Bool}{fuel:Nat}{cs:List Value}{p:List MemPlace}(h:DataW.trod enc YP w base sp held fuel 249 cs=some (layD,p)):cs=layC.toList:=by
 obtain ⟨xs,n,_,hx,hl,hxl,hg⟩:=DataW.trod_array Tryz.underlying249 h
 rw [size_lays12] at hl
 have hx1:DataW.agg (xs.map (·.1))=layD:=(congrArg Prod.fst hx).symm
 unfold layD at hx1
 injection hx1 with hx1
 have h8:lays.length=8:=rfl
 have:=chunk7 (f:=λl=>(laV l).cells.toList) (λl=>rfl) lays cs (by rw [hl,h8]) λi hi=>by
  have hx2:i<xs.length:=by omega
  have h1:=hg i Om
  rw [List.getElem?_eq_getElem hx2,size_lay12] at h1
  have h2:(xs.map (·.1))[i]?=(lays.map layR)[i]?:=by rw [hx1]
  rw [List.getElem?_map,List.getElem?_map,List.getElem?_eq_getElem hx2,List.getElem?_eq_getElem hi] at h2
  have h3:xs[i].1=layR lays[i]:=Option.some.inj h2
  obtain ⟨a,b⟩:∃ b,xs[i]=(layR lays[i],b):=⟨xs[i].2,by rw [←h3]⟩
  rw [b] at h1
  exact lay_row h1
 rw [this]
 unfold layC
 rfl
theorem lyAt_of {W : World} {l : List (String × DataW Unit)} (h : laidMetH YP l W) (e : (l.filter fun x => x.1 == "linchpin/record.layouts") = [("linchpin/record.layouts", layD)]) : LyAt W := by
 have h2 := h.filter (fun x => x.1 == "linchpin/record.layouts")
 rw [e] at h2
 obtain ⟨ps,⟨g',t',cs,fuel,p,q,hg',ht',hvar,hd,_,hps⟩,_,hcell⟩:=h2
 obtain rfl:=Option.some.inj (laysNamed.symm.trans hg')
 obtain rfl:=Option.some.inj (laysType.symm.trans ht')
 have hcs:cs.toList=layC.toList:=lay_cells hd
 have hsz:cs.size=56:=by rw [←Array.length_toList,hcs];rfl
 have hm:MemPlace.cell 1 0∈ps:=by
  rw [hps]
  refine List.mem_append_left _ (List.mem_append_left _ ?_)
  exact MemPlace.mem_row.2 ⟨0,by rw [hsz];decide,rfl⟩
 obtain ⟨⟨c,t,hb⟩,_⟩:=hcell _ _ hm
 have hv : W.var? YP "linchpin/record.layouts" = some c := by
  unfold World.var?
  rw [laysNamed]
  simp only [Option.bind_some,hb]
 have hcc:c=cs:=Option.some.inj (hv.symm.trans hvar)
 refine ⟨(Array.getElem?_eq_some_iff.1 hb).1,t, ?_⟩
 rw [hb,hcc]
 congr 2
 exact Array.toList_inj.1 hcs
end
section
open Go.ChangeShapes Go.WideShapes Go.ChangeAt Go.RowKit
theorem tW {H:Type}{enc:TypeId×Value->H}{W:World}{base:Nat}{v:Value}{d:DataW H}{ps:List MemPlace}(hval:Value.okWide YP W .any base 30 v)
  (h:DataW.Trod enc YP W 0 (λ_=>true) true 30 v d ps):∃ l:List Int,ReadsI W W.heap.size v l/\l.length<=maxLen:=by
 obtain ⟨A,len,cap,rfl⟩:=okWide_slice Tryz.underlying30 hval
 obtain ⟨fuel,hf⟩:=h
 rcases open_ints Tryz.underlying30 Tryz.underlying3 Kr hf with ⟨hcs,_⟩|⟨a,len',cap',zs,hcs,_,hl,hm,hz,_,hcell,_⟩
 ·simp [Value.cells] at hcs
  obtain ⟨rfl,rfl,rfl⟩:=hcs
  exact ⟨[],⟨none,0,rfl,λh=>by cases h⟩,by simp⟩
 ·simp [Value.cells] at hcs
  obtain ⟨rfl,rfl,rfl⟩:=hcs
  simp only [if_true] at hz
  have hlen:(zs.take len).length=len:=by rw [List.length_take];omega
  refine ⟨zs.take len,⟨some a,cap,by rw [hlen],λh0=>⟨a,rfl, ?_,λj hj=> ?_⟩⟩,by rw [hlen];omega⟩
  ·have:=cell_lt (hcell 0 Om)
   rwa [add_block] at this
  ·have hj2:j<zs.length:=by omega
   rw [hcell j hj2,List.getElem_take]
   simp only [List.getD,List.getElem?_eq_getElem hj2,Option.getD_some]
end
section
section
variable {M:List Nat}{P:Program}{n:Nat}{W:World}{Q:Exit->Act->World->Prop}{c:Xc}
theorem x_readD (d:Nat)(h:List Nat)(v:Value)(hr:∀ w,Own M W w (xgo P n (d+50000) h c).L->(execOp (ev n (xgo P n (d+50000) h c).f) (xO (xgo P n (d+50000) h c))).run P w= .ok (.value v) w)(hg:zF M P n W Q ((xgo P n (d+50000) h c).put v))
  (hkt:(xgl P n (d+50000) h c,xW n (xgo P n (d+50000) h c))=(xgr P n (d+50000) h c,true):=by kernel_rfl):zF M P n W Q c:=by
 obtain ⟨hk,hw⟩:=Prod.mk.inj hkt
 exact zJ h c hk (put_read hw hr hg)
theorem x_poke {T e:TypeId}{g k:Nat}{l:YL}{b:UInt8}{t:TypeInfo}(hB:BytesAt W e g l)(hk:k<l.length)(hi:P.info? T=some t)(hs:t.size=1)
  (hg:∀ w2,BytesAt w2 e g (l.set k b)->Below g W w2->W.heap.size<=w2.heap.size->zF [] P n w2 Q ⟨.ops (xA c) (xT c),c.k,[],c.f⟩)
  (hkt:(c.top,c.L,zS (xA c) n c.f (xO c),xNl c.k,(xO c).op,sDn (xO c),ev n c.f (sP (xO c)),ev n c.f (sQ (xO c)))=(.ops (xA c) (xO c::xT c),[],true,true,.store T (sP (xO c)) (sQ (xO c)),true,.pointer (some ⟨g,k,none⟩),.int .u8 (b.toNat:Int)):=by kernel_rfl):zF [] P n W Q c:=by
 simp only [Prod.mk.injEq] at hkt
 obtain ⟨e1,e2,e3,e4,e5,e6,e7,e8⟩:=hkt
 have:c=⟨.ops (xA c) (xO c::xT c),c.k,[],c.f⟩:=by rw [←e1,←e2]
 rw [this]
 exact ⟨λhq=>s_poke e3 e5 (sDn_is e6) e7 e8 hi hs hB hk λw2 h1 h2 h3=>by
  have:=(hg w2 h1 h2 h3).go hq
  rw [tP (M:=[]) (W:=W) (M':=[]) (W':=w2) e4];exact this⟩
end
end
end Go.Proofs.YtflhcaljcoekpaaGreatDoor
