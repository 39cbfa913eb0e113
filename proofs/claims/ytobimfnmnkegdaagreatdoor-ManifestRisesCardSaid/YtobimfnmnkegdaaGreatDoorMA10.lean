import Derived.Test.YtobimfnmnkegdaaGreatDoorMA6
import Derived.Test.YtobimfnmnkegdaaGreatDoorMA7
import Derived.Test.YtobimfnmnkegdaaGreatDoorMA8
import Derived.Test.YtobimfnmnkegdaaGreatDoorMA9
set_option maxRecDepth 1000000
set_option maxHeartbeats 8000000
set_option linter.unusedVariables false
set_option linter.unusedSimpArgs false
set_option linter.unnecessarySimpa false
namespace Go.Proofs.YtobimfnmnkegdaaGreatDoor
open Go.RowKit

section
theorem finqrngs_is:rngs=[[42],[94,48,46,48,46,48],[94,48,46,49,46,48],[94,49,46,48,46,48],[94,49,46,49,46,48],[94,50,46,48,46,48],[94,50,46,49,46,48],[62,61,48,46,48,46,48]]++([[62,61,48,46,49,46,48],[62,61,49,46,48,46,48],[62,61,49,46,49,46,48],[62,61,50,46,48,46,48],[62,61,50,46,49,46,48],[60,48,46,48,46,48],[60,48,46,49,46,48],[60,49,46,48,46,48]]++([[60,49,46,49,46,48],[60,50,46,48,46,48],[60,50,46,49,46,48],[61,48,46,48,46,48],[61,48,46,49,46,48],[61,49,46,48,46,48],[61,49,46,49,46,48],[61,50,46,48,46,48]]++([[61,50,46,49,46,48],[33,61,48,46,48,46,48],[33,61,48,46,49,46,48],[33,61,49,46,48,46,48],[33,61,49,46,49,46,48],[33,61,50,46,48,46,48],[33,61,50,46,49,46,48],[60,49]]++([[60,50]])))):=by decide+kernel
theorem qRange_any (s:YL)(W:World)(hs:GqR s)(hK:RecLib W):YC 87 #[.string (mkS s)] W (YR (.bool (yH s)) W):=by
 rw [plainG_in hs]
 have h:s∈rngs:=hs
 rw [finqrngs_is] at h
 rcases List.mem_append.1 h with h|h
 ·exact finq_r1 W hK s h
 rcases List.mem_append.1 h with h|h
 ·exact finq_r2 W hK s h
 rcases List.mem_append.1 h with h|h
 ·exact finq_r3 W hK s h
 rcases List.mem_append.1 h with h|h
 ·exact finq_r4 W hK s h
 exact finq_r5 W hK s h
theorem finqmrks_is:mrks=[[],[111,115,32,61,32,120],[111,115,32,61,32,121],[111,115,32,61,32,122],[111,115,32,61,32,119,95,49],[111,115,32,33,61,32,120],[111,115,32,33,61,32,121],[111,115,32,33,61,32,122]]++([[111,115,32,33,61,32,119,95,49],[97,114,99,104,32,61,32,120],[97,114,99,104,32,61,32,121],[97,114,99,104,32,61,32,122],[97,114,99,104,32,61,32,119,95,49],[97,114,99,104,32,33,61,32,120],[97,114,99,104,32,33,61,32,121],[97,114,99,104,32,33,61,32,122]]++([[97,114,99,104,32,33,61,32,119,95,49],[97,98,105,32,61,32,120],[97,98,105,32,61,32,121],[97,98,105,32,61,32,122],[97,98,105,32,61,32,119,95,49],[97,98,105,32,33,61,32,120],[97,98,105,32,33,61,32,121],[97,98,105,32,33,61,32,122]]++([[97,98,105,32,33,61,32,119,95,49]]))):=by decide+kernel
theorem qMark_any (s:YL)(W:World)(hs:GqM s)(hK:RecLib W):YC 116 #[.string (mkS s)] W (YR (.bool (yT s)) W):=by
 rw [plainM_in hs]
 have h:s∈mrks:=hs
 rw [finqmrks_is] at h
 rcases List.mem_append.1 h with h|h
 ·exact finq_m1 W hK s h
 rcases List.mem_append.1 h with h|h
 ·exact finq_m2 W hK s h
 rcases List.mem_append.1 h with h|h
 ·exact finq_m3 W hK s h
 exact finq_m4 W hK s h
end
section
structure SetIn (w:World)(B:Nat)(A A':Option Addr)(a:St):Prop where
 rel:Reads spanC w B A a.rel
 pre:Reads spanC w B A' a.pre
 lr:a.rel.length<=100000
 lp:a.pre.length<=100000
 sr:ShortL a.rel
 sp:ShortL a.pre
end
section
end
section
def ordC:List Nat:=[2,4,6,1,3,5,7,8]
def fndC (s:YL):List Nat->Int×YL
 | []=>if s.getLast?=some 42 then (9,s) else (7,s)
 |k::r=>if gK s (jU k) then ((k:Int),s.drop (jU k).length) else fndC s r
def numsOk (l:List YL):Bool:=decide (l.length<=3) && l.all jH
def numsVal (l:List YL):Ver:=if numsOk l then ⟨xD (tg l 0),xD (tg l 1),xD (tg l 2),[],[]⟩ else Ver.zero
end
section
def nuZ (l:List YL)(i k:Nat):Int:=if k<i then xD (tg l k) else 0
def nuA (l:List YL)(i:Nat):Array Value:= #[YI (nuZ l i 0),YI (nuZ l i 1),YI (nuZ l i 2)]
end
section
def pcV (s:YL):Co:=(parseC s).getD ⟨0,0,Ver.zero⟩
def pcE (s:YL):Int:=if (parseC s).isSome then 0 else 6
end
section
def coC (c:Co):List Value:=(coV c).cells.toList
structure Al where
 A:Option Addr
 l:List Co
 cap:Nat
def alC (x:Al):List Value:=[.slice x.A x.l.length x.cap]
def rgOf (xs:List Al):List (List Co):=xs.map Al.l
def ShortA (l:List Co):Prop:=∀ c∈l,c.short
structure RgIn (w:World)(B:Nat)(A:Option Addr)(xs:List Al):Prop where
 top:Reads alC w B A xs
 each:∀ x∈xs,Reads coC w B x.A x.l
 n:xs.length<=1000
 m:∀ x∈xs,x.l.length<=1000
 short:∀ x∈xs,ShortA x.l
end
section
def SlCo (v:Value)(l:List Co)(ob:List Blk):Prop:=Sl 140 7 v l.length (l.flatMap coC) ob
structure RgA (u:Value)(xs:List Al)(o1 o2:List Blk):Prop where
 top:Sl 223 1 u xs.length (xs.flatMap alC) o1
 each:∀ x∈xs,∃ o,(∀ b∈o,b∈o2)/\SlCo (.slice x.A x.l.length x.cap) x.l o
def RgO (v:Value)(r:List (List Co))(ob:List Blk):Prop:=∃ xs u o1 o2,v= .agg #[u]/\ob=o1++o2/\rgOf xs=r/\RgA u xs o1 o2
structure FineR (r:List (List Co)):Prop where
 n:r.length<=1000
 m:∀ a∈r,a.length<=1000/\ShortA a
section
variable {M:List Nat}{W w:World}
end
end
section
def numsC (v:Ver):Array Value:= #[YI v.maj,YI v.min,YI v.pat]
end
section
end
section
end
section
end
section
end
section
structure AlI (s:YL)(i f:Nat)(u:Value)(P:List YL)(ob:List Blk):Prop where
 fi:f<=i+1
 il:i<=s.length
 fl:f<=s.length
 sl:SlT u P ob
 eq:P++wV ((s.drop f).take (i-f)) (s.drop (max i f))=wV [] s
 pl:2*P.length<=f
end
section
end
section
end
section
def turnL (l:List Sp)(k:Nat):List Sp:=((l.take k).map turnS).filter (·.may)
end
section
section
variable {M:List Nat}{W w:World}
end
end
section
end
section
set_option linter.unnecessarySimpa false
def qU (own name rng:YL):Int:=if nmL name=false then 4 else if name=own then 8 else if yH rng=false then 6 else 0
theorem qTarget_any (n r o:YL)(W:World)(hn:n.length<=1048576)(hr:GqR r)(hK:RecLib W):YC 114 #[.string (mkS n),.string (mkS r),.string (mkS o)] W (YR (YI (qU o n r)) W):=by
 have c1:∀ w,YC 63 #[.string (mkS n)] w (YR (.bool (nmL n)) w):=λw=>wF n w hn
 have c2:∀ w,YB W w->YC 87 #[.string (mkS r)] w (YR (.bool (yH r)) w):=λw hb=>qRange_any r w hr (hK.on hb)
 refine zF Tryz.func114 (z7 (v:= .bool (nmL n)) [] (λw hO=>c1 w) (zS 9 (nmL n) (λh1=> ?_) (λh1=> ?_)))
 rotate_left
 ·exact z8 [] (YI 4) λw hO=>⟨by rw [qU,if_pos h1],hO.below⟩
 refine qF 14 [] n o (λh2=> ?_) (λh2=> ?_)
 ·exact z8 [] (YI 8) λw hO=>⟨by rw [qU,if_neg (by simp [h1]),if_pos h2],hO.below⟩
 refine z7 (v:= .bool (yH r)) [] (λw hO=>c2 w hO.below) (zS 17 (yH r) (λh3=> ?_) (λh3=> ?_))
 ·exact z8 [] (YI 0) λw hO=>⟨by rw [qU,if_neg (by simp [h1]),if_neg h2,if_neg (by simp [h3])],hO.below⟩
 ·exact z8 [] (YI 6) λw hO=>⟨by rw [qU,if_neg (by simp [h1]),if_neg h2,if_pos h3],hO.below⟩
theorem barE_targ (own:YL)(b:Bt):qM own b=if qU own b.name b.rng≠0 then qU own b.name b.rng else if yT b.wh=false then 7 else 0:=by
 unfold qM qU
 split
 ·simp
 ·split
  ·simp
  ·split<;>simp
theorem qBar_any (b:Bv)(own:YL)(W:World)(hb:b.name.length<=1048576/\GqR b.rng/\GqM b.wh)(hK:RecLib W):YC 66 #[bvV b,.string (mkS own)] W (YR (YI (qM own b.bt)) W):=by
 have hE:qM own b.bt=if qU own b.name b.rng≠0 then qU own b.name b.rng else if yT b.wh=false then 7 else 0:=barE_targ own b.bt
 have c1:∀ w,YB W w->YC 114 #[.string (mkS b.name),.string (mkS b.rng),.string (mkS own)] w (YR (YI (qU own b.name b.rng)) w):=λw h=>qTarget_any b.name b.rng own w hb.1 hb.2.1 (hK.on h)
 have c2:∀ w,YB W w->YC 116 #[.string (mkS b.wh)] w (YR (.bool (yT b.wh)) w):=λw h=>qMark_any b.wh w hb.2.2 (hK.on h)
 refine zF Tryz.func66 (x1 [] λb1=>z7 (v:=YI (qU own b.name b.rng)) [0,0] (λw hO=>c1 w hO.below) (vK 13 [] (qU own b.name b.rng=0) (λh1=> ?_) (λh1=> ?_)))
 rotate_left
 ·exact z8 [] (YI (qU own b.name b.rng)) λw hO=>⟨by rw [hE,if_pos h1],hO.below⟩
 refine z7 (v:= .bool (yT b.wh)) [0] (λw hO=>c2 w hO.below) (zS 17 (yT b.wh) (λh2=> ?_) (λh2=> ?_))
 ·exact z8 [] (YI 0) λw hO=>⟨by rw [hE,if_neg (λq=>q h1),if_neg (by show ¬ yT b.wh=false;simp [h2])],hO.below⟩
 ·exact z8 [] (YI 7) λw hO=>⟨by rw [hE,if_neg (λq=>q h1),if_pos h2],hO.below⟩
def askB (l:List YL):Bool:=l.all wdL && decide (l.length<=6) && x9 l
theorem askB_not {l:List YL}(h:(∃ s∈l,wdL s=false)\/6<l.length\/x9 l=false):askB l=false:=by
 unfold askB
 rcases h with ⟨s,hs,h⟩|h|h
 ·rw [show l.all wdL=false from List.all_eq_false.2 ⟨s,hs,by simp [h]⟩];rfl
 ·rw [decide_eq_false Om];simp
 ·rw [h];simp
theorem qAsk_any (A:Option Addr)(cap:Nat)(l:List YL)(W:World)(hv:Reads zW W W.heap.size A l)(hn:l.length<=5000)(ht:∀ s∈l,s.length<=1048576):YC 115 #[.slice A l.length cap] W (YR (.bool (askB l)) W):=by
 refine zF Tryz.func115 (zG 8 [] ((6:Int)<(l.length:Int)) (λh8=> ?_) (λh8=> ?_))
 ·exact z8 [] Z5 λw hO=>⟨by rw [askB_not (.inr (.inl Om))],hO.below⟩
 refine zX (α:=Nat) (λi=>[(3,.string (mkS (x4 l i))),(9,.slice A l.length cap),(10,YI (l.length:Int)),(11,YI (i:Int))]) (λ_=>[]) (λi m=>(i<=l.length/\(∀ s∈l.take i,wdL s=true)∧∀ z (hz:z+1<l.length),z+1<i->Op.bytesLess (l[z]'Om) l[z+1]=true)/\m=l.length-i) 0 l.length [] ⟨⟨Nat.zero_le _,λy h=>by simp at h,λz hz h=>by omega⟩,rfl⟩ ?_
 rintro i mm g kk ⟨⟨hi,hok,hup⟩,hmm⟩ nx hkk
 subst hkk
 refine zG 12 [] ((i:Int)<(l.length:Int)) (λh12=> ?_) (λh12=> ?_)
 rotate_left
 ·refine z8 [] Z4 λw hO=>⟨?_,hO.below⟩
  have hall:=yZ (p:=λs=>wdL s=true) (show l.length<=i by omega) hok
  have:askB l=true:=by
   unfold askB
   rw [List.all_eq_true.2 hall,decide_eq_true Om,rise_iff.2 λz hz=>hup z hz Om];rfl
  rw [this]
 have hj:i<l.length:=by omega
 have hsm:l[i]∈l:=List.getElem_mem hj
 have hlast:i≠0->x4 l i=l[i-1]'Om:=λh=>by unfold x4;rw [dif_pos ⟨by omega,by omega⟩]
 have hgo:=yD (p:=λs=>wdL s=true) hj hok
 have hl1:=bY hj
 obtain ⟨eb,eo,hA,hel⟩:=hv.elem zU i hj
 have hsh:=ht _ hsm
 have hel':=λw hO ty=>hel w hO ty 0 (.string (mkS l[i]))
 obtain ⟨s,hs⟩:∃ s,l[i]=s:=⟨_,rfl⟩
 simp only [hs] at hsh hsm hgo hl1 hel'
 refine zO 13 [] hA l.length cap i 1 hj (zL 14 [] 9 eb (eo+i*1+0) (.string (mkS s)) (λw hO=>hel' w hO.below _ Kr) (z7 (v:= .bool (wdL s)) [] (λw hO=>wE s w hsh) (zS 16 (wdL s) (λh16=> ?_) (λh16=> ?_))))
 rotate_left
 ·exact z8 [] Z5 λw hO=>⟨by rw [askB_not (.inl ⟨s,hsm,h16⟩)],hO.below⟩
 refine x_sle 21 [] s (x4 l i) (zS 21 (!Op.bytesLess (x4 l i) s) (λh21=> ?_) (λh21=> ?_))
 ·refine z8 [] Z5 λw hO=>⟨?_,hO.below⟩
  have h0:i≠0:=λh0=>by
   subst h0
   have:x4 l 0=[]:=by unfold x4;rw [dif_neg Om]
   rw [this,less_nil (λe=>by rw [e] at h16;exact absurd h16 (by decide))] at h21;cases h21
  rw [hlast h0] at h21
  have:x9 l=false:=by
   cases hr:x9 l with
   |false=>rfl
   |true=>
    have q:=rise_iff.1 hr (i-1) Om
    have e2:l[i-1+1]'Om=s:=by rw [←hs];congr 1;omega
    rw [e2] at q
    rw [q] at h21;cases h21
  rw [askB_not (.inr (.inr this))]
 have hup2:∀ z (hz:z+1<l.length),z+1<i+1->Op.bytesLess (l[z]'Om) l[z+1]=true:=λz hz hzi=>by
  rcases Nat.lt_succ_iff_lt_or_eq.1 hzi with q|q
  ·exact hup z hz q
  ·have h0:i≠0:=by omega
   rw [hlast h0] at h21
   have e1:l[i-1]'Om=l[z]'Om:=by congr 1;omega
   have e2:l[z+1]=s:=by rw [←hs];congr 1
   rw [←e1,e2];simpa using h21
 refine gU 3 [] (.string (mkS s)) (.string (mkS (x4 l (i+1)))) (by rw [hl1]) (x_i 11 [] ((i+1:Nat):Int) (nx (i+1) (l.length-(i+1)) [] Om ⟨⟨hj,hgo h16,hup2⟩,rfl⟩ Kr Kr))
end
section
def pr0:Prm:=⟨λ_=>none,λ_ _ _=>none,λ_ _=>none⟩
theorem pr0_ok (P:Program)(W:World):PrOk P pr0 [] W:=by
 constructor<;>intros<;>simp_all [pr0]
theorem zH {k:FuncId}{s:YL}{W:World}(h:∀ e,(runA YP [] pr0 k #[.string (mkS s)] e).l=(runA YP [] pr0 k #[.string (mkS s)] e).r):Calls YP k #[.string (mkS s)] W λen w'=>en= .returned (.bool true)/\YB W w':=
 run_true (G:=[]) (pr:=pr0) (λw hO x hx=>absurd hx (List.not_mem_nil)) (pr0_ok _ _) h
end
end Go.Proofs.YtobimfnmnkegdaaGreatDoor
