import Derived.Test.YtflhcaljcoekpaaGreatDoorSF5
import Derived.Test.YtflhcaljcoekpaaGreatDoorSF6
import Derived.Test.YtflhcaljcoekpaaGreatDoorSF7
import Derived.Test.YtflhcaljcoekpaaGreatDoorSF8
set_option maxRecDepth 1000000
set_option maxHeartbeats 8000000
set_option linter.unusedVariables false
set_option linter.unusedSimpArgs false
set_option linter.unnecessarySimpa false
namespace Go.Proofs.YtflhcaljcoekpaaGreatDoor
open Go.RowKit

section
theorem finqrngs_is:rngs=[[42],[94,48,46,48,46,48],[94,48,46,49,46,48],[94,49,46,48,46,48],[94,49,46,49,46,48],[94,50,46,48,46,48],[94,50,46,49,46,48],[62,61,48,46,48,46,48]]++([[62,61,48,46,49,46,48],[62,61,49,46,48,46,48],[62,61,49,46,49,46,48],[62,61,50,46,48,46,48],[62,61,50,46,49,46,48],[60,48,46,48,46,48],[60,48,46,49,46,48],[60,49,46,48,46,48]]++([[60,49,46,49,46,48],[60,50,46,48,46,48],[60,50,46,49,46,48],[61,48,46,48,46,48],[61,48,46,49,46,48],[61,49,46,48,46,48],[61,49,46,49,46,48],[61,50,46,48,46,48]]++([[61,50,46,49,46,48],[33,61,48,46,48,46,48],[33,61,48,46,49,46,48],[33,61,49,46,48,46,48],[33,61,49,46,49,46,48],[33,61,50,46,48,46,48],[33,61,50,46,49,46,48]]))):=by decide+kernel
theorem qRange_any (s:YL)(W:World)(hs:GqR s)(hK:RecLib W):YC 209 #[.string (mkS s)] W (YR (.bool (x6 s)) W):=by
 rw [plainG_in hs]
 have h:s∈rngs:=hs
 rw [finqrngs_is] at h
 rcases List.mem_append.1 h with h|h
 ·exact finq_r1 W hK s h
 rcases List.mem_append.1 h with h|h
 ·exact finq_r2 W hK s h
 rcases List.mem_append.1 h with h|h
 ·exact finq_r3 W hK s h
 exact finq_r4 W hK s h
theorem finqmrks_is:mrks=[[],[111,115,32,61,32,120],[111,115,32,61,32,121],[111,115,32,61,32,122],[111,115,32,61,32,119,95,49],[111,115,32,33,61,32,120],[111,115,32,33,61,32,121],[111,115,32,33,61,32,122]]++([[111,115,32,33,61,32,119,95,49],[97,114,99,104,32,61,32,120],[97,114,99,104,32,61,32,121],[97,114,99,104,32,61,32,122],[97,114,99,104,32,61,32,119,95,49],[97,114,99,104,32,33,61,32,120],[97,114,99,104,32,33,61,32,121],[97,114,99,104,32,33,61,32,122]]++([[97,114,99,104,32,33,61,32,119,95,49],[97,98,105,32,61,32,120],[97,98,105,32,61,32,121],[97,98,105,32,61,32,122],[97,98,105,32,61,32,119,95,49],[97,98,105,32,33,61,32,120],[97,98,105,32,33,61,32,121],[97,98,105,32,33,61,32,122]]++([[97,98,105,32,33,61,32,119,95,49]]))):=by decide+kernel
theorem qMark_any (s:YL)(W:World)(hs:GqM s)(hK:RecLib W):YC 161 #[.string (mkS s)] W (YR (.bool (yM s)) W):=by
 rw [plainM_in hs]
 have h:s∈mrks:=hs
 rw [finqmrks_is] at h
 rcases List.mem_append.1 h with h|h
 ·exact finq_m1 W hK s h
 rcases List.mem_append.1 h with h|h
 ·exact finq_m2 W hK s h
 rcases List.mem_append.1 h with h|h
 ·exact finq_m3 W hK s h
 exact finq_m4 W hK s h
end
section
structure SetIn (w:World)(B:Nat)(A A':Option Addr)(a:St):Prop where
 rel:Reads spanC w B A a.rel
 pre:Reads spanC w B A' a.pre
 lr:a.rel.length<=100000
 lp:a.pre.length<=100000
 sr:ShortL a.rel
 sp:ShortL a.pre
end
section
end
section
def ordC:List Nat:=[2,4,6,1,3,5,7,8]
def fndC (s:YL):List Nat->Int×YL
 | []=>if s.getLast?=some 42 then (9,s) else (7,s)
 |k::r=>if kL s (vC k) then ((k:Int),s.drop (vC k).length) else fndC s r
def numsOk (l:List YL):Bool:=decide (l.length<=3) && l.all gG
def numsVal (l:List YL):Ver:=if numsOk l then ⟨yZ (tg l 0),yZ (tg l 1),yZ (tg l 2),[],[]⟩ else Ver.zero
end
section
def nuZ (l:List YL)(i k:Nat):Int:=if k<i then yZ (tg l k) else 0
def nuA (l:List YL)(i:Nat):Array Value:= #[YI (nuZ l i 0),YI (nuZ l i 1),YI (nuZ l i 2)]
end
section
def pcV (s:YL):Co:=(parseC s).getD ⟨0,0,Ver.zero⟩
def pcE (s:YL):Int:=if (parseC s).isSome then 0 else 6
end
section
def coC (c:Co):List Value:=(coV c).cells.toList
structure Al where
 A:Option Addr
 l:List Co
 cap:Nat
def alC (x:Al):List Value:=[.slice x.A x.l.length x.cap]
def rgOf (xs:List Al):List (List Co):=xs.map Al.l
def ShortA (l:List Co):Prop:=∀ c∈l,c.short
structure RgIn (w:World)(B:Nat)(A:Option Addr)(xs:List Al):Prop where
 top:Reads alC w B A xs
 each:∀ x∈xs,Reads coC w B x.A x.l
 n:xs.length<=1000
 m:∀ x∈xs,x.l.length<=1000
 short:∀ x∈xs,ShortA x.l
end
section
def SlCo (v:Value)(l:List Co)(ob:List Blk):Prop:=Sl 143 7 v l.length (l.flatMap coC) ob
structure RgA (u:Value)(xs:List Al)(o1 o2:List Blk):Prop where
 top:Sl 298 1 u xs.length (xs.flatMap alC) o1
 each:∀ x∈xs,∃ o,(∀ b∈o,b∈o2)/\SlCo (.slice x.A x.l.length x.cap) x.l o
def RgO (v:Value)(r:List (List Co))(ob:List Blk):Prop:=∃ xs u o1 o2,v= .agg #[u]/\ob=o1++o2/\rgOf xs=r/\RgA u xs o1 o2
structure FineR (r:List (List Co)):Prop where
 n:r.length<=1000
 m:∀ a∈r,a.length<=1000/\ShortA a
section
variable {M:List Nat}{W w:World}
end
end
section
def numsC (v:Ver):Array Value:= #[YI v.maj,YI v.min,YI v.pat]
end
section
end
section
end
section
end
section
end
section
structure AlI (s:YL)(i f:Nat)(u:Value)(P:List YL)(ob:List Blk):Prop where
 fi:f<=i+1
 il:i<=s.length
 fl:f<=s.length
 sl:SlT u P ob
 eq:P++j6 ((s.drop f).take (i-f)) (s.drop (max i f))=j6 [] s
 pl:2*P.length<=f
end
section
end
section
end
section
def turnL (l:List Sp)(k:Nat):List Sp:=((l.take k).map turnS).filter (·.may)
end
section
section
variable {M:List Nat}{W w:World}
end
end
section
end
section
set_option linter.unnecessarySimpa false
structure At (W:World)(A:Option Addr)(xs:List Fv)(B:Option Addr)(asked:List YL)(w:World):Prop where
 hv:FtIn w w.heap.size A xs
 hu:Reads y9 w w.heap.size B asked
 hb:YB W w
end
section
set_option linter.unnecessarySimpa false
theorem tless_or (a b:YL):(Op.bytesLess a b||decide (a=b))= !Op.bytesLess b a:=by
 cases h:Op.bytesLess b a with
 |true=>rw [lt_asy h,decide_eq_false (λe=>by rw [e,lt_irr] at h;cases h)];rfl
 |false=>
  by_cases e:a=b
  ·rw [decide_eq_true e];simp
  ·rw [lt_tri b a h (λq=>e q.symm)];rfl
theorem run_strleq {P:Program}{ρ:Operand->Value}{o:Oper}{t t':TypeId}{x y:Operand}{a b:YL}(ho:o.op= .binOp .leq t x y t')(hx:ρ x= .string (mkS a))(hy:ρ y= .string (mkS b))(w:World):(execOp ρ o).run P w= .ok (.value (.bool (!Op.bytesLess b a))) w:=by
 have e:binOp .leq t (.string (mkS a)) (.string (mkS b))=pure (.bool (!Op.bytesLess b a)):=by
  have:binOp .leq t (.string (mkS a)) (.string (mkS b))=pure (.bool (Op.bytesLess (mkS a).toList (mkS b).toList||(mkS a).toList==(mkS b).toList)):=by simp [binOp,Op.stringOp]
  rw [this,nP,Lib.toList_data,Lib.toList_data,mk_data,mk_data,tless_or]
 unfold execOp
 simp only [ho,hx,hy,Sem.run_bind,bJ,Result.andThen_ok,e,Sem.run_pure]
section
variable {M:List Nat}{P:Program}{n:Nat}{W:World}{Q:Exit->Act->World->Prop}{c:Xc}
def leqOp (o:Oper):Bool:=match o.op with
 | .binOp .leq _ _ _ _=>true
 |_=>false
def leqX (o:Oper)(i:Nat):Operand:=match o.op with
 | .binOp _ _ x y _=>if i=0 then x else y
 |_=> .tmp 0
theorem x_sle (d:Nat)(h:List Nat)(s u:YL)(hg:zB M P n W Q ((xgo P n (d+50000) h c).put (.bool (!Op.bytesLess u s))))
  (hkt:(xgl P n (d+50000) h c,xW n (xgo P n (d+50000) h c),leqOp (xO (xgo P n (d+50000) h c)),ev n (xgo P n (d+50000) h c).f (leqX (xO (xgo P n (d+50000) h c)) 0),ev n (xgo P n (d+50000) h c).f (leqX (xO (xgo P n (d+50000) h c)) 1))=(xgr P n (d+50000) h c,true,true,.string (mkS s),.string (mkS u)):=by kernel_rfl):zB M P n W Q c:=by
 simp only [Prod.mk.injEq] at hkt
 obtain ⟨hk,e1,e2,e3,e4⟩:=hkt
 refine zM h c hk (x9 e1 (λw=> ?_) hg)
 generalize xO (xgo P n (d+50000) h c)=o at*
 unfold leqOp at e2
 split at e2
 ·rename_i t x y t' ho
  have hx:leqX o 0=x:=by unfold leqX;rw [ho];rfl
  have hy:leqX o 1=y:=by unfold leqX;rw [ho];rfl
  rw [hx] at e3;rw [hy] at e4
  exact run_strleq ho e3 e4 w
 ·cases e2
end
theorem findfn_any (x:Fv)(n:YL)(b:Nat)(W:World)(hc:W.heap[b]?=some (.cells #[.string (mkS n)] 9)):YC 287 #[fvV x,.pointer (some ⟨b,0,none⟩)] W (YR (.bool (decide (x.name=n))) W):=by
 have hb:b<W.heap.size:=(Array.getElem?_eq_some_iff.1 hc).1
 refine z8 Tryz.func287 (zZ [] λb2=>zH 6 [0] 9 b 0 (.string (mkS n)) (λw hO=>y7 Kr ((hO.below.block b hb).trans hc)) (kJ 7 [] x.name n (λh=> ?_) (λh=> ?_)))
 ·exact z7 [] Z4 λw hO=>⟨by rw [decide_eq_true h],hO.below⟩
 ·exact z7 [] Z5 λw hO=>⟨by rw [decide_eq_false h],hO.below⟩
theorem idx11_any (A:Option Addr)(cap:Nat)(xs:List Fv)(n:YL)(b:Nat)(W:World)(hv:FtIn W W.heap.size A xs)(hc:W.heap[b]?=some (.cells #[.string (mkS n)] 9)):YC 286 #[.slice A xs.length cap,.func (.func 287) #[] #[.pointer (some ⟨b,0,none⟩)]] W (YR (YI (vD (y5 xs) n)) W):=by
 have hb:b<W.heap.size:=(Array.getElem?_eq_some_iff.1 hc).1
 have hn:=hv.n
 refine z8 Tryz.func286 (zO (α:=Nat) (λi=>[(0,.slice A xs.length cap),(1,.func (.func 287) #[] #[Zp b 0]),(7,YI (xs.length:Int)),(8,YI (i:Int))]) (λ_=>[]) (λi m=>(i<=xs.length∧∀ y∈xs.take i,¬ y.name=n)/\m=xs.length-i) 0 xs.length [] ⟨⟨Nat.zero_le _,λy h=>by simp at h⟩,rfl⟩ ?_)
 rintro i mm g kk ⟨⟨hi,hno⟩,hmm⟩ nx hkk
 subst hkk
 refine zD 9 [] ((i:Int)<(xs.length:Int)) (λh9=> ?_) (λh9=> ?_)
 rotate_left
 ·refine z7 [] (YI (-1)) λw hO=>⟨?_,hO.below⟩
  have hall:=yP (p:=λy:Fv=>¬ y.name=n) (show xs.length<=i by omega) hno
  rw [vD,findI_none (l:=y5 xs) λf hf=>by obtain ⟨y,hy,rfl⟩:=List.mem_map.1 hf;exact hall y hy]
 have hj:i<xs.length:=by omega
 obtain ⟨eb,eo,hA,hel⟩:=hv.top.elem qE i hj
 have hgo:=y1 (p:=λy:Fv=>¬ y.name=n) hj hno
 have hel0:∀ w,YB W w->(loadVar 148 ⟨eb,eo+i*2+0,none⟩).run YP w= .ok (fvV xs[i]) w:=λw hw=>hel w hw _ 0 _ Kr
 have hcf:∀ w,YB W w->YC 287 #[fvV xs[i],.pointer (some ⟨b,0,none⟩)] w (YR (.bool (decide (xs[i].name=n))) w):=λw hw=>findfn_any xs[i] n b w ((hw.block b hb).trans hc)
 refine zK 14 [] hA xs.length cap i 2 hj (zH 15 [] 148 eb (eo+i*2+0) (fvV xs[i]) (λw hO=>hel0 w hO.below) (z6 (v:= .bool (decide (xs[i].name=n))) [] (λw hO=>hcf w hO.below) (fY 16 (xs[i].name=n) (λh16=> ?_) (λh16=> ?_))))
 ·refine z7 [] (YI (i:Int)) λw hO=>⟨?_,hO.below⟩
  rw [vD,findI_at (l:=y5 xs) (i:=i) (by rw [q9];exact hj) (by rw [ftOf_get hj rfl];exact h16) (λf hf=>by rw [←bK] at hf;obtain ⟨y,hy,rfl⟩:=List.mem_map.1 hf;exact hno y hy)]
 ·exact x_i 18 [] ((i+1:Nat):Int) (nx (i+1) (xs.length-(i+1)) [] Om ⟨⟨hj,hgo h16⟩,rfl⟩ Kr Kr)
theorem fFind_at (A:Option Addr)(cap:Nat)(xs:List Fv)(n:YL)(W:World)(hv:FtIn W W.heap.size A xs):YC 251 #[.slice A xs.length cap,.string (mkS n)] W (YR (YI (vD (y5 xs) n)) W):=by
 refine z8 Tryz.func251 (zZ [] λb=>wS 6 [] (.func (.func 287) #[] #[Zp b 0]) (λw=>Kr) (z6 (v:=YI (vD (y5 xs) n)) [] (λw hO=>idx11_any A cap xs n b w (hv.on hO.below hO.size) ((hO.past 0 [⟨b, #[.string (mkS n)],9⟩]).get (i:=0) rfl)) (z7 [] _ λw hO=>⟨rfl,hO.below⟩)))
theorem fhas_any (A:Option Addr)(cap:Nat)(xs:List Fv)(n:YL)(W:World)(hv:FtIn W W.heap.size A xs):YC 212 #[.slice A xs.length cap,.string (mkS n)] W (YR (.bool (isT (y5 xs) n)) W):=by
 refine z8 Tryz.func212 (kJ 6 [] n dfl (λh=> ?_) (λh=> ?_))
 ·exact z7 [] Z4 λw hO=>⟨by rw [bM,decide_eq_true h];rfl,hO.below⟩
 ·exact z6 (v:=YI (vD (y5 xs) n)) [] (λw hO=>fFind_at A cap xs n w (hv.on hO.below hO.size)) (z7 [] (.bool (decide (0<=vD (y5 xs) n))) λw hO=>⟨by rw [bM,decide_eq_false h];rfl,hO.below⟩)
def yV (l:List YL)(i:Nat):YL:=if h:0<i/\i-1<l.length then l[i-1] else []
theorem bU {l:List YL}{i:Nat}(hi:i<l.length):yV l (i+1)=l[i]:=by
 unfold yV;rw [dif_pos ⟨Nat.succ_pos _,by simpa using hi⟩];rfl
theorem pE {s:YL}(h:s≠[]):Op.bytesLess [] s=true:=by
 cases s with
 |nil=>exact absurd rfl h
 |cons _ _=>rfl
theorem fmayOf_any (A:Option Addr)(cap:Nat)(xs:List Fv)(B:Option Addr)(capb:Nat)(of:List YL)(W:World)(hv:FtIn W W.heap.size A xs)(hu:Reads y9 W W.heap.size B of)(hn:of.length<=5000)(ht:∀ s∈of,s.length<=1000000):YC 163 #[.slice B of.length capb,.slice A xs.length cap] W (YR (.bool (x2 (y5 xs) of)) W):=by
 refine z8 Tryz.func163 (zD 13 [] ((6:Int)<(of.length:Int)) (λh13=> ?_) (λh13=> ?_))
 ·exact z7 [] Z5 λw hO=>⟨by rw [vL (.inl Om)],hO.below⟩
 refine zO (α:=Nat) (λi=>[(0,.slice B of.length capb),(1,.slice A xs.length cap),(5,.string (mkS (yV of i))),(14,.slice B of.length capb),(15,YI (of.length:Int)),(16,YI (i:Int))]) (λ_=>[]) (λi m=>(i<=of.length/\(∀ s∈of.take i,gK (y5 xs) s=true)∧∀ z (hz:z+1<of.length),z+1<i->Op.bytesLess (of[z]'Om) of[z+1]=true)/\m=of.length-i) 0 of.length [] ⟨⟨Nat.zero_le _,λy h=>by simp at h,λz hz h=>by omega⟩,rfl⟩ ?_
 rintro i mm g kk ⟨⟨hi,hok,hup⟩,hmm⟩ nx hkk
 subst hkk
 refine zD 17 [] ((i:Int)<(of.length:Int)) (λh17=> ?_) (λh17=> ?_)
 rotate_left
 ·exact z7 [] Z4 λw hO=>⟨by rw [items_yes Om (rise_iff.2 λz hz=>hup z hz Om) (yP Om hok)],hO.below⟩
 have hj:i<of.length:=by omega
 have hsm:of[i]∈of:=List.getElem_mem hj
 have hlast:i≠0->yV of i=of[i-1]'Om:=λh=>by unfold yV;rw [dif_pos ⟨by omega,by omega⟩]
 have hgo:=y1 (p:=λs=>gK (y5 xs) s=true) hj hok
 have hl1:=bU hj
 obtain ⟨eb,eo,hA,hel⟩:=hu.elem zW i hj
 have hsh:=ht _ hsm
 have hel':=λw hO ty=>hel w hO ty 0 (.string (mkS of[i]))
 have hbig:=hup
 obtain ⟨s,hs⟩:∃ s,of[i]=s:=⟨_,rfl⟩
 simp only [hs] at hsh hsm hgo hl1 hel'
 have hno:gK (y5 xs) s=false->x2 (y5 xs) of=false:=λh=>vL (.inr (.inr ⟨s,hsm,h⟩))
 refine zK 18 [] hA of.length capb i 1 hj (zH 19 [] 9 eb (eo+i*1+0) (.string (mkS s)) (λw hO=>hel' w hO.below _ Kr) (z6 (v:= .tuple #[YI (zI s).1,.string (mkS (zI s).2.1),.string (mkS (zI s).2.2)]) [] (λw hO=>fItem_at s w hsh) (zD 27 [] ((zI s).1=0) (λh27=> ?_) (λh27=> ?_))))
 ·exact z7 [] Z5 λw hO=>⟨by rw [hno (by unfold gK;simp [h27])],hO.below⟩
 refine x_sle 31 [] s (yV of i) (zL 31 (!Op.bytesLess (yV of i) s) (λh31=> ?_) (λh31=> ?_))
 ·refine z7 [] Z5 λw hO=>⟨?_,hO.below⟩
  have h0:i≠0:=λh0=>by
   subst h0
   have:yV of 0=[]:=by unfold yV;rw [dif_neg Om]
   rw [this,pE (λe=>h27 (by rw [e];decide))] at h31;cases h31
  rw [hlast h0] at h31
  have:yX of=false:=by
   cases hr:yX of with
   |false=>rfl
   |true=>
    have q:=rise_iff.1 hr (i-1) Om
    have e2:of[i-1+1]'Om=s:=by rw [←hs];congr 1;omega
    rw [e2] at q
    rw [q] at h31;cases h31
  rw [vL (.inr (.inl this))]
 have hup2:∀ z (hz:z+1<of.length),z+1<i+1->Op.bytesLess (of[z]'Om) of[z+1]=true:=λz hz hzi=>by
  rcases Nat.lt_succ_iff_lt_or_eq.1 hzi with q|q
  ·exact hup z hz q
  ·have h0:i≠0:=by omega
   rw [hlast h0] at h31
   have e1:of[i-1]'Om=of[z]'Om:=by congr 1;omega
   have e2:of[z+1]=s:=by rw [←hs];congr 1
   rw [←e1,e2];simpa using h31
 refine zD 35 [] ((zI s).1=1) (λh35=> ?_) (λh35=> ?_)
 ·have hc:∀ w,YB W w->YC 212 #[.slice A xs.length cap,.string (mkS (zI s).2.1)] w (YR (.bool (isT (y5 xs) (zI s).2.1)) w):=λw hb=>fhas_any A cap xs _ w (hv.on hb hb.size)
  refine z6 (v:= .bool (isT (y5 xs) (zI s).2.1)) [] (λw hO=>hc w hO.below) (zL 39 (isT (y5 xs) (zI s).2.1) (λh39=> ?_) (λh39=> ?_))
  ·exact x_i 44 [] ((i+1:Nat):Int) (vU 5 [] (.string (mkS s)) (.string (mkS (yV of (i+1)))) (by rw [hl1]) (nx (i+1) (of.length-(i+1)) [] Om ⟨⟨hj,hgo (by unfold gK;simp [h35,h39]),hup2⟩,rfl⟩ Kr Kr))
  ·exact z7 [] Z5 λw hO=>⟨by rw [hno (by unfold gK;simp [h35,h39])],hO.below⟩
 ·exact x_i 44 [] ((i+1:Nat):Int) (vU 5 [] (.string (mkS s)) (.string (mkS (yV of (i+1)))) (by rw [hl1]) (nx (i+1) (of.length-(i+1)) [] Om ⟨⟨hj,hgo (by unfold gK;simp [h27,h35]),hup2⟩,rfl⟩ Kr Kr))
end
section
set_option linter.unnecessarySimpa false
def gJ (own name rng:YL):Int:=if nmL name=false then 4 else if name=own then 8 else if x6 rng=false then 6 else 0
theorem qTarget_any (n r o:YL)(W:World)(hn:n.length<=1000000)(hr:GqR r)(hK:RecLib W):YC 159 #[.string (mkS n),.string (mkS r),.string (mkS o)] W (YR (YI (gJ o n r)) W):=by
 have c1:∀ w,YC 69 #[.string (mkS n)] w (YR (.bool (nmL n)) w):=λw=>vN n w hn
 have c2:∀ w,YB W w->YC 209 #[.string (mkS r)] w (YR (.bool (x6 r)) w):=λw hb=>qRange_any r w hr (hK.on hb)
 refine z8 Tryz.func159 (z6 (v:= .bool (nmL n)) [] (λw hO=>c1 w) (zL 9 (nmL n) (λh1=> ?_) (λh1=> ?_)))
 rotate_left
 ·exact z7 [] (YI 4) λw hO=>⟨by rw [gJ,if_pos h1],hO.below⟩
 refine kJ 14 [] n o (λh2=> ?_) (λh2=> ?_)
 ·exact z7 [] (YI 8) λw hO=>⟨by rw [gJ,if_neg (by simp [h1]),if_pos h2],hO.below⟩
 refine z6 (v:= .bool (x6 r)) [] (λw hO=>c2 w hO.below) (zL 17 (x6 r) (λh3=> ?_) (λh3=> ?_))
 ·exact z7 [] (YI 0) λw hO=>⟨by rw [gJ,if_neg (by simp [h1]),if_neg h2,if_neg (by simp [h3])],hO.below⟩
 ·exact z7 [] (YI 6) λw hO=>⟨by rw [gJ,if_neg (by simp [h1]),if_neg h2,if_pos h3],hO.below⟩
theorem barE_targ (own:YL)(b:Bt):gP own b=if gJ own b.name b.rng≠0 then gJ own b.name b.rng else if yM b.wh=false then 7 else 0:=by
 unfold gP gJ
 split
 ·simp
 ·split
  ·simp
  ·split<;>simp
theorem qBar_any (b:Bv)(own:YL)(W:World)(hb:b.name.length<=1000000/\GqR b.rng/\GqM b.wh)(hK:RecLib W):YC 113 #[bvV b,.string (mkS own)] W (YR (YI (gP own b.bt)) W):=by
 have hE:gP own b.bt=if gJ own b.name b.rng≠0 then gJ own b.name b.rng else if yM b.wh=false then 7 else 0:=barE_targ own b.bt
 have c1:∀ w,YB W w->YC 159 #[.string (mkS b.name),.string (mkS b.rng),.string (mkS own)] w (YR (YI (gJ own b.name b.rng)) w):=λw h=>qTarget_any b.name b.rng own w hb.1 hb.2.1 (hK.on h)
 have c2:∀ w,YB W w->YC 161 #[.string (mkS b.wh)] w (YR (.bool (yM b.wh)) w):=λw h=>qMark_any b.wh w hb.2.2 (hK.on h)
 refine z8 Tryz.func113 (zZ [] λb1=>z6 (v:=YI (gJ own b.name b.rng)) [0,0] (λw hO=>c1 w hO.below) (kT 13 [] (gJ own b.name b.rng=0) (λh1=> ?_) (λh1=> ?_)))
 rotate_left
 ·exact z7 [] (YI (gJ own b.name b.rng)) λw hO=>⟨by rw [hE,if_pos h1],hO.below⟩
 refine z6 (v:= .bool (yM b.wh)) [0] (λw hO=>c2 w hO.below) (zL 17 (yM b.wh) (λh2=> ?_) (λh2=> ?_))
 ·exact z7 [] (YI 0) λw hO=>⟨by rw [hE,if_neg (λq=>q h1),if_neg (by show ¬ yM b.wh=false;simp [h2])],hO.below⟩
 ·exact z7 [] (YI 7) λw hO=>⟨by rw [hE,if_neg (λq=>q h1),if_pos h2],hO.below⟩
def askB (l:List YL):Bool:=l.all wdL && decide (l.length<=6) && yX l
theorem askB_not {l:List YL}(h:(∃ s∈l,wdL s=false)\/6<l.length\/yX l=false):askB l=false:=by
 unfold askB
 rcases h with ⟨s,hs,h⟩|h|h
 ·rw [show l.all wdL=false from List.all_eq_false.2 ⟨s,hs,by simp [h]⟩];rfl
 ·rw [decide_eq_false Om];simp
 ·rw [h];simp
theorem qAsk_any (A:Option Addr)(cap:Nat)(l:List YL)(W:World)(hv:Reads y9 W W.heap.size A l)(hn:l.length<=5000)(ht:∀ s∈l,s.length<=1000000):YC 160 #[.slice A l.length cap] W (YR (.bool (askB l)) W):=by
 refine z8 Tryz.func160 (zD 8 [] ((6:Int)<(l.length:Int)) (λh8=> ?_) (λh8=> ?_))
 ·exact z7 [] Z5 λw hO=>⟨by rw [askB_not (.inr (.inl Om))],hO.below⟩
 refine zO (α:=Nat) (λi=>[(3,.string (mkS (yV l i))),(9,.slice A l.length cap),(10,YI (l.length:Int)),(11,YI (i:Int))]) (λ_=>[]) (λi m=>(i<=l.length/\(∀ s∈l.take i,wdL s=true)∧∀ z (hz:z+1<l.length),z+1<i->Op.bytesLess (l[z]'Om) l[z+1]=true)/\m=l.length-i) 0 l.length [] ⟨⟨Nat.zero_le _,λy h=>by simp at h,λz hz h=>by omega⟩,rfl⟩ ?_
 rintro i mm g kk ⟨⟨hi,hok,hup⟩,hmm⟩ nx hkk
 subst hkk
 refine zD 12 [] ((i:Int)<(l.length:Int)) (λh12=> ?_) (λh12=> ?_)
 rotate_left
 ·refine z7 [] Z4 λw hO=>⟨?_,hO.below⟩
  have hall:=yP (p:=λs=>wdL s=true) (show l.length<=i by omega) hok
  have:askB l=true:=by
   unfold askB
   rw [List.all_eq_true.2 hall,decide_eq_true Om,rise_iff.2 λz hz=>hup z hz Om];rfl
  rw [this]
 have hj:i<l.length:=by omega
 have hsm:l[i]∈l:=List.getElem_mem hj
 have hlast:i≠0->yV l i=l[i-1]'Om:=λh=>by unfold yV;rw [dif_pos ⟨by omega,by omega⟩]
 have hgo:=y1 (p:=λs=>wdL s=true) hj hok
 have hl1:=bU hj
 obtain ⟨eb,eo,hA,hel⟩:=hv.elem zW i hj
 have hsh:=ht _ hsm
 have hel':=λw hO ty=>hel w hO ty 0 (.string (mkS l[i]))
 obtain ⟨s,hs⟩:∃ s,l[i]=s:=⟨_,rfl⟩
 simp only [hs] at hsh hsm hgo hl1 hel'
 refine zK 13 [] hA l.length cap i 1 hj (zH 14 [] 9 eb (eo+i*1+0) (.string (mkS s)) (λw hO=>hel' w hO.below _ Kr) (z6 (v:= .bool (wdL s)) [] (λw hO=>vM s w hsh) (zL 16 (wdL s) (λh16=> ?_) (λh16=> ?_))))
 rotate_left
 ·exact z7 [] Z5 λw hO=>⟨by rw [askB_not (.inl ⟨s,hsm,h16⟩)],hO.below⟩
 refine x_sle 21 [] s (yV l i) (zL 21 (!Op.bytesLess (yV l i) s) (λh21=> ?_) (λh21=> ?_))
 ·refine z7 [] Z5 λw hO=>⟨?_,hO.below⟩
  have h0:i≠0:=λh0=>by
   subst h0
   have:yV l 0=[]:=by unfold yV;rw [dif_neg Om]
   rw [this,pE (λe=>by rw [e] at h16;exact absurd h16 (by decide))] at h21;cases h21
  rw [hlast h0] at h21
  have:yX l=false:=by
   cases hr:yX l with
   |false=>rfl
   |true=>
    have q:=rise_iff.1 hr (i-1) Om
    have e2:l[i-1+1]'Om=s:=by rw [←hs];congr 1;omega
    rw [e2] at q
    rw [q] at h21;cases h21
  rw [askB_not (.inr (.inr this))]
 have hup2:∀ z (hz:z+1<l.length),z+1<i+1->Op.bytesLess (l[z]'Om) l[z+1]=true:=λz hz hzi=>by
  rcases Nat.lt_succ_iff_lt_or_eq.1 hzi with q|q
  ·exact hup z hz q
  ·have h0:i≠0:=by omega
   rw [hlast h0] at h21
   have e1:l[i-1]'Om=l[z]'Om:=by congr 1;omega
   have e2:l[z+1]=s:=by rw [←hs];congr 1
   rw [←e1,e2];simpa using h21
 refine vU 3 [] (.string (mkS s)) (.string (mkS (yV l (i+1)))) (by rw [hl1]) (x_i 11 [] ((i+1:Nat):Int) (nx (i+1) (l.length-(i+1)) [] Om ⟨⟨hj,hgo h16,hup2⟩,rfl⟩ Kr Kr))
end
section
set_option linter.unnecessarySimpa false
def laV (l:La):Value:= .agg #[YI (l.kind:Int),.string (mkS l.word),YI (l.lo:Int),YI (l.hi:Int),YI (l.parts:Int),.bool l.opn,.bool l.more]
def laB (l:La)(b:Nat):Blk:=⟨b,(laV l).cells,248⟩
end
section
set_option linter.unnecessarySimpa false
theorem Sl.putLast {α:Type}{gC:α->List Value}{T sz g cap:Nat}(hg:∀ x,(gC x).length=sz){cur:Array Value}{ini:List α}{n:α}(h:Sl T sz (.slice (some ⟨g,0,none⟩) (ini.length+1) cap) (ini.length+1) ((ini++[n]).flatMap gC) [⟨g,cur,T⟩])(n':α)(fo:Nat)(vs:Array Value)(hfit:fo+vs.size<=sz)(hy:gC n'=(gC n).take fo++vs.toList++(gC n).drop (fo+vs.size)):
  Sl T sz (.slice (some ⟨g,0,none⟩) (ini.length+1) cap) (ini.length+1) ((ini++[n']).flatMap gC) [⟨g,yR cur (ini.length*sz+fo) vs,T⟩]/\ini.length*sz+fo+vs.size<=cur.size:=by
 obtain ⟨h1,h2⟩:=h
 rcases h2 with ⟨e,_⟩|⟨g',cap',cur',e1,e2,e3,e4,e5,e6⟩
 ·cases e
 ·obtain ⟨rfl,rfl⟩:g=g'/\cap=cap':=by cases e1;exact ⟨rfl,rfl⟩
  obtain rfl:cur=cur':=by cases e2;rfl
  have hk:ini.length<(ini++[n]).length:=by simp
  have hs:=store_elem hg (cur:=cur) (l:=ini++[n]) (by rw [List.length_append];exact e6) ini.length fo hk vs n' hfit (by rw [List.getElem_append_right (Nat.le_refl _)];simpa using hy)
  have hset:(ini++[n]).set ini.length n'=ini++[n']:=by simp
  rw [hset,List.length_append,List.length_singleton] at hs
  have hcap:(ini.length+1)*sz<=cap*sz:=Nat.mul_le_mul_right _ e3
  have hm:(ini.length+1)*sz=ini.length*sz+sz:=Nat.succ_mul ..
  refine ⟨⟨?_,.inr ⟨g,cap,_,rfl,rfl,e3,e4,by rw [hs.2];exact e5,hs.1⟩⟩,by omega⟩
  rw [w6 hg];simp
structure NdL (A:Option Addr)(c:Nat)(xs:List Nv)(o1 oa og oi:List Blk):Prop where
 top:Sl 72 3 (.slice A xs.length c) xs.length (xs.flatMap nvC) o1
 split:(xs=[]/\oa=[]/\og=[])∨∃ ini n,xs=ini++[n]/\(∀ x∈ini,∃ o,WsO x.A x.cap x.any o∧∀ b∈o,b∈oi)/\Sl 139 4 (.slice n.A n.any.length n.cap) n.any.length (n.any.flatMap wvC) oa∧∀ u∈n.any,∃ o,SlT (.slice u.A u.fs.length u.cap) u.fs o∧∀ b∈o,b∈og
def rdC (x:Rv)(k:Nat):List Value:=rvC x++[YI (k:Int)]
def rdB (x:Rv)(k rb:Nat):Blk:=⟨rb,(rdC x k).toArray,215⟩
structure RdQ (x:Rv)(o1 oa og oi o4 o7 o8:List Blk):Prop where
 needs:NdL x.nA x.nc x.needs o1 oa og oi
 bars:Sl 102 3 (.slice x.bA x.bars.length x.bc) x.bars.length (x.bars.flatMap bvC) o4
 fts:FtO x.fA x.fc x.fts o7 o8
def rest7 (oa og oi o4 o7 o8:List Blk):List Blk:=oa++(og++(oi++(o4++(o7++o8))))
def RdR (rb k:Nat)(x:Rv)(ob:List Blk):Prop:=∃ o1 oa og oi o4 o7 o8,ob=rdB x k rb::(o1++rest7 oa og oi o4 o7 o8)/\RdQ x o1 oa og oi o4 o7 o8
structure Few (x:Rv):Prop where
 n:x.needs.length<=5000
 b:x.bars.length<=5000
 f:x.fts.length<=5000
 a:∀ n∈x.needs,n.any.length<=5000
structure AddB (rb kd:Nat)(x:Rv)(ps:List YL)(ob:List Blk)(W:World)(e:Ending)(w':World):Prop where
 ex:∃ x' ob',e= .returned (.bool (addA x.rt kd ps).2)/\x'.rt=(addA x.rt kd ps).1/\RdR rb kd x' ob'/\Own (ob.map Blk.b) W w' ob'
section
variable {M:List Nat}{P:Program}{n:Nat}{W:World}{Q:Exit->Act->World->Prop}{c:Xc}
end
end
section
set_option linter.unnecessarySimpa false
end
section
set_option linter.unnecessarySimpa false
def hd (x:Rv)(p2:YL)(ps:List YL):Rv:={x with name:=ps.getD 1 [],maj:=(parV p2).maj,min:=(parV p2).min,pat:=(parV p2).pat,pre:=(parV p2).pre,bld:=(parV p2).build}
end
section
def pr0:Prm:=⟨λ_=>none,λ_ _ _=>none,λ_ _=>none⟩
theorem pr0_ok (P:Program)(W:World):PrOk P pr0 [] W:=by
 constructor<;>intros<;>simp_all [pr0]
theorem zF {k:FuncId}{s:YL}{W:World}(h:∀ e,(runA YP [] pr0 k #[.string (mkS s)] e).l=(runA YP [] pr0 k #[.string (mkS s)] e).r):Calls YP k #[.string (mkS s)] W λen w'=>en= .returned (.bool true)/\YB W w':=
 run_true (G:=[]) (pr:=pr0) (λw hO x hx=>absurd hx (List.not_mem_nil)) (pr0_ok _ _) h
end
end Go.Proofs.YtflhcaljcoekpaaGreatDoor
