import Derived.Test.YtflhcaljcoekpaaGreatDoorIG6
import Derived.Test.YtflhcaljcoekpaaGreatDoorIG7
import Derived.Test.YtflhcaljcoekpaaGreatDoorIG8
import Derived.Test.YtflhcaljcoekpaaGreatDoorIG9
set_option maxRecDepth 1000000
set_option maxHeartbeats 8000000
set_option linter.unusedVariables false
set_option linter.unusedSimpArgs false
set_option linter.unnecessarySimpa false
namespace Go.Proofs.YtflhcaljcoekpaaGreatDoor
open Go.RowKit

section
theorem finqrngs_is:rngs=[[42],[94,48,46,48,46,48],[94,48,46,49,46,48],[94,49,46,48,46,48],[94,49,46,49,46,48],[94,50,46,48,46,48],[94,50,46,49,46,48],[62,61,48,46,48,46,48]]++([[62,61,48,46,49,46,48],[62,61,49,46,48,46,48],[62,61,49,46,49,46,48],[62,61,50,46,48,46,48],[62,61,50,46,49,46,48],[60,48,46,48,46,48],[60,48,46,49,46,48],[60,49,46,48,46,48]]++([[60,49,46,49,46,48],[60,50,46,48,46,48],[60,50,46,49,46,48],[61,48,46,48,46,48],[61,48,46,49,46,48],[61,49,46,48,46,48],[61,49,46,49,46,48],[61,50,46,48,46,48]]++([[61,50,46,49,46,48],[33,61,48,46,48,46,48],[33,61,48,46,49,46,48],[33,61,49,46,48,46,48],[33,61,49,46,49,46,48],[33,61,50,46,48,46,48],[33,61,50,46,49,46,48]]))):=by decide+kernel
theorem qRange_any (s:YL)(W:World)(hs:GqR s)(hK:RecLib W):YC 209 #[.string (mkS s)] W (YR (.bool (kE s)) W):=by
 rw [plainG_in hs]
 have h:s∈rngs:=hs
 rw [finqrngs_is] at h
 rcases List.mem_append.1 h with h|h
 ·exact finq_r1 W hK s h
 rcases List.mem_append.1 h with h|h
 ·exact finq_r2 W hK s h
 rcases List.mem_append.1 h with h|h
 ·exact finq_r3 W hK s h
 exact finq_r4 W hK s h
theorem finqmrks_is:mrks=[[],[111,115,32,61,32,120],[111,115,32,61,32,121],[111,115,32,61,32,122],[111,115,32,61,32,119,95,49],[111,115,32,33,61,32,120],[111,115,32,33,61,32,121],[111,115,32,33,61,32,122]]++([[111,115,32,33,61,32,119,95,49],[97,114,99,104,32,61,32,120],[97,114,99,104,32,61,32,121],[97,114,99,104,32,61,32,122],[97,114,99,104,32,61,32,119,95,49],[97,114,99,104,32,33,61,32,120],[97,114,99,104,32,33,61,32,121],[97,114,99,104,32,33,61,32,122]]++([[97,114,99,104,32,33,61,32,119,95,49],[97,98,105,32,61,32,120],[97,98,105,32,61,32,121],[97,98,105,32,61,32,122],[97,98,105,32,61,32,119,95,49],[97,98,105,32,33,61,32,120],[97,98,105,32,33,61,32,121],[97,98,105,32,33,61,32,122]]++([[97,98,105,32,33,61,32,119,95,49]]))):=by decide+kernel
theorem qMark_any (s:YL)(W:World)(hs:GqM s)(hK:RecLib W):YC 161 #[.string (mkS s)] W (YR (.bool (x7 s)) W):=by
 rw [plainM_in hs]
 have h:s∈mrks:=hs
 rw [finqmrks_is] at h
 rcases List.mem_append.1 h with h|h
 ·exact finq_m1 W hK s h
 rcases List.mem_append.1 h with h|h
 ·exact finq_m2 W hK s h
 rcases List.mem_append.1 h with h|h
 ·exact finq_m3 W hK s h
 exact finq_m4 W hK s h
end
section
structure SetIn (w:World)(B:Nat)(A A':Option Addr)(a:St):Prop where
 rel:Reads spanC w B A a.rel
 pre:Reads spanC w B A' a.pre
 lr:a.rel.length<=100000
 lp:a.pre.length<=100000
 sr:ShortL a.rel
 sp:ShortL a.pre
end
section
end
section
def ordC:List Nat:=[2,4,6,1,3,5,7,8]
def fndC (s:YL):List Nat->Int×YL
 | []=>if s.getLast?=some 42 then (9,s) else (7,s)
 |k::r=>if qI s (bM k) then ((k:Int),s.drop (bM k).length) else fndC s r
def numsOk (l:List YL):Bool:=decide (l.length<=3) && l.all v6
def numsVal (l:List YL):Ver:=if numsOk l then ⟨x8 (tg l 0),x8 (tg l 1),x8 (tg l 2),[],[]⟩ else Ver.zero
end
section
def nuZ (l:List YL)(i k:Nat):Int:=if k<i then x8 (tg l k) else 0
def nuA (l:List YL)(i:Nat):Array Value:= #[YI (nuZ l i 0),YI (nuZ l i 1),YI (nuZ l i 2)]
end
section
def pcV (s:YL):Co:=(parseC s).getD ⟨0,0,Ver.zero⟩
def pcE (s:YL):Int:=if (parseC s).isSome then 0 else 6
theorem Reads.front {α:Type}{g:α->List Value}{w:World}{B:Nat}{A:Option Addr}{l:List α}(h:Reads g w B A l)(k:Nat):Reads g w B A (l.take k):=λh0=>by
 rw [List.length_take] at h0
 obtain ⟨b,off,e,hlt,hc⟩:=h Om
 refine ⟨b,off,e,hlt,λj u hj=>hc j u ?_⟩
 have e2:l.flatMap g=(l.take k).flatMap g++(l.drop k).flatMap g:=by rw [←List.flatMap_append,List.take_append_drop]
 rw [e2,List.getElem?_append_left (List.getElem?_eq_some_iff.1 hj).1]
 exact hj
end
section
def coC (c:Co):List Value:=(coV c).cells.toList
structure Al where
 A:Option Addr
 l:List Co
 cap:Nat
def alC (x:Al):List Value:=[.slice x.A x.l.length x.cap]
def rgOf (xs:List Al):List (List Co):=xs.map Al.l
def ShortA (l:List Co):Prop:=∀ c∈l,c.short
structure RgIn (w:World)(B:Nat)(A:Option Addr)(xs:List Al):Prop where
 top:Reads alC w B A xs
 each:∀ x∈xs,Reads coC w B x.A x.l
 n:xs.length<=1000
 m:∀ x∈xs,x.l.length<=1000
 short:∀ x∈xs,ShortA x.l
end
section
def SlCo (v:Value)(l:List Co)(ob:List Blk):Prop:=Sl 143 7 v l.length (l.flatMap coC) ob
structure RgA (u:Value)(xs:List Al)(o1 o2:List Blk):Prop where
 top:Sl 298 1 u xs.length (xs.flatMap alC) o1
 each:∀ x∈xs,∃ o,(∀ b∈o,b∈o2)/\SlCo (.slice x.A x.l.length x.cap) x.l o
def RgO (v:Value)(r:List (List Co))(ob:List Blk):Prop:=∃ xs u o1 o2,v= .agg #[u]/\ob=o1++o2/\rgOf xs=r/\RgA u xs o1 o2
structure FineR (r:List (List Co)):Prop where
 n:r.length<=1000
 m:∀ a∈r,a.length<=1000/\ShortA a
section
variable {M:List Nat}{W w:World}
end
end
section
def numsC (v:Ver):Array Value:= #[YI v.maj,YI v.min,YI v.pat]
end
section
end
section
end
section
end
section
end
section
structure AlI (s:YL)(i f:Nat)(u:Value)(P:List YL)(ob:List Blk):Prop where
 fi:f<=i+1
 il:i<=s.length
 fl:f<=s.length
 sl:SlT u P ob
 eq:P++dH ((s.drop f).take (i-f)) (s.drop (max i f))=dH [] s
 pl:2*P.length<=f
end
section
end
section
end
section
def turnL (l:List Sp)(k:Nat):List Sp:=((l.take k).map turnS).filter (·.may)
end
section
section
variable {M:List Nat}{W w:World}
end
end
section
end
section
set_option linter.unnecessarySimpa false
structure At (W:World)(A:Option Addr)(xs:List Fv)(B:Option Addr)(asked:List YL)(w:World):Prop where
 hv:FtIn w w.heap.size A xs
 hu:Reads zW w w.heap.size B asked
 hb:YB W w
end
section
set_option linter.unnecessarySimpa false
theorem tless_or (a b:YL):(Op.bytesLess a b||decide (a=b))= !Op.bytesLess b a:=by
 cases h:Op.bytesLess b a with
 |true=>rw [lt_asy h,decide_eq_false (λe=>by rw [e,lt_irr] at h;cases h)];rfl
 |false=>
  by_cases e:a=b
  ·rw [decide_eq_true e];simp
  ·rw [lt_tri b a h (λq=>e q.symm)];rfl
theorem run_strleq {P:Program}{ρ:Operand->Value}{o:Oper}{t t':TypeId}{x y:Operand}{a b:YL}(ho:o.op= .binOp .leq t x y t')(hx:ρ x= .string (mkS a))(hy:ρ y= .string (mkS b))(w:World):(execOp ρ o).run P w= .ok (.value (.bool (!Op.bytesLess b a))) w:=by
 have e:binOp .leq t (.string (mkS a)) (.string (mkS b))=pure (.bool (!Op.bytesLess b a)):=by
  have:binOp .leq t (.string (mkS a)) (.string (mkS b))=pure (.bool (Op.bytesLess (mkS a).toList (mkS b).toList||(mkS a).toList==(mkS b).toList)):=by simp [binOp,Op.stringOp]
  rw [this,m8,Lib.toList_data,Lib.toList_data,mk_data,mk_data,tless_or]
 unfold execOp
 simp only [ho,hx,hy,Sem.run_bind,nE,Result.andThen_ok,e,Sem.run_pure]
section
variable {M:List Nat}{P:Program}{n:Nat}{W:World}{Q:Exit->Act->World->Prop}{c:Xc}
def leqOp (o:Oper):Bool:=match o.op with
 | .binOp .leq _ _ _ _=>true
 |_=>false
def leqX (o:Oper)(i:Nat):Operand:=match o.op with
 | .binOp _ _ x y _=>if i=0 then x else y
 |_=> .tmp 0
theorem x_sle (d:Nat)(h:List Nat)(s u:YL)(hg:zF M P n W Q ((xgo P n (d+50000) h c).put (.bool (!Op.bytesLess u s))))
  (hkt:(xgl P n (d+50000) h c,xW n (xgo P n (d+50000) h c),leqOp (xO (xgo P n (d+50000) h c)),ev n (xgo P n (d+50000) h c).f (leqX (xO (xgo P n (d+50000) h c)) 0),ev n (xgo P n (d+50000) h c).f (leqX (xO (xgo P n (d+50000) h c)) 1))=(xgr P n (d+50000) h c,true,true,.string (mkS s),.string (mkS u)):=by kernel_rfl):zF M P n W Q c:=by
 simp only [Prod.mk.injEq] at hkt
 obtain ⟨hk,e1,e2,e3,e4⟩:=hkt
 refine zJ h c hk (xD e1 (λw=> ?_) hg)
 generalize xO (xgo P n (d+50000) h c)=o at*
 unfold leqOp at e2
 split at e2
 ·rename_i t x y t' ho
  have hx:leqX o 0=x:=by unfold leqX;rw [ho];rfl
  have hy:leqX o 1=y:=by unfold leqX;rw [ho];rfl
  rw [hx] at e3;rw [hy] at e4
  exact run_strleq ho e3 e4 w
 ·cases e2
end
theorem findfn_any (x:Fv)(n:YL)(b:Nat)(W:World)(hc:W.heap[b]?=some (.cells #[.string (mkS n)] 9)):YC 287 #[fvV x,.pointer (some ⟨b,0,none⟩)] W (YR (.bool (decide (x.name=n))) W):=by
 have hb:b<W.heap.size:=(Array.getElem?_eq_some_iff.1 hc).1
 refine zD Tryz.func287 (zY [] λb2=>zI 6 [0] 9 b 0 (.string (mkS n)) (λw hO=>yM Kr ((hO.below.block b hb).trans hc)) (xH 7 [] x.name n (λh=> ?_) (λh=> ?_)))
 ·exact z8 [] Z4 λw hO=>⟨by rw [decide_eq_true h],hO.below⟩
 ·exact z8 [] Z5 λw hO=>⟨by rw [decide_eq_false h],hO.below⟩
theorem idx11_any (A:Option Addr)(cap:Nat)(xs:List Fv)(n:YL)(b:Nat)(W:World)(hv:FtIn W W.heap.size A xs)(hc:W.heap[b]?=some (.cells #[.string (mkS n)] 9)):YC 286 #[.slice A xs.length cap,.func (.func 287) #[] #[.pointer (some ⟨b,0,none⟩)]] W (YR (YI (bN (yI xs) n)) W):=by
 have hb:b<W.heap.size:=(Array.getElem?_eq_some_iff.1 hc).1
 have hn:=hv.n
 refine zD Tryz.func286 (zT (α:=Nat) (λi=>[(0,.slice A xs.length cap),(1,.func (.func 287) #[] #[Zp b 0]),(7,YI (xs.length:Int)),(8,YI (i:Int))]) (λ_=>[]) (λi m=>(i<=xs.length∧∀ y∈xs.take i,¬ y.name=n)/\m=xs.length-i) 0 xs.length [] ⟨⟨Nat.zero_le _,λy h=>by simp at h⟩,rfl⟩ ?_)
 rintro i mm g kk ⟨⟨hi,hno⟩,hmm⟩ nx hkk
 subst hkk
 refine zG 9 [] ((i:Int)<(xs.length:Int)) (λh9=> ?_) (λh9=> ?_)
 rotate_left
 ·refine z8 [] (YI (-1)) λw hO=>⟨?_,hO.below⟩
  have hall:=xE (p:=λy:Fv=>¬ y.name=n) (show xs.length<=i by omega) hno
  rw [bN,findI_none (l:=yI xs) λf hf=>by obtain ⟨y,hy,rfl⟩:=List.mem_map.1 hf;exact hall y hy]
 have hj:i<xs.length:=by omega
 obtain ⟨eb,eo,hA,hel⟩:=hv.top.elem vH i hj
 have hgo:=yH (p:=λy:Fv=>¬ y.name=n) hj hno
 have hel0:∀ w,YB W w->(loadVar 148 ⟨eb,eo+i*2+0,none⟩).run YP w= .ok (fvV xs[i]) w:=λw hw=>hel w hw _ 0 _ Kr
 have hcf:∀ w,YB W w->YC 287 #[fvV xs[i],.pointer (some ⟨b,0,none⟩)] w (YR (.bool (decide (xs[i].name=n))) w):=λw hw=>findfn_any xs[i] n b w ((hw.block b hb).trans hc)
 refine zL 14 [] hA xs.length cap i 2 hj (zI 15 [] 148 eb (eo+i*2+0) (fvV xs[i]) (λw hO=>hel0 w hO.below) (z7 (v:= .bool (decide (xs[i].name=n))) [] (λw hO=>hcf w hO.below) (fI 16 (xs[i].name=n) (λh16=> ?_) (λh16=> ?_))))
 ·refine z8 [] (YI (i:Int)) λw hO=>⟨?_,hO.below⟩
  rw [bN,findI_at (l:=yI xs) (i:=i) (by rw [j7];exact hj) (by rw [ftOf_get hj rfl];exact h16) (λf hf=>by rw [←nF] at hf;obtain ⟨y,hy,rfl⟩:=List.mem_map.1 hf;exact hno y hy)]
 ·exact x_i 18 [] ((i+1:Nat):Int) (nx (i+1) (xs.length-(i+1)) [] Om ⟨⟨hj,hgo h16⟩,rfl⟩ Kr Kr)
theorem fFind_at (A:Option Addr)(cap:Nat)(xs:List Fv)(n:YL)(W:World)(hv:FtIn W W.heap.size A xs):YC 251 #[.slice A xs.length cap,.string (mkS n)] W (YR (YI (bN (yI xs) n)) W):=by
 refine zD Tryz.func251 (zY [] λb=>x_val 6 [] (.func (.func 287) #[] #[Zp b 0]) (λw=>Kr) (z7 (v:=YI (bN (yI xs) n)) [] (λw hO=>idx11_any A cap xs n b w (hv.on hO.below hO.size) ((hO.past 0 [⟨b, #[.string (mkS n)],9⟩]).get (i:=0) rfl)) (z8 [] _ λw hO=>⟨rfl,hO.below⟩)))
theorem fhas_any (A:Option Addr)(cap:Nat)(xs:List Fv)(n:YL)(W:World)(hv:FtIn W W.heap.size A xs):YC 212 #[.slice A xs.length cap,.string (mkS n)] W (YR (.bool (isT (yI xs) n)) W):=by
 refine zD Tryz.func212 (xH 6 [] n dfl (λh=> ?_) (λh=> ?_))
 ·exact z8 [] Z4 λw hO=>⟨by rw [nH,decide_eq_true h];rfl,hO.below⟩
 ·exact z7 (v:=YI (bN (yI xs) n)) [] (λw hO=>fFind_at A cap xs n w (hv.on hO.below hO.size)) (z8 [] (.bool (decide (0<=bN (yI xs) n))) λw hO=>⟨by rw [nH,decide_eq_false h];rfl,hO.below⟩)
def qP (l:List YL)(i:Nat):YL:=if h:0<i/\i-1<l.length then l[i-1] else []
theorem lastT_succ {l:List YL}{i:Nat}(hi:i<l.length):qP l (i+1)=l[i]:=by
 unfold qP;rw [dif_pos ⟨Nat.succ_pos _,by simpa using hi⟩];rfl
theorem less_nil {s:YL}(h:s≠[]):Op.bytesLess [] s=true:=by
 cases s with
 |nil=>exact absurd rfl h
 |cons _ _=>rfl
theorem fmayOf_any (A:Option Addr)(cap:Nat)(xs:List Fv)(B:Option Addr)(capb:Nat)(of:List YL)(W:World)(hv:FtIn W W.heap.size A xs)(hu:Reads zW W W.heap.size B of)(hn:of.length<=5000)(ht:∀ s∈of,s.length<=1000000):YC 163 #[.slice B of.length capb,.slice A xs.length cap] W (YR (.bool (kA (yI xs) of)) W):=by
 refine zD Tryz.func163 (zG 13 [] ((6:Int)<(of.length:Int)) (λh13=> ?_) (λh13=> ?_))
 ·exact z8 [] Z5 λw hO=>⟨by rw [bU (.inl Om)],hO.below⟩
 refine zT (α:=Nat) (λi=>[(0,.slice B of.length capb),(1,.slice A xs.length cap),(5,.string (mkS (qP of i))),(14,.slice B of.length capb),(15,YI (of.length:Int)),(16,YI (i:Int))]) (λ_=>[]) (λi m=>(i<=of.length/\(∀ s∈of.take i,vR (yI xs) s=true)∧∀ z (hz:z+1<of.length),z+1<i->Op.bytesLess (of[z]'Om) of[z+1]=true)/\m=of.length-i) 0 of.length [] ⟨⟨Nat.zero_le _,λy h=>by simp at h,λz hz h=>by omega⟩,rfl⟩ ?_
 rintro i mm g kk ⟨⟨hi,hok,hup⟩,hmm⟩ nx hkk
 subst hkk
 refine zG 17 [] ((i:Int)<(of.length:Int)) (λh17=> ?_) (λh17=> ?_)
 rotate_left
 ·exact z8 [] Z4 λw hO=>⟨by rw [items_yes Om (rise_iff.2 λz hz=>hup z hz Om) (xE Om hok)],hO.below⟩
 have hj:i<of.length:=by omega
 have hsm:of[i]∈of:=List.getElem_mem hj
 have hlast:i≠0->qP of i=of[i-1]'Om:=λh=>by unfold qP;rw [dif_pos ⟨by omega,by omega⟩]
 have hgo:=yH (p:=λs=>vR (yI xs) s=true) hj hok
 have hl1:=lastT_succ hj
 obtain ⟨eb,eo,hA,hel⟩:=hu.elem zR i hj
 have hsh:=ht _ hsm
 have hel':=λw hO ty=>hel w hO ty 0 (.string (mkS of[i]))
 have hbig:=hup
 obtain ⟨s,hs⟩:∃ s,of[i]=s:=⟨_,rfl⟩
 simp only [hs] at hsh hsm hgo hl1 hel'
 have hno:vR (yI xs) s=false->kA (yI xs) of=false:=λh=>bU (.inr (.inr ⟨s,hsm,h⟩))
 refine zL 18 [] hA of.length capb i 1 hj (zI 19 [] 9 eb (eo+i*1+0) (.string (mkS s)) (λw hO=>hel' w hO.below _ Kr) (z7 (v:= .tuple #[YI (zO s).1,.string (mkS (zO s).2.1),.string (mkS (zO s).2.2)]) [] (λw hO=>fItem_at s w hsh) (zG 27 [] ((zO s).1=0) (λh27=> ?_) (λh27=> ?_))))
 ·exact z8 [] Z5 λw hO=>⟨by rw [hno (by unfold vR;simp [h27])],hO.below⟩
 refine x_sle 31 [] s (qP of i) (zV 31 (!Op.bytesLess (qP of i) s) (λh31=> ?_) (λh31=> ?_))
 ·refine z8 [] Z5 λw hO=>⟨?_,hO.below⟩
  have h0:i≠0:=λh0=>by
   subst h0
   have:qP of 0=[]:=by unfold qP;rw [dif_neg Om]
   rw [this,less_nil (λe=>h27 (by rw [e];decide))] at h31;cases h31
  rw [hlast h0] at h31
  have:xR of=false:=by
   cases hr:xR of with
   |false=>rfl
   |true=>
    have q:=rise_iff.1 hr (i-1) Om
    have e2:of[i-1+1]'Om=s:=by rw [←hs];congr 1;omega
    rw [e2] at q
    rw [q] at h31;cases h31
  rw [bU (.inr (.inl this))]
 have hup2:∀ z (hz:z+1<of.length),z+1<i+1->Op.bytesLess (of[z]'Om) of[z+1]=true:=λz hz hzi=>by
  rcases Nat.lt_succ_iff_lt_or_eq.1 hzi with q|q
  ·exact hup z hz q
  ·have h0:i≠0:=by omega
   rw [hlast h0] at h31
   have e1:of[i-1]'Om=of[z]'Om:=by congr 1;omega
   have e2:of[z+1]=s:=by rw [←hs];congr 1
   rw [←e1,e2];simpa using h31
 refine zG 35 [] ((zO s).1=1) (λh35=> ?_) (λh35=> ?_)
 ·have hc:∀ w,YB W w->YC 212 #[.slice A xs.length cap,.string (mkS (zO s).2.1)] w (YR (.bool (isT (yI xs) (zO s).2.1)) w):=λw hb=>fhas_any A cap xs _ w (hv.on hb hb.size)
  refine z7 (v:= .bool (isT (yI xs) (zO s).2.1)) [] (λw hO=>hc w hO.below) (zV 39 (isT (yI xs) (zO s).2.1) (λh39=> ?_) (λh39=> ?_))
  ·exact x_i 44 [] ((i+1:Nat):Int) (xY 5 [] (.string (mkS s)) (.string (mkS (qP of (i+1)))) (by rw [hl1]) (nx (i+1) (of.length-(i+1)) [] Om ⟨⟨hj,hgo (by unfold vR;simp [h35,h39]),hup2⟩,rfl⟩ Kr Kr))
  ·exact z8 [] Z5 λw hO=>⟨by rw [hno (by unfold vR;simp [h35,h39])],hO.below⟩
 ·exact x_i 44 [] ((i+1:Nat):Int) (xY 5 [] (.string (mkS s)) (.string (mkS (qP of (i+1)))) (by rw [hl1]) (nx (i+1) (of.length-(i+1)) [] Om ⟨⟨hj,hgo (by unfold vR;simp [h27,h35]),hup2⟩,rfl⟩ Kr Kr))
end
section
set_option linter.unnecessarySimpa false
def vV (own name rng:YL):Int:=if nmL name=false then 4 else if name=own then 8 else if kE rng=false then 6 else 0
theorem qTarget_any (n r o:YL)(W:World)(hn:n.length<=1000000)(hr:GqR r)(hK:RecLib W):YC 159 #[.string (mkS n),.string (mkS r),.string (mkS o)] W (YR (YI (vV o n r)) W):=by
 have c1:∀ w,YC 69 #[.string (mkS n)] w (YR (.bool (nmL n)) w):=λw=>fG n w hn
 have c2:∀ w,YB W w->YC 209 #[.string (mkS r)] w (YR (.bool (kE r)) w):=λw hb=>qRange_any r w hr (hK.on hb)
 refine zD Tryz.func159 (z7 (v:= .bool (nmL n)) [] (λw hO=>c1 w) (zV 9 (nmL n) (λh1=> ?_) (λh1=> ?_)))
 rotate_left
 ·exact z8 [] (YI 4) λw hO=>⟨by rw [vV,if_pos h1],hO.below⟩
 refine xH 14 [] n o (λh2=> ?_) (λh2=> ?_)
 ·exact z8 [] (YI 8) λw hO=>⟨by rw [vV,if_neg (by simp [h1]),if_pos h2],hO.below⟩
 refine z7 (v:= .bool (kE r)) [] (λw hO=>c2 w hO.below) (zV 17 (kE r) (λh3=> ?_) (λh3=> ?_))
 ·exact z8 [] (YI 0) λw hO=>⟨by rw [vV,if_neg (by simp [h1]),if_neg h2,if_neg (by simp [h3])],hO.below⟩
 ·exact z8 [] (YI 6) λw hO=>⟨by rw [vV,if_neg (by simp [h1]),if_neg h2,if_pos h3],hO.below⟩
theorem barE_targ (own:YL)(b:Bt):vQ own b=if vV own b.name b.rng≠0 then vV own b.name b.rng else if x7 b.wh=false then 7 else 0:=by
 unfold vQ vV
 split
 ·simp
 ·split
  ·simp
  ·split<;>simp
theorem qBar_any (b:Bv)(own:YL)(W:World)(hb:b.name.length<=1000000/\GqR b.rng/\GqM b.wh)(hK:RecLib W):YC 113 #[bvV b,.string (mkS own)] W (YR (YI (vQ own b.bt)) W):=by
 have hE:vQ own b.bt=if vV own b.name b.rng≠0 then vV own b.name b.rng else if x7 b.wh=false then 7 else 0:=barE_targ own b.bt
 have c1:∀ w,YB W w->YC 159 #[.string (mkS b.name),.string (mkS b.rng),.string (mkS own)] w (YR (YI (vV own b.name b.rng)) w):=λw h=>qTarget_any b.name b.rng own w hb.1 hb.2.1 (hK.on h)
 have c2:∀ w,YB W w->YC 161 #[.string (mkS b.wh)] w (YR (.bool (x7 b.wh)) w):=λw h=>qMark_any b.wh w hb.2.2 (hK.on h)
 refine zD Tryz.func113 (zY [] λb1=>z7 (v:=YI (vV own b.name b.rng)) [0,0] (λw hO=>c1 w hO.below) (gE 13 [] (vV own b.name b.rng=0) (λh1=> ?_) (λh1=> ?_)))
 rotate_left
 ·exact z8 [] (YI (vV own b.name b.rng)) λw hO=>⟨by rw [hE,if_pos h1],hO.below⟩
 refine z7 (v:= .bool (x7 b.wh)) [0] (λw hO=>c2 w hO.below) (zV 17 (x7 b.wh) (λh2=> ?_) (λh2=> ?_))
 ·exact z8 [] (YI 0) λw hO=>⟨by rw [hE,if_neg (λq=>q h1),if_neg (by show ¬ x7 b.wh=false;simp [h2])],hO.below⟩
 ·exact z8 [] (YI 7) λw hO=>⟨by rw [hE,if_neg (λq=>q h1),if_pos h2],hO.below⟩
def askB (l:List YL):Bool:=l.all wdL && decide (l.length<=6) && xR l
theorem askB_not {l:List YL}(h:(∃ s∈l,wdL s=false)\/6<l.length\/xR l=false):askB l=false:=by
 unfold askB
 rcases h with ⟨s,hs,h⟩|h|h
 ·rw [show l.all wdL=false from List.all_eq_false.2 ⟨s,hs,by simp [h]⟩];rfl
 ·rw [decide_eq_false Om];simp
 ·rw [h];simp
theorem qAsk_any (A:Option Addr)(cap:Nat)(l:List YL)(W:World)(hv:Reads zW W W.heap.size A l)(hn:l.length<=5000)(ht:∀ s∈l,s.length<=1000000):YC 160 #[.slice A l.length cap] W (YR (.bool (askB l)) W):=by
 refine zD Tryz.func160 (zG 8 [] ((6:Int)<(l.length:Int)) (λh8=> ?_) (λh8=> ?_))
 ·exact z8 [] Z5 λw hO=>⟨by rw [askB_not (.inr (.inl Om))],hO.below⟩
 refine zT (α:=Nat) (λi=>[(3,.string (mkS (qP l i))),(9,.slice A l.length cap),(10,YI (l.length:Int)),(11,YI (i:Int))]) (λ_=>[]) (λi m=>(i<=l.length/\(∀ s∈l.take i,wdL s=true)∧∀ z (hz:z+1<l.length),z+1<i->Op.bytesLess (l[z]'Om) l[z+1]=true)/\m=l.length-i) 0 l.length [] ⟨⟨Nat.zero_le _,λy h=>by simp at h,λz hz h=>by omega⟩,rfl⟩ ?_
 rintro i mm g kk ⟨⟨hi,hok,hup⟩,hmm⟩ nx hkk
 subst hkk
 refine zG 12 [] ((i:Int)<(l.length:Int)) (λh12=> ?_) (λh12=> ?_)
 rotate_left
 ·refine z8 [] Z4 λw hO=>⟨?_,hO.below⟩
  have hall:=xE (p:=λs=>wdL s=true) (show l.length<=i by omega) hok
  have:askB l=true:=by
   unfold askB
   rw [List.all_eq_true.2 hall,decide_eq_true Om,rise_iff.2 λz hz=>hup z hz Om];rfl
  rw [this]
 have hj:i<l.length:=by omega
 have hsm:l[i]∈l:=List.getElem_mem hj
 have hlast:i≠0->qP l i=l[i-1]'Om:=λh=>by unfold qP;rw [dif_pos ⟨by omega,by omega⟩]
 have hgo:=yH (p:=λs=>wdL s=true) hj hok
 have hl1:=lastT_succ hj
 obtain ⟨eb,eo,hA,hel⟩:=hv.elem zR i hj
 have hsh:=ht _ hsm
 have hel':=λw hO ty=>hel w hO ty 0 (.string (mkS l[i]))
 obtain ⟨s,hs⟩:∃ s,l[i]=s:=⟨_,rfl⟩
 simp only [hs] at hsh hsm hgo hl1 hel'
 refine zL 13 [] hA l.length cap i 1 hj (zI 14 [] 9 eb (eo+i*1+0) (.string (mkS s)) (λw hO=>hel' w hO.below _ Kr) (z7 (v:= .bool (wdL s)) [] (λw hO=>bV s w hsh) (zV 16 (wdL s) (λh16=> ?_) (λh16=> ?_))))
 rotate_left
 ·exact z8 [] Z5 λw hO=>⟨by rw [askB_not (.inl ⟨s,hsm,h16⟩)],hO.below⟩
 refine x_sle 21 [] s (qP l i) (zV 21 (!Op.bytesLess (qP l i) s) (λh21=> ?_) (λh21=> ?_))
 ·refine z8 [] Z5 λw hO=>⟨?_,hO.below⟩
  have h0:i≠0:=λh0=>by
   subst h0
   have:qP l 0=[]:=by unfold qP;rw [dif_neg Om]
   rw [this,less_nil (λe=>by rw [e] at h16;exact absurd h16 (by decide))] at h21;cases h21
  rw [hlast h0] at h21
  have:xR l=false:=by
   cases hr:xR l with
   |false=>rfl
   |true=>
    have q:=rise_iff.1 hr (i-1) Om
    have e2:l[i-1+1]'Om=s:=by rw [←hs];congr 1;omega
    rw [e2] at q
    rw [q] at h21;cases h21
  rw [askB_not (.inr (.inr this))]
 have hup2:∀ z (hz:z+1<l.length),z+1<i+1->Op.bytesLess (l[z]'Om) l[z+1]=true:=λz hz hzi=>by
  rcases Nat.lt_succ_iff_lt_or_eq.1 hzi with q|q
  ·exact hup z hz q
  ·have h0:i≠0:=by omega
   rw [hlast h0] at h21
   have e1:l[i-1]'Om=l[z]'Om:=by congr 1;omega
   have e2:l[z+1]=s:=by rw [←hs];congr 1
   rw [←e1,e2];simpa using h21
 refine xY 3 [] (.string (mkS s)) (.string (mkS (qP l (i+1)))) (by rw [hl1]) (x_i 11 [] ((i+1:Nat):Int) (nx (i+1) (l.length-(i+1)) [] Om ⟨⟨hj,hgo h16,hup2⟩,rfl⟩ Kr Kr))
end
section
set_option linter.unnecessarySimpa false
def laV (l:La):Value:= .agg #[YI (l.kind:Int),.string (mkS l.word),YI (l.lo:Int),YI (l.hi:Int),YI (l.parts:Int),.bool l.opn,.bool l.more]
def laB (l:La)(b:Nat):Blk:=⟨b,(laV l).cells,248⟩
theorem laPs_ne (l:La)(s:YL):0<(xN l s).length:=by
 unfold xN
 split
 ·exact (fM 32 _ s).1
 ·exact List.length_pos_iff.2 (jG 32 _ _)
theorem laPs_few (l:La)(s:YL)(hp:l.parts<=1000):(xN l s).length<=s.length+1001:=by
 unfold xN
 split
 ·have:=(fM 32 (l.parts-1) s).2;omega
 ·have:=split_len32 32 s;omega
theorem qCut_any (l:La)(s:YL)(W:World)(hs:s.length<=1000000)(hp:1<=l.parts/\l.parts<=1000):YC 228 #[laV l,.string (mkS s)] W λe w'=>∃ v' ob',e= .returned (.tuple #[v',.bool (dC l s)])/\SlT v' (xN l s) ob'/\Own [] W w' ob':=by
 obtain ⟨z0,hz0⟩:∃ z:Int,z=if l.opn then (l.parts:Int) else-1:=⟨_,rfl⟩
 have hsp:∀ w,YC 265 #[.string (mkS s),.string ⟨#[32]⟩,YI z0] w λe w'=>∃ v ob,e= .returned v/\SlT v (xN l s) ob/\Own [] w w' ob:=λw=>by
  have h:=splitN32_any s z0 w hs (by rw [hz0];split<;>omega)
  have e:(if z0<0 then zA 32 [] s else bI 32 (z0.toNat-1) s)=xN l s:=by
   unfold xN
   rw [hz0]
   cases l.opn with
   |true=>rw [if_pos rfl,if_pos rfl,if_neg Om,Int.toNat_natCast]
   |false=>rw [if_neg Bool.false_ne_true,if_neg Bool.false_ne_true,if_pos (by decide)]
  rw [e] at h
  exact h
 refine zD Tryz.func228 (zY [] λb2=>d6 10 (α:=Int) (λz=>[(1,.string (mkS s)),(2,Zp b2 0),(6,YI z)]) (λ_=>[laB l b2]) (λz=>z=z0) [0] (λnj=>zV 10 l.opn (λh=>nj (l.parts:Int) [0] (by rw [hz0,h];rfl) Kr) (λh=>nj (-1) [] (by rw [hz0,h];rfl) Kr)) (λz g hz=> ?_))
 subst hz
 refine yB (R:=λv ob=>SlT v (xN l s) ob) [] (λw hO=>hsp w) λv ob hR=> ?_
 have hne:=laPs_ne l s
 have hfew:=laPs_few l s hp.2
 obtain ⟨g1,cap,cur,rfl,rfl,hcap⟩:∃ g cap cur,v= .slice (some ⟨g,0,none⟩) (xN l s).length cap/\ob=[⟨g,cur,9⟩]/\True:=by
  rcases hR.2 with ⟨_,h,_⟩|⟨g,cap,cur,h1,h2,_⟩
  ·omega
  ·exact ⟨g,cap,cur,h1,h2,trivial⟩
 have hrd:∀ w,Own [] W w [laB l b2,⟨g1,cur,9⟩]->Reads zW w w.heap.size (some ⟨g1,0,none⟩) (xN l s):=λw hO=>SlT.reads hR rfl hO λx hx=>List.mem_cons_of_mem _ hx
 obtain ⟨a,ha⟩:∃ a,(xN l s)[0]=a:=⟨_,rfl⟩
 have ha0:(xN l s).getD 0 []=a:=by rw [List.getD_eq_getElem?_getD,List.getElem?_eq_getElem hne,ha];rfl
 have hld:∀ w,Own [] W w [laB l b2,⟨g1,cur,9⟩]->(loadVar 9 ⟨g1,0+0*1+0,none⟩).run YP w= .ok (.string (mkS a)) w:=λw hO=>by
  obtain ⟨b,off,e,hel⟩:=(hrd w hO).elem zR 0 hne
  obtain ⟨rfl,rfl⟩:g1=b/\0=off:=by cases e;exact ⟨rfl,rfl⟩
  exact hel w (Below.refl _ _) _ 0 _ (by rw [ha];kernel_rfl)
 have hno:∀ w,Own [] W w [laB l b2,⟨g1,cur,9⟩]->YC 266 #[.slice (some ⟨g1,0,none⟩) (xN l s).length cap,.string ⟨#[]⟩] w (YR (.bool (!noE (xN l s))) w):=λw hO=>qHole_any _ cap (xN l s) w (hrd w hO) Om
 have hE:dC l s=((decide (((xN l s).length:Int)=(l.parts:Int))||(l.more && decide (((xN l s).length:Int)>(l.parts:Int)))) && decide (a=l.word) && noE (xN l s)):=by
  unfold dC
  rw [ha0]
  congr 3
  ·exact decide_eq_decide.2 Om
  ·congr 1;exact decide_eq_decide.2 Om
 have bad:∀ w,dC l s=false->Own [] W w [laB l b2,⟨g1,cur,9⟩]→∃ v' ob',Ending.returned (.tuple #[.slice (some ⟨g1,0,none⟩) (xN l s).length cap,.bool false])= .returned (.tuple #[v',.bool (dC l s)])/\SlT v' (xN l s) ob'/\Own [] W w ob':=λw h hO=>⟨_,_,by rw [h],hR,hO.past 1 _⟩
 generalize xN l s=ps at*
 refine zG 20 [0] ((ps.length:Int)=(l.parts:Int)) (λh20=> ?_) (λh20=>nP 23 [0] l.more (λh23=>zG 29 [0] ((ps.length:Int)>(l.parts:Int)) (λh29=> ?_) (λh29=> ?_)) (λh23=> ?_))
 case refine_3=>exact yP [] (.slice (some ⟨g1,0,none⟩) ps.length cap) (.bool false) λw hO=>bad w (by rw [hE,decide_eq_false h20,decide_eq_false h29];simp) (hO.past 0 _)
 case refine_4=>exact yP [] (.slice (some ⟨g1,0,none⟩) ps.length cap) (.bool false) λw hO=>bad w (by rw [hE,decide_eq_false h20,h23];simp) (hO.past 0 _)
 all_goals
  have hN:(decide ((ps.length:Int)=(l.parts:Int))||(l.more && decide ((ps.length:Int)>(l.parts:Int))))=true:=by
   first|(rw [decide_eq_true h20];rfl)|(rw [h23,decide_eq_true h29];simp)
  rw [hN,Bool.true_and] at hE
  refine zL 36 [] (A:=some ⟨g1,0,none⟩) rfl ps.length cap 0 1 hne (zI 37 [] 9 g1 (0+0*1+0) (.string (mkS a)) (λw hO=>hld w (hO.past 0 _)) (xH 40 [0] a l.word (λh40=> ?_) (λh40=> ?_)))
  rotate_left
  ·exact yP [] (.slice (some ⟨g1,0,none⟩) ps.length cap) Z5 λw hO=>bad w (by rw [hE,decide_eq_false h40];rfl) (hO.past 0 _)
  refine z7 (v:= .bool (!noE ps)) [] (λw hO=>hno w (hO.past 0 _)) (zV 44 (!noE ps) (λh44=> ?_) (λh44=> ?_))
  ·exact yP [] (.slice (some ⟨g1,0,none⟩) ps.length cap) Z5 λw hO=>bad w (by rw [hE,show noE ps=false by simpa using h44];simp) (hO.past 0 _)
  ·exact yP [] (.slice (some ⟨g1,0,none⟩) ps.length cap) Z4 λw hO=>⟨_,_,by rw [hE,decide_eq_true h40,show noE ps=true by simpa using h44];rfl,hR,hO.past 1 _⟩
theorem qFeats_any (s:YL)(W:World)(hs:s.length<=1000000)(hK:HasLib W):YC 269 #[.string (mkS s)] W λe w'=>∃ v' ob',e= .returned v'/\SlT v' (if s=[45] then [] else zA 44 [] s) ob'/\Own [] W w' ob':=by
 have hc:∀ w,YB W w->YC 277 #[.string (mkS s),.string ⟨#[44]⟩] w λe w'=>∃ v ob,e= .returned v/\SlT v (zA 44 [] s) ob/\Own [] w w' ob:=λw hb=>split_comma s w hs (hK.on hb)
 refine zD Tryz.func269 (xH 4 [] s [45] (λh=> ?_) (λh=> ?_))
 ·exact z8 [] (.slice none 0 0) λw hO=>⟨_,[],rfl,by rw [if_pos h];exact Sl.nil _ _,hO.past 0 _⟩
 ·exact yB (R:=λv ob=>SlT v (zA 44 [] s) ob) [] (λw hO=>hc w hO.below) λv ob hR=>(z8 [] v λw hO=>⟨v,ob,rfl,by rw [if_neg h];exact hR,hO.past 0 _⟩)
theorem qLastN_any (g n cap:Nat)(W:World)(hn:n+1<=1000000):YC 268 #[.slice (some ⟨g,0,none⟩) (n+1) cap] W (YR (.pointer (some ⟨g,n*3,none⟩)) W):=by
 refine zD Tryz.func268 (xY 6 [] (YI (IntKind.i64.wrap (((n+1:Nat):Int) -1))) (YI (n:Int)) (by rw [show (((n+1:Nat):Int) -1)=(n:Int) by omega,IntWalk.i64_in _ Om]) ?_)
 refine zL 7 [] (A:=some ⟨g,0,none⟩) rfl (n+1) cap n 3 (Nat.lt_succ_self _) (z8 [] (Zp g (0+(n:Int).toNat*3)) λw hO=>⟨?_,hO.below⟩)
 rw [Nat.zero_add,Int.toNat_natCast]
theorem qLastB_any (g n cap:Nat)(W:World)(hn:n+1<=1000000):YC 270 #[.slice (some ⟨g,0,none⟩) (n+1) cap] W (YR (.pointer (some ⟨g,n*3,none⟩)) W):=by
 refine zD Tryz.func270 (xY 6 [] (YI (IntKind.i64.wrap (((n+1:Nat):Int) -1))) (YI (n:Int)) (by rw [show (((n+1:Nat):Int) -1)=(n:Int) by omega,IntWalk.i64_in _ Om]) ?_)
 refine zL 7 [] (A:=some ⟨g,0,none⟩) rfl (n+1) cap n 3 (Nat.lt_succ_self _) (z8 [] (Zp g (0+(n:Int).toNat*3)) λw hO=>⟨?_,hO.below⟩)
 rw [Nat.zero_add,Int.toNat_natCast]
end
section
set_option linter.unnecessarySimpa false
theorem Sl.putLast {α:Type}{gC:α->List Value}{T sz g cap:Nat}(hg:∀ x,(gC x).length=sz){cur:Array Value}{ini:List α}{n:α}(h:Sl T sz (.slice (some ⟨g,0,none⟩) (ini.length+1) cap) (ini.length+1) ((ini++[n]).flatMap gC) [⟨g,cur,T⟩])(n':α)(fo:Nat)(vs:Array Value)(hfit:fo+vs.size<=sz)(hy:gC n'=(gC n).take fo++vs.toList++(gC n).drop (fo+vs.size)):
  Sl T sz (.slice (some ⟨g,0,none⟩) (ini.length+1) cap) (ini.length+1) ((ini++[n']).flatMap gC) [⟨g,zP cur (ini.length*sz+fo) vs,T⟩]/\ini.length*sz+fo+vs.size<=cur.size:=by
 obtain ⟨h1,h2⟩:=h
 rcases h2 with ⟨e,_⟩|⟨g',cap',cur',e1,e2,e3,e4,e5,e6⟩
 ·cases e
 ·obtain ⟨rfl,rfl⟩:g=g'/\cap=cap':=by cases e1;exact ⟨rfl,rfl⟩
  obtain rfl:cur=cur':=by cases e2;rfl
  have hk:ini.length<(ini++[n]).length:=by simp
  have hs:=store_elem hg (cur:=cur) (l:=ini++[n]) (by rw [List.length_append];exact e6) ini.length fo hk vs n' hfit (by rw [List.getElem_append_right (Nat.le_refl _)];simpa using hy)
  have hset:(ini++[n]).set ini.length n'=ini++[n']:=by simp
  rw [hset,List.length_append,List.length_singleton] at hs
  have hcap:(ini.length+1)*sz<=cap*sz:=Nat.mul_le_mul_right _ e3
  have hm:(ini.length+1)*sz=ini.length*sz+sz:=Nat.succ_mul ..
  refine ⟨⟨?_,.inr ⟨g,cap,_,rfl,rfl,e3,e4,by rw [hs.2];exact e5,hs.1⟩⟩,by omega⟩
  rw [jX hg];simp
theorem Sl.lastAt {α:Type}{gC:α->List Value}{T sz g cap:Nat}(hg:∀ x,(gC x).length=sz){cur:Array Value}{ini:List α}{n:α}(h:Sl T sz (.slice (some ⟨g,0,none⟩) (ini.length+1) cap) (ini.length+1) ((ini++[n]).flatMap gC) [⟨g,cur,T⟩])(j:Nat)(u:Value)(hj:(gC n)[j]?=some u):cur[ini.length*sz+j]?=some u:=by
 obtain ⟨h1,h2⟩:=h
 rcases h2 with ⟨e,_⟩|⟨g',cap',cur',e1,e2,e3,e4,e5,e6⟩
 ·cases e
 ·obtain rfl:cur=cur':=by cases e2;rfl
  have hjs:j<sz:=by have:=(List.getElem?_eq_some_iff.1 hj).1;rwa [hg] at this
  have hm:(ini.length+1)*sz=ini.length*sz+sz:=Nat.succ_mul ..
  have h3:(cur.toList.take ((ini.length+1)*sz))[ini.length*sz+j]?=some u:=by
   rw [e6,List.flatMap_append,List.getElem?_append_right (by rw [jX hg];omega),jX hg,show ini.length*sz+j-ini.length*sz=j by omega,List.flatMap_singleton]
   exact hj
  rw [List.getElem?_take,if_pos Om] at h3
  simpa using h3
structure NdL (A:Option Addr)(c:Nat)(xs:List Nv)(o1 oa og oi:List Blk):Prop where
 top:Sl 72 3 (.slice A xs.length c) xs.length (xs.flatMap nvC) o1
 split:(xs=[]/\oa=[]/\og=[])∨∃ ini n,xs=ini++[n]/\(∀ x∈ini,∃ o,WsO x.A x.cap x.any o∧∀ b∈o,b∈oi)/\Sl 139 4 (.slice n.A n.any.length n.cap) n.any.length (n.any.flatMap wvC) oa∧∀ u∈n.any,∃ o,SlT (.slice u.A u.fs.length u.cap) u.fs o∧∀ b∈o,b∈og
def rdC (x:Rv)(k:Nat):List Value:=rvC x++[YI (k:Int)]
def rdB (x:Rv)(k rb:Nat):Blk:=⟨rb,(rdC x k).toArray,215⟩
structure RdQ (x:Rv)(o1 oa og oi o4 o7 o8:List Blk):Prop where
 needs:NdL x.nA x.nc x.needs o1 oa og oi
 bars:Sl 102 3 (.slice x.bA x.bars.length x.bc) x.bars.length (x.bars.flatMap bvC) o4
 fts:FtO x.fA x.fc x.fts o7 o8
def y9 (oa og oi o4 o7 o8:List Blk):List Blk:=oa++(og++(oi++(o4++(o7++o8))))
def RdR (rb k:Nat)(x:Rv)(ob:List Blk):Prop:=∃ o1 oa og oi o4 o7 o8,ob=rdB x k rb::(o1++y9 oa og oi o4 o7 o8)/\RdQ x o1 oa og oi o4 o7 o8
structure Few (x:Rv):Prop where
 n:x.needs.length<=5000
 b:x.bars.length<=5000
 f:x.fts.length<=5000
 a:∀ n∈x.needs,n.any.length<=5000
theorem fO {M:List Nat}{A:Option Addr}{ps:List YL}{W:World}(hv:ReadsA M zW W A ps)(h0:0<ps.length):∃ pb po,A=some ⟨pb,po,none⟩∧∀ (w:World),Own M W w []→∀ j,j<ps.length->(loadVar 9 ⟨pb,po+j*1+0,none⟩).run YP w= .ok (.string (mkS (ps.getD j []))) w:=by
 obtain ⟨pb,po,e,hlt,hm,hc⟩:=hv h0
 refine ⟨pb,po,e,λw hO j hj=> ?_⟩
 obtain ⟨b,off,e2,hel⟩:=(hv.at hO).elem zR j hj
 obtain ⟨rfl,rfl⟩:pb=b/\po=off:=by rw [e] at e2;cases e2;exact ⟨rfl,rfl⟩
 exact hel w (Below.refl _ _) _ 0 _ (by rw [show ps.getD j []=ps[j] by rw [List.getD_eq_getElem?_getD,List.getElem?_eq_getElem hj];rfl];kernel_rfl)
structure AddB (rb kd:Nat)(x:Rv)(ps:List YL)(ob:List Blk)(W:World)(e:Ending)(w':World):Prop where
 ex:∃ x' ob',e= .returned (.bool (mM x.rt kd ps).2)/\x'.rt=(mM x.rt kd ps).1/\RdR rb kd x' ob'/\Own (ob.map Blk.b) W w' ob'
section
variable {M:List Nat}{P:Program}{n:Nat}{W:World}{Q:Exit->Act->World->Prop}{c:Xc}
theorem x_hold (L1 L2:List Blk)(hs:∀ w,Own M W w L1->Own M W w L2)(hg:zF M P n W Q {c with L:=L2})(hkt:(c.L,xQ c)=(L1,false):=by kernel_rfl):zF M P n W Q c:=by
 simp only [Prod.mk.injEq] at hkt
 obtain ⟨f1,hqq⟩:=hkt
 obtain ⟨top,kk,L,f⟩:=c
 dsimp only at f1
 subst f1
 cases top with
 |ops a r=>exact ⟨λhq=>pY hs (hg.go hq)⟩
 |code x=>exact ⟨λhq=>ok_take hs (hg.go hq)⟩
 |fin e=>exact ⟨λhq=>fin_take hs (hg.go hq)⟩
 |_=>cases hqq
end
theorem lastN_at (g m cap N:Nat)(hN:N=m+1)(hm:m<=5000):∀ w,YC 268 #[.slice (some ⟨g,0,none⟩) N cap] w (YR (.pointer (some ⟨g,m*3,none⟩)) w):=λw=>by subst hN;exact qLastN_any g m cap w Om
theorem lastB_at (g m cap N:Nat)(hN:N=m+1)(hm:m<=5000):∀ w,YC 270 #[.slice (some ⟨g,0,none⟩) N cap] w (YR (.pointer (some ⟨g,m*3,none⟩)) w):=λw=>by subst hN;exact qLastB_any g m cap w Om
theorem sl_addr {T sz N c:Nat}{A:Option Addr}{xs:List Value}{o1:List Blk}(h:Sl T sz (.slice A N c) N xs o1)(h0:0<N):∃ g cur,A=some ⟨g,0,none⟩/\o1=[⟨g,cur,T⟩]:=by
 rcases h.2 with ⟨_,q,_⟩|⟨g,cap,cur,e1,e2,_⟩
 ·omega
 ·cases e1;exact ⟨g,cur,rfl,e2⟩
theorem rd_lastN {x:Rv}{ini:List Nv}{n n':Nv}(hx:x.needs=ini++[n]){k rb:Nat}:rdB {x with needs:=ini++[n']} k rb=rdB x k rb:=by
 have:(ini++[n']).length=x.needs.length:=by rw [hx];simp
 unfold rdB rdC rvC
 simp only [this]
theorem rt_lastN {x:Rv}{ini:List Nv}{n n':Nv}{f:Nt->Nt}(hx:x.needs=ini++[n])(hn:n'.nt=f n.nt):Rv.rt {x with needs:=ini++[n']}={x.rt with needs:=yV f x.rt.needs}:=by
 have e:x.rt.needs=ini.map Nv.nt++[n.nt]:=by show x.needs.map Nv.nt=_;rw [hx];simp
 rw [e,vD,←hn]
 unfold Rv.rt
 simp [Rv.ver]
theorem sl_len {α:Type}{gC:α->List Value}{T sz c:Nat}{A:Option Addr}{ini:List α}{y:α}{o:List Blk}(h:Sl T sz (.slice A (ini.length+1) c) (ini.length+1) ((ini++[y]).flatMap gC) o):Sl T sz (.slice A (ini++[y]).length c) (ini++[y]).length ((ini++[y]).flatMap gC) o:=by
 rw [List.length_append,List.length_singleton];exact h
theorem add_when (rb:Nat)(x:Rv)(ps:List YL)(A:Option Addr)(cap:Nat)(ob:List Blk)(W:World)(hR:RdR rb 4 x ob)(hO:Own (ob.map Blk.b) W W ob)(hv:ReadsA (ob.map Blk.b) zW W A ps)(hp:2<=ps.length)(hF:Few x)(hne:x.needs≠[]):YC 229 #[.pointer (some ⟨rb,0,none⟩),.slice A ps.length cap] W (AddB rb 4 x ps ob W):=by
 obtain ⟨o1,oa,og,oi,o4,o7,o8,rfl,hN,hB,hT⟩:=hR
 obtain ⟨pb,po,hA,hld⟩:=fO hv Om
 rcases hN.split with ⟨e,_⟩|⟨ini,n,hx,hi,hw,hf⟩
 ·exact absurd e hne
 have hlen:x.needs.length=ini.length+1:=by rw [hx];simp
 obtain ⟨g,cur,hg,rfl⟩:=sl_addr hN.top Om
 have hS:Sl 72 3 (.slice (some ⟨g,0,none⟩) (ini.length+1) x.nc) (ini.length+1) ((ini++[n]).flatMap nvC) [⟨g,cur,72⟩]:=by have:=hN.top;rw [hlen,hx,hg] at this;exact this
 have hFn:=hF.n
 have hput:=Sl.putLast qD hS {n with wh:=ps.getD 1 []} 1 #[.string (mkS (ps.getD 1 []))] (by simp) rfl
 have hlast:=lastN_at g ini.length x.nc x.needs.length hlen Om
 rw [←hg] at hlast
 refine q9 hO Tryz.func229 (x4 8 [0] [rdB x 4 rb] (λw hO=>(hO.past 0 (rdB x 4 rb::([⟨g,cur,72⟩]++y9 oa og oi o4 o7 o8))).sublist (by simp)) ?_)
 refine qJ 50098 [0] 6 hA ps.length cap 1 1 Om (qT 50099 [] 7 9 pb (po+1*1+0) (.string (mkS (ps.getD 1 []))) (λw hO=>hld w hO.no 1 Om) (zX [] 4 (z7 (v:=Zp g (ini.length*3)) [] (λw hO=>hlast w) ?_)))
 refine xY 101 [] (Zp g (ini.length*3+1)) (Zp g (ini.length*3+1)) rfl (x_sto 1 ⟨g,cur,72⟩ (ini.length*3+1) 1 (.string (mkS (ps.getD 1 []))) (rdB x 4 rb::⟨g,cur,72⟩::y9 oa og oi o4 o7 o8) hput.2 ?_)
 refine z8 [] Z4 λw hO=>⟨{x with needs:=ini++[{n with wh:=ps.getD 1 []}]},rdB {x with needs:=ini++[{n with wh:=ps.getD 1 []}]} 4 rb::([⟨g,zP cur (ini.length*3+1) #[.string (mkS (ps.getD 1 []))],72⟩]++y9 oa og oi o4 o7 o8),rfl, ?_,⟨[⟨g,zP cur (ini.length*3+1) #[.string (mkS (ps.getD 1 []))],72⟩],oa,og,oi,o4,o7,o8,rfl,⟨⟨?_,.inr ⟨ini,{n with wh:=ps.getD 1 []},rfl,hi,hw,hf⟩⟩,hB,hT⟩⟩, ?_⟩
 ·exact rt_lastN hx (f:=λn=>{n with wh:=ps.getD 1 []}) rfl
 ·exact hg▸sl_len hput.1
 ·rw [rd_lastN hx]
  exact hO.past 0 (rdB x 4 rb::⟨g,zP cur (ini.length*3+1) #[.string (mkS (ps.getD 1 []))],72⟩::y9 oa og oi o4 o7 o8)
theorem add_opt (rb:Nat)(x:Rv)(ps:List YL)(A:Option Addr)(cap:Nat)(ob:List Blk)(W:World)(hR:RdR rb 5 x ob)(hO:Own (ob.map Blk.b) W W ob)(hv:ReadsA (ob.map Blk.b) zW W A ps)(hp:2<=ps.length)(hF:Few x)(hne:x.needs≠[]):YC 229 #[.pointer (some ⟨rb,0,none⟩),.slice A ps.length cap] W (AddB rb 5 x ps ob W):=by
 obtain ⟨o1,oa,og,oi,o4,o7,o8,rfl,hN,hB,hT⟩:=hR
 obtain ⟨pb,po,hA,hld⟩:=fO hv Om
 rcases hN.split with ⟨e,_⟩|⟨ini,n,hx,hi,hw,hf⟩
 ·exact absurd e hne
 have hlen:x.needs.length=ini.length+1:=by rw [hx];simp
 obtain ⟨g,cur,hg,rfl⟩:=sl_addr hN.top Om
 have hS:Sl 72 3 (.slice (some ⟨g,0,none⟩) (ini.length+1) x.nc) (ini.length+1) ((ini++[n]).flatMap nvC) [⟨g,cur,72⟩]:=by have:=hN.top;rw [hlen,hx,hg] at this;exact this
 have hFn:=hF.n
 have hput:=Sl.putLast qD hS {n with opt:=ps.getD 1 []} 2 #[.string (mkS (ps.getD 1 []))] (by simp) rfl
 have hlast:=lastN_at g ini.length x.nc x.needs.length hlen Om
 rw [←hg] at hlast
 refine q9 hO Tryz.func229 (x4 8 [0] [rdB x 5 rb] (λw hO=>(hO.past 0 (rdB x 5 rb::([⟨g,cur,72⟩]++y9 oa og oi o4 o7 o8))).sublist (by simp)) ?_)
 refine qJ 50110 [0] 6 hA ps.length cap 1 1 Om (qT 50111 [] 7 9 pb (po+1*1+0) (.string (mkS (ps.getD 1 []))) (λw hO=>hld w hO.no 1 Om) (zX [] 4 (z7 (v:=Zp g (ini.length*3)) [] (λw hO=>hlast w) ?_)))
 refine xY 113 [] (Zp g (ini.length*3+2)) (Zp g (ini.length*3+2)) rfl (x_sto 1 ⟨g,cur,72⟩ (ini.length*3+2) 1 (.string (mkS (ps.getD 1 []))) (rdB x 5 rb::⟨g,cur,72⟩::y9 oa og oi o4 o7 o8) hput.2 ?_)
 refine z8 [] Z4 λw hO=>⟨{x with needs:=ini++[{n with opt:=ps.getD 1 []}]},rdB {x with needs:=ini++[{n with opt:=ps.getD 1 []}]} 5 rb::([⟨g,zP cur (ini.length*3+2) #[.string (mkS (ps.getD 1 []))],72⟩]++y9 oa og oi o4 o7 o8),rfl, ?_,⟨[⟨g,zP cur (ini.length*3+2) #[.string (mkS (ps.getD 1 []))],72⟩],oa,og,oi,o4,o7,o8,rfl,⟨⟨?_,.inr ⟨ini,{n with opt:=ps.getD 1 []},rfl,hi,hw,hf⟩⟩,hB,hT⟩⟩, ?_⟩
 ·exact rt_lastN hx (f:=λn=>{n with opt:=ps.getD 1 []}) rfl
 ·exact hg▸sl_len hput.1
 ·rw [rd_lastN hx]
  exact hO.past 0 (rdB x 5 rb::⟨g,zP cur (ini.length*3+2) #[.string (mkS (ps.getD 1 []))],72⟩::y9 oa og oi o4 o7 o8)
end
section
set_option linter.unnecessarySimpa false
theorem rd_lastB {x:Rv}{ini:List Bv}{n n':Bv}(hx:x.bars=ini++[n]){k rb:Nat}:rdB {x with bars:=ini++[n']} k rb=rdB x k rb:=by
 have:(ini++[n']).length=x.bars.length:=by rw [hx];simp
 unfold rdB rdC rvC
 simp only [this]
theorem add_bwhen (rb:Nat)(x:Rv)(ps:List YL)(A:Option Addr)(cap:Nat)(ob:List Blk)(W:World)(hR:RdR rb 7 x ob)(hO:Own (ob.map Blk.b) W W ob)(hv:ReadsA (ob.map Blk.b) zW W A ps)(hp:2<=ps.length)(hF:Few x)(hne:x.bars≠[]):YC 229 #[.pointer (some ⟨rb,0,none⟩),.slice A ps.length cap] W (AddB rb 7 x ps ob W):=by
 obtain ⟨o1,oa,og,oi,o4,o7,o8,rfl,hN,hB,hT⟩:=hR
 obtain ⟨pb,po,hA,hld⟩:=fO hv Om
 obtain ⟨ini,n,hx⟩:∃ ini n,x.bars=ini++[n]:=⟨x.bars.dropLast,x.bars.getLast hne,(List.dropLast_concat_getLast hne).symm⟩
 have hlen:x.bars.length=ini.length+1:=by rw [hx];simp
 obtain ⟨g,cur,hg,rfl⟩:=sl_addr hB Om
 have hS:Sl 102 3 (.slice (some ⟨g,0,none⟩) (ini.length+1) x.bc) (ini.length+1) ((ini++[n]).flatMap bvC) [⟨g,cur,102⟩]:=by rw [hlen,hx,hg] at hB;exact hB
 have hFb:=hF.b
 have hput:=Sl.putLast mE hS {n with wh:=ps.getD 1 []} 2 #[.string (mkS (ps.getD 1 []))] (by simp) rfl
 have hlast:=lastB_at g ini.length x.bc x.bars.length hlen Om
 rw [←hg] at hlast
 refine q9 hO Tryz.func229 (x4 8 [0] [rdB x 7 rb] (λw hO=>(hO.past 0 (rdB x 7 rb::(o1++y9 oa og oi [⟨g,cur,102⟩] o7 o8))).sublist (by simp)) ?_)
 refine qJ 50140 [0] 6 hA ps.length cap 1 1 Om (qT 50141 [] 7 9 pb (po+1*1+0) (.string (mkS (ps.getD 1 []))) (λw hO=>hld w hO.no 1 Om) (zX [] 4 (z7 (v:=Zp g (ini.length*3)) [] (λw hO=>hlast w) ?_)))
 refine xY 143 [] (Zp g (ini.length*3+2)) (Zp g (ini.length*3+2)) rfl (x_hold (rdB x 7 rb::(o1++y9 oa og oi [⟨g,cur,102⟩] o7 o8)) (rdB x 7 rb::⟨g,cur,102⟩::(o1++y9 oa og oi [] o7 o8)) (λw hO=>gP [] hO λp=>by
  simp only [y9,List.countP_append,List.countP_cons,List.countP_nil,List.cons_append,List.nil_append];omega) ?_)
 refine x_sto 1 ⟨g,cur,102⟩ (ini.length*3+2) 1 (.string (mkS (ps.getD 1 []))) (rdB x 7 rb::⟨g,cur,102⟩::(o1++y9 oa og oi [] o7 o8)) hput.2 (z8 [] Z4 λw hO=>⟨{x with bars:=ini++[{n with wh:=ps.getD 1 []}]},rdB {x with bars:=ini++[{n with wh:=ps.getD 1 []}]} 7 rb::(o1++y9 oa og oi [⟨g,zP cur (ini.length*3+2) #[.string (mkS (ps.getD 1 []))],102⟩] o7 o8),rfl, ?_,⟨o1,oa,og,oi,[⟨g,zP cur (ini.length*3+2) #[.string (mkS (ps.getD 1 []))],102⟩],o7,o8,rfl,⟨hN, ?_,hT⟩⟩, ?_⟩)
 ·have e:x.rt.bars=ini.map Bv.bt++[n.bt]:=by show x.bars.map Bv.bt=_;rw [hx];simp
  show Rv.rt _={x.rt with bars:=yV (λb=>{b with wh:=ps.getD 1 []}) x.rt.bars}
  rw [e,vD]
  unfold Rv.rt
  simp [Rv.ver,Bv.bt]
 ·exact hg▸sl_len hput.1
 ·rw [rd_lastB hx]
  exact gP [] (hO.past 0 (rdB x 7 rb::⟨g,zP cur (ini.length*3+2) #[.string (mkS (ps.getD 1 []))],102⟩::(o1++y9 oa og oi [] o7 o8))) λp=>by
   simp only [y9,List.countP_append,List.countP_cons,List.countP_nil,List.cons_append,List.nil_append];omega
end
section
set_option linter.unnecessarySimpa false
def hd (x:Rv)(p2:YL)(ps:List YL):Rv:={x with name:=ps.getD 1 [],maj:=(dX p2).maj,min:=(dX p2).min,pat:=(dX p2).pat,pre:=(dX p2).pre,bld:=(dX p2).build}
theorem add_head (rb:Nat)(x:Rv)(ps:List YL)(A:Option Addr)(cap:Nat)(ob:List Blk)(W:World)(hR:RdR rb 1 x ob)(hO:Own (ob.map Blk.b) W W ob)(hv:ReadsA (ob.map Blk.b) zW W A ps)(hp:3<=ps.length)(hs:∀ s∈ps,s.length<=1000000)(hK:∀ w,Own (ob.map Blk.b) W w []->HasTab w):YC 229 #[.pointer (some ⟨rb,0,none⟩),.slice A ps.length cap] W (AddB rb 1 x ps ob W):=by
 obtain ⟨o1,oa,og,oi,o4,o7,o8,rfl,hN,hB,hT⟩:=hR
 obtain ⟨pb,po,hA,hld⟩:=fO hv Om
 obtain ⟨p2,hp2⟩:∃ p,ps.getD 2 []=p:=⟨_,rfl⟩
 have hs2:p2.length<=1000000:=by
  rw [←hp2,List.getD_eq_getElem?_getD,List.getElem?_eq_getElem (by omega)];exact hs _ (List.getElem_mem _)
 have hld2:∀ (w:World),Own ((rdB x 1 rb::(o1++y9 oa og oi o4 o7 o8)).map Blk.b) W w []->(loadVar 9 ⟨pb,po+2*1+0,none⟩).run YP w= .ok (.string (mkS p2)) w:=λw hO=>by have:=hld w hO 2 Om;rw [hp2] at this;exact this
 have hc:∀ w,Own ((rdB x 1 rb::(o1++y9 oa og oi o4 o7 o8)).map Blk.b) W w []->YC 267 #[.string (mkS p2)] w (YR (.tuple #[yT (dX p2),YI (parE p2)]) w):=λw hO=>parse_any p2 w Om (hK w hO)
 refine q9 hO Tryz.func229 (zL 20 [0] hA ps.length cap 2 1 Om (zI 21 [] 9 pb (po+2*1+0) (.string (mkS p2)) (λw hO=>hld2 w hO.no) ?_))
 refine z7 (v:= .tuple #[yT (dX p2),YI (parE p2)]) [] (λw hO=>hc w hO.no) (zH [] λb6=>(x4 9 [0] [⟨b6,(yT (dX p2)).cells,42⟩] (λw hO=>Own.nth 0 ⟨b6,(yT (dX p2)).cells,42⟩ hO) (qJ 50028 [] 3 hA ps.length cap 1 1 Om (qT 50029 [] 4 9 pb (po+1*1+0) (.string (mkS (ps.getD 1 []))) (λw hO=>hld w hO.no 1 Om) (zX [0] 8 ?_)))))
 refine xh_sto 1 (rdB x 1 rb) 0 1 (.string (mkS (ps.getD 1 []))) (⟨b6,(yT (dX p2)).cells,42⟩::rdB x 1 rb::(o1++y9 oa og oi o4 o7 o8)) [⟨b6,(yT (dX p2)).cells,42⟩] (by show 0+1<=10;omega) (λw hO=>Own.nth 0 ⟨b6,(yT (dX p2)).cells,42⟩ hO) (z8 [1] (.bool (decide (parE p2=0))) λw hO=>⟨hd x p2 ps,rdB (hd x p2 ps) 1 rb::(o1++y9 oa og oi o4 o7 o8),by rw [←hp2];rfl, ?_,⟨o1,oa,og,oi,o4,o7,o8,rfl,⟨hN,hB,hT⟩⟩,hO.past 1 _⟩)
 rw [←hp2];rfl
end
section
def pr0:Prm:=⟨λ_=>none,λ_ _ _=>none,λ_ _=>none⟩
theorem pr0_ok (P:Program)(W:World):PrOk P pr0 [] W:=by
 constructor<;>intros<;>simp_all [pr0]
theorem zM {k:FuncId}{s:YL}{W:World}(h:∀ e,(runA YP [] pr0 k #[.string (mkS s)] e).l=(runA YP [] pr0 k #[.string (mkS s)] e).r):Calls YP k #[.string (mkS s)] W λen w'=>en= .returned (.bool true)/\YB W w':=
 run_true (G:=[]) (pr:=pr0) (λw hO x hx=>absurd hx (List.not_mem_nil)) (pr0_ok _ _) h
end
end Go.Proofs.YtflhcaljcoekpaaGreatDoor
