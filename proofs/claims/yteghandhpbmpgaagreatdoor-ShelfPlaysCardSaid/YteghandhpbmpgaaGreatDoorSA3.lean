/-
 What the statement's proof leans on: the ways of walking, plain mathematics, and what the program's functions return; each theorem says on what conditions.
-/
import Derived.Deep.RegionHeld3
import Derived.Outline
import Derived.WalkKit
import Derived.Lib.Hide
import Derived.Test.YteghandhpbmpgaaGreatDoorSA2
set_option maxRecDepth 1000000
set_option maxHeartbeats 8000000
set_option linter.unusedVariables false
set_option linter.unusedSimpArgs false
set_option linter.unnecessarySimpa false
namespace Go.Proofs.YteghandhpbmpgaaGreatDoor
open Go.RowKit

section
end
section
def leastV (v:Ver):Bool:=decide (v.maj=0) && decide (v.min=0) && decide (v.pat=0)
def rightC (c:Cu):Bool:=decide (¬ c.e=0)||(!c.aft && decide (c.v.pre=[]) && !leastV c.v)
def AllRight (l:List Sp):Prop:=∀ s∈l,rightC s.lo=true/\rightC s.hi=true
def valC (c:Cu):Int:=if c.e= -1 then 0 else if c.e=1 then 1000000000000 else c.v.code
def muI (v:Ver):Int:=if v.pre=[] then v.code else v.code-1
def mu (x:Cu):Int:=if x.e=0 then (if muI x.v<0 then 0 else muI x.v) else 0
def denN (l:List Sp)(n:Int):Bool:=l.any λs=>decide (valC s.lo<=n) && decide (n<valC s.hi)
end
section
def relV (v:Ver):Ver:=Ver.rel v.maj v.min v.pat
def relA (v:Ver):Cu:=if leastV v then jA (-1) else ⟨0,relV v,false⟩
def relB (v:Ver):Cu:=if nextOk (relV v) then ⟨0,nextV (relV v),false⟩ else jA 1
def turnC (c:Cu):Cu:=if ¬ c.e=0 then c else if c.aft=true/\c.v.pre=[] then relB c.v else relA c.v
def turnS (s:Sp):Sp:=⟨turnC s.lo,turnC s.hi⟩
def makeRel (l:List Sp):List Sp:=makeL ((l.map turnS).filter (·.may))
def oneRel (v:Ver):List Sp:=[⟨relA v,relB v⟩]
def onePre (v:Ver):List Sp:=[⟨⟨0,kB v,false⟩,⟨0,kB v,true⟩⟩]
end
section
structure St where
 rel:List Sp
 pre:List Sp
def St.may (s:St):Bool:=m8 s.rel && m8 s.pre && s.rel.all λx=>rightC x.lo && rightC x.hi
structure SF (s:St)(n:Nat):Prop where
 rel:RF s.rel n
 pre:RF s.pre n
 right:AllRight s.rel
def setHas (s:St)(v:Ver):Bool:=s.may && v.may && (if v.pre=[] then rowHas s.rel v else rowHas s.pre v)
def noneT:St:=⟨[],[]⟩
def wholeL:List Sp:=[⟨jA (-1),jA 1⟩]
def allT:St:=⟨wholeL,wholeL⟩
def orT (a b:St):St:=⟨orL a.rel b.rel,orL a.pre b.pre⟩
def andT (a b:St):St:=⟨andL a.rel b.rel,andL a.pre b.pre⟩
def notT (a:St):St:=⟨notL a.rel,notL a.pre⟩
def minusT (a b:St):St:=andT a (notT b)
def exactT (v:Ver):St:=if v.may then (if v.pre=[] then ⟨oneRel v,[]⟩ else ⟨[],onePre v⟩) else noneT
section
variable {a b:St}{n m:Nat}{v:Ver}(ha:SF a n)(hb:SF b m)(hv:v.may=true)
include ha hb hv
end
def edgeN (l:List Sp):List Int:=l.flatMap λs=>[s.lo,s.hi].filterMap λc=>if c.e=0 then some c.v.code else none
end
section
end
section
def tO (v:Ver):Nat->Cu
 |0=>if wZ v 0 then ⟨0,bumpV v 0,false⟩ else jA 1
 |k+1=>if wZ v ((k+1:Nat):Int) then ⟨0,bumpV v ((k+1:Nat):Int),false⟩ else tO v k
def turnsK (c:Co):Nat:=if 0<c.v.maj\/c.parts=1 then 0 else if 0<c.v.min\/c.parts=2 then 1 else 2
def Co.low (c:Co):Cu:=⟨0,kB c.v,false⟩
def Co.aft (c:Co):Cu:=if c.parts<3/\0<c.parts then tO c.v (c.parts-1).toNat else ⟨0,kB c.v,true⟩
def Co.span (c:Co):Cu×Cu:=
 if c.op=1\/c.op=2 then (c.low,c.aft) else if c.op=3 then (jA (-1),c.low) else if c.op=4 then (jA (-1),c.aft) else if c.op=5 then (c.aft,jA 1) else if c.op=6 then (c.low,jA 1)
 else if c.op=7 then (c.low,tO c.v (turnsK c)) else if c.op=8 then (c.low,tO c.v (min (c.parts-1) 1).toNat) else if c.parts=0 then (jA (-1),jA 1) else (c.low,tO c.v (c.parts-1).toNat)
def oneRow (lo hi:Cu):List Sp:=addL [] lo hi
def Co.region (c:Co):List Sp:=if c.may then (if c.op=2 then notL (oneRow c.span.1 c.span.2) else oneRow c.span.1 c.span.2) else []
def Co.zone (c:Co):List Sp:=if c.may && !decide (c.v.pre=[]) then [⟨⟨0,{c.v with pre:=[48],build:=[]},false⟩,⟨0,{c.v with pre:=[],build:=[]},false⟩⟩] else []
def upN (v:Ver)(k:Nat):Int:=if k=0 then (v.maj+1)*100000000 else if k=1 then v.maj*100000000+(v.min+1)*10000 else v.code+1
def ordB (op n:Int):Bool:=if op=1 then decide (n=0) else if op=2 then decide (¬ n=0) else if op=3 then decide (n<0) else if op=4 then decide (n<=0) else if op=5 then decide (0<n) else decide (0<=n)
end
section
def wF (c:Co)(v:Ver)(p:Int):Bool:=(decide (p<1)||decide (v.maj=c.v.maj)) && (decide (p<2)||decide (v.min=c.v.min)) && (decide (p<3)||decide (v.pat=c.v.pat))
def overB (c:Co)(v:Ver):Bool:=if ¬ v.maj=c.v.maj\/c.parts=1 then decide (c.v.maj<v.maj) else if ¬ v.min=c.v.min\/c.parts=2 then decide (c.v.min<v.min) else decide (c.v.pat<v.pat)
def saysN (c:Co):Int:=if 0<c.v.maj\/c.parts=1 then 1 else if 0<c.v.min\/c.parts=2 then 2 else 3
def saysB (c:Co)(v:Ver):Bool:=
 if c.op=1\/c.op=9 then wF c v c.parts else if c.op=2 then !wF c v c.parts else if c.op=3 then !wF c v c.parts && !overB c v else if c.op=4 then wF c v c.parts||!overB c v
 else if c.op=5 then overB c v else if c.op=6 then wF c v c.parts||overB c v else if c.op=8 then wF c v (min c.parts 2) && (wF c v c.parts||overB c v)
 else wF c v (saysN c) && (wF c v c.parts||overB c v)
def truncN (v:Ver)(q:Nat):Int:=if q=1 then v.maj*100000000 else if q=2 then v.maj*100000000+v.min*10000 else v.code
end
section
def leastP (v:Ver):Ver:={v with pre:=[48],build:=[]}
def bareV (v:Ver):Ver:={v with pre:=[],build:=[]}
def withO (c:Co)(o:Int):Co:={c with op:=o}
end
section
end
section
abbrev ZQ (x:Co):Array Value:= #[YI x.op,YI x.parts,YI x.v.maj,YI x.v.min,YI x.v.pat,.string (mkS x.v.pre),.string (mkS x.v.build)]
def coV (c:Co):Value:= .agg #[YI c.op,YI c.parts,YI c.v.maj,YI c.v.min,YI c.v.pat,.string (mkS c.v.pre),.string (mkS c.v.build)]
def Co.short (c:Co):Prop:=c.v.short
def toldV (p:Int)(v:Ver):Ver:=⟨if p<1 then 0 else v.maj,if p<2 then 0 else v.min,if p<3 then 0 else v.pat,if p<3 then [] else v.pre,[]⟩
def genCo (l:List Int)(i:Nat):Co:=
 ⟨1+plc (atL l (i+5)) 9,if 1+plc (atL l (i+5)) 9=9 then plc (atL l (i+6)) 3 else 1+plc (atL l (i+6)) 3,toldV (if 1+plc (atL l (i+5)) 9=9 then plc (atL l (i+6)) 3 else 1+plc (atL l (i+6)) 3) (genV l i)⟩
end
section
end
section
def ordSp (c d:Cu):Sp:=if 0<q7 c d then ⟨d,c⟩ else ⟨c,d⟩
def spG (l:List Int)(i n:Nat):Sp:=ordSp (genC l (i+12*n-11)) (genC l (i+12*n-5))
def spansG (l:List Int)(i:Nat):Nat->List Sp
 |0=>[]
 |n+1=>(if (spG l i (n+1)).may then [spG l i (n+1)] else [])++spansG l i n
end
section
def rowG (l:List Int)(i:Nat):List Sp:=makeL (spansG l i (plc (atL l i) (4+1:Nat)).toNat)
end
section
end
section
end
section
theorem rjoin_any (v:Value)(l:List (List UInt8))(b:UInt8)(w:World)(hv:ReadsT w w.heap.size v l)(hl:(zB b l).length<=1000000000)(hn:l.length<=1000000000):
  YC 119 #[v,.int .u8 b.toNat] w (YR (.string (mkS (zB b l))) w):=by
 have hcv:=λ(w:World) (x:Int)=>conv1 w x
 obtain ⟨A,cap,rfl,hcell⟩:=hv
 go_enter Tryz.func119,Tryz.ntmps119
 go_wp2
 go_loopw [5,6] (λsv iv wr=>∃ (k:Nat),iv=YI k/\k<=l.length/\sv= .string (mkS (zB b (l.take k)))/\Below w.heap.size w wr) (λ_ iv _=>l.length-(intOf iv).toNat)
 case atStart=>exact ⟨0,rfl,Nat.zero_le _,rfl,Below.refl _ _⟩
 case round=>
  obtain ⟨k,rfl,hk,rfl,hb⟩:=hrel
  have hsz:=hb.size
  by_cases hp:k<l.length
  ·obtain ⟨ad,rfl,hlt,hc⟩:=hcell Om
   have hck:wr.cell? (ad.add k)=some (.string (mkS l[k])):=(hb.cell (by rw [fP];exact hlt)).trans (hc k hp)
   have hln:(zB b (l.take (k+1))).length<=1000000000:=Nat.le_trans (nU b l (k+1)) hl
   have HJ:=Lib.hid (joinL_snoc b (l.take k) l[k])
   rw [←take_snocL l k hp] at HJ
   clear hc hcell
   by_cases h0:k=0
   ·subst h0
    have hx1:(mkS (zB b [])).size<=0:=by rw [jP];simp [zB]
    have hx2:(mkS l[0]).size<=1000000000:=by
     rw [jP];rw [HJ.out,if_pos List.take_zero] at hln;exact hln
    have hck0:wr.cell? ad=some (.string (mkS l[0])):=hck
    clear hck
    go_wp2
    go_roundw
    case rel=>exact ⟨0+1,by go_num,by omega,by rw [HJ.out,if_pos List.take_zero,xE];rfl,hb⟩
    case measure=>simp [intOf];omega
   ·have h0p:0<k:=by omega
    have hlen:(zB b (l.take k)).length+(l[k].length+1)<=1000000000:=by
     rw [HJ.out,if_neg (w9 l k hp h0p),List.length_append,List.length_cons] at hln;exact hln
    have hx1:(mkS (zB b (l.take k))).size+((mkS l[k]).size+1)<=1000000000:=by rw [jP,jP];exact hlen
    have hx2:(one (b.toNat:Int)).size<=1:=Nat.le_refl _
    have hx3:(mkS (zB b (l.take k))++one (b.toNat:Int)).size<=(mkS (zB b (l.take k))).size+1:=by rw [ByteArray.size_append];omega
    clear hlen
    have hck2:=λo=>(World.cell?_alloc_lt wr o (ad.add k) (by rw [fP];omega)).trans hck
    clear hck
    go_wp2
    go_roundw
    case rel=>exact ⟨k+1,by go_num,by omega,by rw [HJ.out,if_neg (w9 l k hp h0p),one_mk,xE,xE,List.append_assoc];rfl,hb.alloc hsz _⟩
    case measure=>simp [intOf];omega
  ·obtain rfl:k=l.length:=by omega
   go_wp2
   go_ret
   exact ⟨wC (by rw [List.take_length]),hb⟩
end
section
end
section
def highZ (v:Ver)(z:Int):Cu:=if z<0 then jA 1 else tO v z.toNat
theorem rcMay_any (c:Co)(W:World)(hc:c.short):YC 189 #[coV c] W (YR (.bool c.may) W):=by
 obtain ⟨op,parts,v⟩:=c
 have hm:= @Co.may_iff ⟨op,parts,v⟩
 simp only at hm
 have no:∀ w,Below W.heap.size W w→¬ (Co.may ⟨op,parts,v⟩=true)->Ending.returned (.bool false)= .returned (.bool (Co.may ⟨op,parts,v⟩))/\Below W.heap.size W w:=λw hb h=>⟨by rw [Bool.eq_false_iff.2 h],hb⟩
 have hmay:∀ w,YC 60 #[x5 v] w (YR (.bool v.may) w):=λw=>rmay_any v w hc.1 hc.2
 refine z8 Tryz.func189 (zV [] λb1=>zE 7 [0] (op<1) (λh1=>(z6 [] Z5 λw hO=>no w hO.below λq=>by have:=hm.1 q;grind)) (λh1=>zE 11 [0] (op>9) (λh2=>(z6 [] Z5 λw hO=>no w hO.below λq=>by have:=hm.1 q;grind)) (λh2=>z1 (v:= .bool v.may) [0] (λw hO=>hmay w) (yG 16 v.may (λe3=>g8 23 [0] v.build [] (λh4=> ?_) (λh4=>(z6 [] Z5 λw hO=>no w hO.below λq=>by have:=hm.1 q;grind))) (λe3=>(z6 [] Z5 λw hO=>no w hO.below λq=>by have:=hm.1 q;grind))))))
 refine w8 27 (α:=Int×Int) (λq=>[(1,Zp b1 0),(3,YI q.1),(4,YI q.2)]) (λ_=>[⟨b1,(coV ⟨op,parts,v⟩).cells,166⟩]) (λq=>(op=9->q.1=0/\q.2=2)/\(¬ op=9->q.1=1/\q.2=3)) [0] (λnj=>gW 27 (op=9) (λh=>nj (0,2) [] ⟨λ_=>⟨rfl,rfl⟩,λq=>absurd h q⟩ Kr) (λh=>nj (1,3) [] ⟨λq=>absurd q h,λ_=>⟨rfl,rfl⟩⟩ Kr)) ?_
 rintro ⟨lo,hi⟩ g hr
 simp only at hr
 refine zE 31 [0] (parts<lo) (λh5=>(z6 [] Z5 λw hO=>no w hO.below λq=>by have:=hm.1 q;grind)) (λh5=>zE 36 [0] (parts>hi) (λh6=>(z6 [] Z5 λw hO=>no w hO.below λq=>by have:=hm.1 q;grind)) (λh6=> ?_))
 rcases (by omega:parts=0\/parts=1\/parts=2\/parts=3) with rfl|rfl|rfl|rfl
 ·exact g8 46 [0,0] v.pre [] (λh8=>zE 56 [0,0] (v.maj=0) (λa1=>zE 66 [0,0] (v.min=0) (λa2=>zE 77 [0,0] (v.pat=0) (λa3=>(z6 [] Z4 λw hO=>⟨by rw [hm.2 ⟨by omega,e3,h4,by omega,by omega,by first|exact .inl Om|exact .inr h8,by omega,by omega,by omega⟩],hO.below⟩)) (λa3=>(z6 [] Z5 λw hO=>no w hO.below λq=>by have:=hm.1 q;grind))) (λa2=>(z6 [] Z5 λw hO=>no w hO.below λq=>by have:=hm.1 q;grind))) (λa1=>(z6 [] Z5 λw hO=>no w hO.below λq=>by have:=hm.1 q;grind))) (λh8=>(z6 [] Z5 λw hO=>no w hO.below λq=>by have:=hm.1 q;grind))
 ·exact g8 46 [0,0] v.pre [] (λh8=>zE 66 [0,0,0] (v.min=0) (λa2=>zE 77 [0,0] (v.pat=0) (λa3=>(z6 [] Z4 λw hO=>⟨by rw [hm.2 ⟨by omega,e3,h4,by omega,by omega,by first|exact .inl Om|exact .inr h8,by omega,by omega,by omega⟩],hO.below⟩)) (λa3=>(z6 [] Z5 λw hO=>no w hO.below λq=>by have:=hm.1 q;grind))) (λa2=>(z6 [] Z5 λw hO=>no w hO.below λq=>by have:=hm.1 q;grind))) (λh8=>(z6 [] Z5 λw hO=>no w hO.below λq=>by have:=hm.1 q;grind))
 ·exact g8 46 [0,0] v.pre [] (λh8=>zE 77 [0,0,0,0] (v.pat=0) (λa3=>(z6 [] Z4 λw hO=>⟨by rw [hm.2 ⟨by omega,e3,h4,by omega,by omega,by first|exact .inl Om|exact .inr h8,by omega,by omega,by omega⟩],hO.below⟩)) (λa3=>(z6 [] Z5 λw hO=>no w hO.below λq=>by have:=hm.1 q;grind))) (λh8=>(z6 [] Z5 λw hO=>no w hO.below λq=>by have:=hm.1 q;grind))
 ·exact z6 [0,0,0,0] Z4 λw hO=>⟨by rw [hm.2 ⟨by omega,e3,h4,by omega,by omega,by first|exact .inl Om|exact .inr h8,by omega,by omega,by omega⟩],hO.below⟩
theorem rcsign_any (op:Int)(W:World):YC 191 #[YI op] W (YR (.string (mkS (zZ op))) W):=by
 exact z8 Tryz.func191 (zE 5 [] (op=1) (λh=>z6 [] (.string (mkS [61])) λw hO=>⟨by subst h;rfl,hO.below⟩) (λh1=>zE 7 [] (op=2) (λh=>z6 [] (.string (mkS [33,61])) λw hO=>⟨by subst h;rfl,hO.below⟩) (λh2=>zE 9 [] (op=3) (λh=>z6 [] (.string (mkS [60])) λw hO=>⟨by subst h;rfl,hO.below⟩) (λh3=>zE 11 [] (op=4) (λh=>z6 [] (.string (mkS [60,61])) λw hO=>⟨by subst h;rfl,hO.below⟩) (λh4=>zE 13 [] (op=5) (λh=>z6 [] (.string (mkS [62])) λw hO=>⟨by subst h;rfl,hO.below⟩) (λh5=>zE 15 [] (op=6) (λh=>z6 [] (.string (mkS [62,61])) λw hO=>⟨by subst h;rfl,hO.below⟩) (λh6=>zE 17 [] (op=7) (λh=>z6 [] (.string (mkS [94])) λw hO=>⟨by subst h;rfl,hO.below⟩) (λh7=>zE 19 [] (op=8) (λh=>z6 [] (.string (mkS [126])) λw hO=>⟨by subst h;rfl,hO.below⟩) (λh8=>z6 [] (.string (mkS [])) λw hO=>⟨by unfold zZ;rw [if_neg h1,if_neg h2,if_neg h3,if_neg h4,if_neg h5,if_neg h6,if_neg h7,if_neg h8],hO.below⟩)))))))))
end
section
end
section
def triV (l:List (List UInt8)):Ver:=if l.length=3 then ⟨zG (tg l 0),zG (tg l 1),zG (tg l 2),[],[]⟩ else Ver.zero
def triB (l:List (List UInt8)):Bool:=decide (l.length=3) && (kH (tg l 0) && kH (tg l 1) && kH (tg l 2))
theorem pB (n:Int)(h:zL n=true)(w:World):
  YC 232 #[YI n] w (YR (.string (mkS (Lib.itoa n))) w):=by
 unfold zL at h;simp at h
 exact rdigits_any n Om Om w
end
section
theorem signL_len (op:Int):(zZ op).length<=2:=by
 unfold zZ
 repeat' split
 all_goals decide
theorem join_len (b:UInt8)(m:Nat):∀ (l:List (List UInt8)),(∀ x∈l,x.length<=m)->(zB b l).length<=l.length*(m+1)
 | [],_=>by simp [zB]
 | [x],h=>by
  have:=h x (List.mem_singleton.2 rfl)
  simp [zB];omega
 |x::y::r,h=>by
  have h1:=h x (List.mem_cons_self ..)
  have h2:=join_len b m (y::r) λz hz=>h z (List.mem_cons_of_mem _ hz)
  rw [zB,List.length_append,List.length_cons]
  simp only [List.length_cons,Nat.add_mul] at h2 ⊢
  omega
theorem nums_len9 {v:Ver}(hv:v.may=true){n:Nat}:∀ x∈zQ v n,x.length<=21:=λx hx=>by
 obtain ⟨k,hk,rfl⟩:=nums_mem hv hx
 have:=tL hk
 omega
theorem mC (v:Ver)(n:Nat):(zQ v n).length<=3:=by unfold zQ;rw [List.length_take];simp;omega
theorem njoin_len {v:Ver}(hv:v.may=true)(n:Nat):(zB 46 (zQ v n)).length<=100:=by
 have h:=join_len 46 21 (zQ v n) (nums_len9 hv)
 have:=mC v n
 omega
theorem sjoin_len {v:Ver}(hv:v.may=true)(n:Nat):(zB 46 (zQ v n++[[42]])).length<=200:=by
 have h:=join_len 46 21 (zQ v n++[[42]]) (λx hx=>by
  rcases List.mem_append.1 hx with hx|hx
  ·exact nums_len9 hv x hx
  ·rw [List.mem_singleton.1 hx];decide)
 have:=mC v n
 rw [List.length_append] at h
 simp at h;omega
def hY (v:Ver):Array Value:= #[.string (mkS (Lib.itoa v.maj)),.string (mkS (Lib.itoa v.min)),.string (mkS (Lib.itoa v.pat))]
theorem told_take (v:Ver){n:Nat}(h:n<=3):(hY v).toList.take (n*1)=vD (zQ v n):=by
 rw [Nat.mul_one]
 unfold vD zQ
 rw [List.map_take];rfl
theorem told_slt (v:Ver){n:Nat}(h:n<=3)(g:Nat):SlT (.slice (some ⟨g,0,none⟩) n 3) (zQ v n) [⟨g,hY v,9⟩]:=by
 have e:=qQ v h
 refine ⟨by rw [jG,e];omega,.inr ⟨g,3,hY v,by rw [e],rfl,by rw [e];exact h,by decide,rfl, ?_⟩⟩
 rw [e];exact told_take v h
theorem parts_nat {c:Co}(h:c.may=true):((c.parts.toNat:Nat):Int)=c.parts/\c.parts.toNat<=3:=by
 obtain ⟨_,_,_,h9,hn,_⟩:=Co.facts h
 by_cases e:c.op=9
 ·have:=h9 e;omega
 ·have:=hn e;omega
theorem star_text {c:Co}(h9:c.op=9):zB 46 (zQ c.v c.parts.toNat++[[42]])=c.text:=by
 unfold Co.text Co.rest
 rw [h9,if_pos rfl];rfl
theorem text_pre {c:Co}(h9:¬ c.op=9)(hp:¬ c.v.pre=[]):zZ c.op++zB 46 (zQ c.v c.parts.toNat)++[45]++c.v.pre=c.text:=by
 unfold Co.text Co.rest xP
 rw [if_neg h9]
 cases hq:c.v.pre with
 |nil=>exact absurd hq hp
 |cons a r=>simp
theorem text_bare {c:Co}(h9:¬ c.op=9)(hp:c.v.pre=[]):zZ c.op++zB 46 (zQ c.v c.parts.toNat)=c.text:=by
 unfold Co.text Co.rest xP
 rw [if_neg h9,hp];simp
theorem rctold_any (c:Co)(W:World)(hc:c.short)(hm:c.may=true):YC 190 #[coV c] W λe w'=>∃ v' ob',e= .returned v'/\(∃ g,v'= .slice (some ⟨g,0,none⟩) c.parts.toNat 3/\ob'=[⟨g,hY c.v,9⟩])/\Own [] W w' ob':=by
 obtain ⟨m1,m2,m3⟩:=qX (Co.facts hm).2.1
 have hpn:=parts_nat hm
 exact z8 Tryz.func190 (zV [] λb1=>dV 13 [] (zK [0,0,0] 3 (z1 (k:=232) (args:= #[YI c.v.maj]) (v:= .string (mkS (Lib.itoa c.v.maj))) [] (λw _=>pB c.v.maj m1 w) (zK [] 7 (z1 (k:=232) (args:= #[YI c.v.min]) (v:= .string (mkS (Lib.itoa c.v.min))) [] (λw _=>pB c.v.min m2 w) (zK [] 11 (z1 (k:=232) (args:= #[YI c.v.pat]) (v:= .string (mkS (Lib.itoa c.v.pat))) [] (λw _=>pB c.v.pat m3 w) (zK [] 12 (kM 3 9 (hY c.v) λb2=>x_slhi 20 [1] (A:=some ⟨b2,0,none⟩) rfl 3 3 1 c.parts Om Om (.slice (some ⟨b2,0,none⟩) c.parts.toNat 3) rfl (z6 [] (.slice (some ⟨b2,0,none⟩) c.parts.toNat 3) λw hO=>⟨_,_,rfl,⟨b2,rfl,rfl⟩,Own.nth 0 ⟨b2,hY c.v,9⟩ hO⟩))))))))))
theorem rcPrint_any (c:Co)(W:World)(hc:c.short):YC 137 #[coV c] W (YR (.string (mkS c.print)) W):=by
 refine z8 Tryz.func137 (zV [] λb1=>z1 (k:=189) (args:= #[coV c]) (v:= .bool c.may) [0] (λw _=>rcMay_any c w hc) ?_)
 cases hcm:c.may with
 |false=>exact z6 [] (.string (mkS [])) λw hO=>⟨by unfold Co.print;simp [hcm],hO.below⟩
 |true=>
  have hcv:=(Co.facts hcm).2.1
  have hpn:=parts_nat hcm
  have q1:=signL_len c.op
  have q2:=njoin_len hcv c.parts.toNat
  have q3:=hc.1
  refine yV (R:=λv' ob'=>∃ g,v'= .slice (some ⟨g,0,none⟩) c.parts.toNat 3/\ob'=[⟨g,hY c.v,9⟩]) [0] (λw hO=>rctold_any c w hc hcm) ?_
  rintro v' ob' ⟨g1,rfl,rfl⟩
  refine zE 12 [0] (c.op=9) (λh2=> ?_) (λh2=> ?_)
  ·refine x_slhm 18 [0,0] g1 c.parts.toNat 3 1 c.parts c.parts Om (.slice (some ⟨g1,0,none⟩) c.parts.toNat c.parts.toNat) rfl (kG [] 1 9 #[.string ⟨#[42]⟩] λb2=>x_appF (N:=c.parts.toNat) (cap:=c.parts.toNat) (m:=1) (cp:=1) (sz:=1) (T:=9) [] 2 0 [⟨b2, #[.string ⟨#[42]⟩],9⟩,⟨b1,(coV c).cells,166⟩,⟨g1,hY c.v,9⟩] (by show c.parts.toNat*1<=3;omega) Om Om λva oa hva0=> ?_)
   have hva:SlT va (zQ c.v c.parts.toNat++[[42]]) oa:=Sl.to hva0 (by rw [List.length_append,qQ c.v hpn.2];rfl) (by show (hY c.v).toList.take _++_=_;rw [told_take c.v hpn.2];unfold vD;rw [List.map_append];rfl)
   exact z1 (k:=119) (args:= #[va,.int .u8 46]) (v:= .string (mkS (zB 46 (zQ c.v c.parts.toNat++[[42]])))) [] (λw hO=>rjoin_any va _ 46 w (SlT.readsT hva (hO.past 0 (oa++[⟨b2, #[.string ⟨#[42]⟩],9⟩,⟨b1,(coV c).cells,166⟩,⟨g1,hY c.v,9⟩])) (λx hx=>List.mem_append_left _ hx)) (Nat.le_trans (sjoin_len hcv _) (by decide)) (by rw [List.length_append];have:=mC c.v c.parts.toNat;simp;omega)) (z6 [] (.string (mkS (zB 46 (zQ c.v c.parts.toNat++[[42]])))) λw hO=>⟨by rw [g0 hcm,←star_text h2],hO.below⟩)
  ·refine z1 (k:=191) (args:= #[YI c.op]) (v:= .string (mkS (zZ c.op))) [0] (λw _=>rcsign_any c.op w) (z1 (k:=119) (args:= #[.slice (some ⟨g1,0,none⟩) c.parts.toNat 3,.int .u8 46]) (v:= .string (mkS (zB 46 (zQ c.v c.parts.toNat)))) [] (λw hO=>rjoin_any _ _ 46 w (SlT.readsT (told_slt c.v hpn.2 g1) (hO.past 1 [⟨g1,hY c.v,9⟩]) (λx hx=>hx)) (Nat.le_trans q2 (by decide)) (Nat.le_trans (mC _ _) (by decide))) (gX 27 [] (zZ c.op) (zB 46 (zQ c.v c.parts.toNat)) (g8 31 [0] c.v.pre [] (λh3=>z6 [] (.string (mkS (zZ c.op++zB 46 (zQ c.v c.parts.toNat)))) λw hO=>⟨by rw [g0 hcm,←text_bare h2 h3],hO.below⟩) (λh3=> ?_))))
   exact gX 33 [] (zZ c.op++zB 46 (zQ c.v c.parts.toNat)) [45] (gX 37 [0] (zZ c.op++zB 46 (zQ c.v c.parts.toNat)++[45]) c.v.pre (z6 [] (.string (mkS (zZ c.op++zB 46 (zQ c.v c.parts.toNat)++[45]++c.v.pre))) λw hO=>⟨by rw [g0 hcm,←text_pre h2 h3],hO.below⟩))
end
section
def opF (k:Nat):Int:=if k=0 then 9 else if k=1 then 7 else if k=2 then 6 else if k=3 then 3 else if k=4 then 1 else 2
structure FewC (c:Co):Prop where
 op:c.op=7\/c.op=6\/c.op=3\/c.op=1\/c.op=2
 parts:c.parts=3
 v:∃ a b:Nat,a<3/\b<2/\c.v=⟨a,b,0,[],[]⟩
def FewT (t:List UInt8):Prop:=t=[42]∨∃ c,FewC c/\t=c.print
theorem opF_few {k:Nat}(h:k<6)(h9:¬ opF k=9):opF k=7\/opF k=6\/opF k=3\/opF k=1\/opF k=2:=by
 unfold opF at*
 repeat (first|split at* |omega)
theorem few_rd:∀ k:Nat,k<6->yH Tryz.prog 3 #[YI 9,YI 7,YI 6,YI 3,YI 1,YI 2] (0+(k:Int).toNat*1)=some (YI (opF k))
 |0,_=>by kernel_rfl
 |1,_=>by kernel_rfl
 |2,_=>by kernel_rfl
 |3,_=>by kernel_rfl
 |4,_=>by kernel_rfl
 |5,_=>by kernel_rfl
theorem few_gen (v:Value)(l:List Int)(i:Nat)(W:World)(hv:ReadsI W W.heap.size v l)(hl:l.length<=9223372036854775807)(hi:i<=100000):YC 73 #[v,YI (i:Int)] W λe w'=>∃ t,FewT t/\e= .returned (.string (mkS t))/\Below W.heap.size W w':=by
 obtain ⟨k,hk,hk6⟩:=yM (atL l i) 6 (by decide)
 obtain ⟨a,ha,ha3⟩:=yM (atL l (i+1)) 3 (by decide)
 obtain ⟨b,hb,hb2⟩:=yM (atL l (i+2)) 2 (by decide)
 have f1:=x8 hv hl i 6 Om (by decide) (by decide) hk
 have f2:=x8 hv hl (i+1) 3 Om (by decide) (by decide) ha
 have f3:=x8 hv hl (i+2) 2 Om (by decide) (by decide) hb
 have hrd:=few_rd k hk6
 refine z8 Tryz.func73 (zD [] λb1=>x_join (α:=Nat) (λb2=>[(6,Zp b2 0)])
  (λb2=>[⟨b2,(coV ⟨opF k,3,⟨a,b,0,[],[]⟩⟩).cells,166⟩,⟨b1, #[YI 9,YI 7,YI 6,YI 3,YI 1,YI 2],164⟩]) (λ_=>True) [0]
  (λnj=>dV 16 [] (x_i 15 [] ((i+1:Nat):Int) (x_i 19 [] ((i+2:Nat):Int) (x_h2 [] 2 15
    (z1 [] (λw hO=>f1 w hO.below) (xh_ixa 50011 [] 3 6 k 1 hk6 (xh_ldk 50012 [] 4 0 _ _ 3 _ hrd (x_h2 [] 8 15
    (z1 [] (λw hO=>f2 w hO.below) (x_h2 [] 12 15
    (z1 [] (λw hO=>f3 w hO.below) (zK [] 15 (d4 λb2=>(nj b2 [0] trivial Kr))))
    (d4 λb2=>(zK [] 12 (z1 [] (λw hO=>f3 w hO.below) (nj b2 [0] trivial Kr))))))
    (d4 λb2=>(zK [] 8 (z1 [] (λw hO=>f2 w hO.below) (zK [] 12 (z1 [] (λw hO=>f3 w hO.below) (nj b2 [0] trivial Kr))))))))))
    (d4 λb2=>(zK [] 2 (z1 [] (λw hO=>f1 w hO.below) (xh_ixa 50011 [] 3 6 k 1 hk6 (xh_ldk 50012 [] 4 0 _ _ 3 _ hrd (zK [] 8 (z1 [] (λw hO=>f2 w hO.below) (zK [] 12 (z1 [] (λw hO=>f3 w hO.below) (nj b2 [0] trivial Kr))))))))))))))
  (λb2 g _=>zE 25 [0] (opF k=9) (λh=>z6 [] (.string ⟨#[42]⟩) λw hO=>⟨[42],.inl rfl,rfl,hO.below⟩) (λh=> ?_)))
 exact z1 [0] (λw hO=>rcPrint_any ⟨opF k,3,⟨a,b,0,[],[]⟩⟩ w (by constructor<;>simp)) (z6 [] _ λw hO=>⟨_,.inr ⟨⟨opF k,3,⟨a,b,0,[],[]⟩⟩,⟨opF_few hk6 h,rfl,a,b,ha3,hb2,rfl⟩,rfl⟩,rfl,hO.below⟩)
end
section
theorem plc_mod (z n:Nat)(h:0<n):plc (z:Int) (n:Int)=((z % n:Nat):Int):=by
 have e:(z:Int).tmod n=((z % n:Nat):Int):=rfl
 unfold plc
 rw [e,if_neg Om]
theorem name_at (z:Nat)(W:World):YC 47 #[YI (z:Int)] W (YR (.string (mkS (yB (z % 5)))) W):=by
 have hp:=plc_mod z 5 (by decide)
 refine z8 Tryz.func47 (z1 [] (λw _=>(mW z 5 w (by decide) (by decide)).mono λ_ _ ⟨e1,e2⟩=>⟨by rw [e1,show plc (z:Int) 5=((z % 5:Nat):Int) from hp],e2▸Below.refl _ _⟩) ?_)
 exact x_idx 6 [] yB (z % 5) 5 Om (z6 [] _ λw hO=>⟨rfl,hO.below⟩)
structure Wv where
 name:List UInt8
 rng:List UInt8
 A:Option Addr
 cap:Nat
 fs:List (List UInt8)
 bare:Bool
def wvC (x:Wv):List Value:=[.string (mkS x.name),.string (mkS x.rng),.slice x.A x.fs.length x.cap,.bool x.bare]
def wvV (x:Wv):Value:= .agg #[.string (mkS x.name),.string (mkS x.rng),.slice x.A x.fs.length x.cap,.bool x.bare]
structure nW (own:Nat)(alone:Bool)(x:Wv):Prop where
 name:∃ k,k<4/\x.name=yB ((own+1+k) % 5)
 rng:FewT x.rng
 fs:x.fs=[]\/alone=true/\(x.fs=[[120]]\/x.fs=[[120],[121]])
theorem wish_gen (v:Value)(l:List Int)(i own:Nat)(alone:Bool)(W:World)(hv:ReadsI W W.heap.size v l)(hl:l.length<=9223372036854775807)(hi:i<=50000)(ho:own<=50000):YC 135 #[v,YI (i:Int),YI (own:Int),.bool alone] W λe w'=>∃ x ob,e= .returned (wvV x)/\(nW own alone x/\SlT (.slice x.A x.fs.length x.cap) x.fs ob)/\Own [] W w' ob:=by
 obtain ⟨k,hk,hk4⟩:=yM (atL l i) 4 (by decide)
 obtain ⟨b,hb,_⟩:=yM (atL l (i+4)) 3 (by decide)
 obtain ⟨m,hm,hm5⟩:=yM (atL l (i+5)) 5 (by decide)
 have f1:=x8 hv hl i 4 Om (by decide) (by decide) hk
 have f2:=x8 hv hl (i+4) 3 Om (by decide) (by decide) hb
 have f3:=x8 hv hl (i+5) 5 Om (by decide) (by decide) hm
 refine z8 Tryz.func135 (zD [] λb1=>x_i 12 [] ((own+1:Nat):Int) (z1 [] (λw hO=>f1 w hO.below) (x_i 16 [] ((own+1+k:Nat):Int) (z1 [] (λw hO=>name_at (own+1+k) w) (x_i 20 [] ((i+1:Nat):Int) (bH (R:=λv=>∃ t,FewT t/\v= .string (mkS t)) [] (λw hO=>(few_gen v l (i+1) w ((hv.below hO.below).more hO.size) hl Om).mono λe w' ⟨t,h1,h2,h3⟩=>⟨_,h2,⟨t,h1,rfl⟩,h3⟩) ?_))))))
 rintro _ ⟨t,ht,rfl⟩
 refine x_i 24 [] ((i+4:Nat):Int) (z1 [] (λw hO=>f2 w hO.below) ?_)
 refine fR 26 [] (.bool (decide ((b:Int)=0))) Kr (zD [] λb2=>x_i 30 [0] ((i+5:Nat):Int) (z1 [] (λw hO=>f3 w hO.below) ?_))
 have fin:∀ (fs:List (List UInt8)) (A:Option Addr) (cap:Nat),(fs=[]\/alone=true/\(fs=[[120]]\/fs=[[120],[121]]))->nW own alone ⟨yB ((own+1+k) % 5),t,A,cap,fs,decide ((b:Int)=0)⟩:=λfs A cap h=>⟨⟨k,hk4,rfl⟩,ht,h⟩
 refine x_bb 33 [] alone (λh=>zE 35 [] ((2:Int)<m) (λh2=> ?_) (λh2=> ?_)) (λh=> ?_)
 ·have hm2:m=3\/m=4:=by omega
  rcases hm2 with rfl|rfl
  ·exact kG [] 2 9 #[.string (mkS [120]),.string (mkS [121])] (λb3=>gH [1,1,2] 2 (wvV ⟨yB ((own+1+k) % 5),t,some ⟨b3,0,none⟩,2,[[120]],decide ((b:Int)=0)⟩) λw hO=>⟨_,_,rfl,⟨fin _ _ _ (.inr ⟨h,.inl rfl⟩),⟨rfl,.inr ⟨b3,2, #[.string (mkS [120]),.string (mkS [121])],rfl,rfl,by simp,by decide,rfl,rfl⟩⟩⟩,hO.nth 0 _⟩)
  ·exact kG [] 2 9 #[.string (mkS [120]),.string (mkS [121])] (λb3=>gH [1,1,2] 2 (wvV ⟨yB ((own+1+k) % 5),t,some ⟨b3,0,none⟩,2,[[120],[121]],decide ((b:Int)=0)⟩) λw hO=>⟨_,_,rfl,⟨fin _ _ _ (.inr ⟨h,.inr rfl⟩),⟨rfl,.inr ⟨b3,2, #[.string (mkS [120]),.string (mkS [121])],rfl,rfl,by simp,by decide,rfl,rfl⟩⟩⟩,hO.nth 0 _⟩)
 ·exact gH [0,1] 1 (wvV ⟨yB ((own+1+k) % 5),t,none,0,[],decide ((b:Int)=0)⟩) λw hO=>⟨_,[],rfl,⟨fin _ _ _ (.inl rfl),Sl.nil _ _⟩,hO.no⟩
 ·exact gH [0,1] 1 (wvV ⟨yB ((own+1+k) % 5),t,none,0,[],decide ((b:Int)=0)⟩) λw hO=>⟨_,[],rfl,⟨fin _ _ _ (.inl rfl),Sl.nil _ _⟩,hO.no⟩
end
section
set_option linter.unnecessarySimpa false
def nL (c:Nat):List UInt8:=if c=0 then [32,61,32] else [32,33,61,32]
theorem keyL_part:∀ (i:Nat),i<3→∀ w,(part 9 #[.string ⟨#[111,115]⟩,.string ⟨#[97,114,99,104]⟩,.string ⟨#[97,98,105]⟩] i).run Tryz.prog w= .ok (.string (mkS (x1 i))) w
 |0,_,w=>by kernel_rfl
 |1,_,w=>by kernel_rfl
 |2,_,w=>by kernel_rfl
theorem sepT_part:∀ (i:Nat),i<2→∀ w,(part 9 #[.string ⟨#[32,61,32]⟩,.string ⟨#[32,33,61,32]⟩] i).run Tryz.prog w= .ok (.string (mkS (nL i))) w
 |0,_,w=>by kernel_rfl
 |1,_,w=>by kernel_rfl
theorem keyL_four (k:Nat):(x1 k).length<=4:=by unfold x1;split<;>(try split)<;>simp
theorem sepT_four (k:Nat):(nL k).length<=4:=by unfold nL;split<;>simp
theorem nZ (k:Nat):(gA k).length<=4:=by unfold gA;split<;>(try split)<;>(try split)<;>simp
def WhenT (t:List UInt8):Prop:=t=[]∨∃ k c j,k<3/\t=x1 k++nL c++gA j
theorem when_gen (v:Value)(l:List Int)(i:Nat)(W:World)(hv:ReadsI W W.heap.size v l)(hl:l.length<=9223372036854775807)(hi:i<=10000):YC 74 #[v,YI (i:Int)] W λe w'=>∃ t,WhenT t/\e= .returned (.string (mkS t))/\Below W.heap.size W w':=by
 obtain ⟨k,hk,hk6⟩:=yM (atL l i) 6 (by decide)
 obtain ⟨c,hc,hc2⟩:=yM (atL l (i+1)) 2 (by decide)
 obtain ⟨b,hb,hb3⟩:=yM (atL l (i+1)) 3 (by decide)
 obtain ⟨j,hj4,hj⟩:=wordT_any ((1:Int)+(b:Int))
 have hf6:=x8 hv hl i 6 Om (by decide) (by decide) hk
 have hf2:=x8 hv hl (i+1) 2 Om (by decide) (by decide) hc
 have hf3:=x8 hv hl (i+1) 3 Om (by decide) (by decide) hb
 refine Z2 (n:=28) Tryz.func74 rfl (ZO (Zv (.string ⟨#[]⟩) (ZR (Zv (v) (Zv (YI (i:Int)) (Zc (k:=43) (args:= #[v,YI (i:Int),YI 6]) (YI (k:Int)) (λw hO=>hf6 w hO.below) (Zv (YI (k:Int)) ?_)))))))
 refine ZN (y7 (ZO (Zv (YI (k:Int)) ?_)))
 by_cases h1:(2:Int)<(k:Int)
 ·refine Zg h1 (ZY (ZO (Zv (.string ⟨#[]⟩) (ZN (xB (zT (ZF (.string ⟨#[]⟩) Tryz.results74 ?_)))))))
  exact λw hO=>⟨[],.inl rfl,rfl,hO.below⟩
 have hk3:k<3:=by omega
 have q1:=keyL_four k;have q2:=sepT_four c;have q3:=nZ j
 refine Zh h1 (ZX (ZB (y7 (ok_draw Kr Kr (Zw (.agg #[.string ⟨#[111,115]⟩,.string ⟨#[97,114,99,104]⟩,.string ⟨#[97,98,105]⟩]) (Zw (YI (k:Int)) (q_val (.string (mkS (x1 k))) Kr (tA x1 hk3 rfl Kr Kr Tryz.underlying168 (λi hi w=>keyL_part i hi w) Kr) (Zw (.agg #[.string ⟨#[32,61,32]⟩,.string ⟨#[32,33,61,32]⟩]) ?_))))))))
 refine Zw (v) (Zw (YI (i:Int)) (q_sum (k:= .i64) (((i+1:Nat):Int)) Kr (λ_=>Kr) (IntWalk.i64_in _ Om) (Zq (k:=43) (args:= #[v,YI ((i+1:Nat):Int),YI 2]) (YI (c:Int)) (λw hO=>hf2 w hO.below) (q_val (.string (mkS (nL c))) Kr (tA nL hc2 rfl Kr Kr Tryz.underlying169 (λi hi w=>sepT_part i hi w) Kr) (q_val (.string (mkS ((x1 k)++(nL c)))) Kr (f7 (a:=(x1 k)) (b:=(nL c)) rfl Kr Kr (by first|omega|(simp only [List.length_append,List.length_cons,List.length_nil];omega))) (Zw (v) (Zw (YI (i:Int)) (q_sum (k:= .i64) (((i+1:Nat):Int)) Kr (λ_=>Kr) (IntWalk.i64_in _ Om) (Zq (k:=43) (args:= #[v,YI ((i+1:Nat):Int),YI 3]) (YI (b:Int)) (λw hO=>hf3 w hO.below) (q_sum (k:= .i64) ((1:Int)+(b:Int)) Kr (λ_=>Kr) (IntWalk.i64_in _ Om) (Zq (k:=136) (args:= #[YI ((1:Int)+(b:Int))]) (.string (mkS (gA j))) (λw hO=>hj w) ?_)))))))))))
 exact q_val (.string (mkS (((x1 k)++(nL c))++(gA j)))) Kr (f7 (a:=((x1 k)++(nL c))) (b:=(gA j)) rfl Kr Kr (by first|omega|(simp only [List.length_append,List.length_cons,List.length_nil];omega))) (Zw (.string (mkS (((x1 k)++(nL c))++(gA j)))) (q_nil (kK (xB (ZF (.string (mkS (((x1 k)++(nL c))++(gA j)))) Tryz.results74 (λw hO=>⟨_,.inr ⟨k,c,j,hk3,rfl⟩,rfl,hO.below⟩))))))
end
section
structure Nv where
 A:Option Addr
 cap:Nat
 any:List Wv
 wh:List UInt8
 opt:List UInt8
def nvC (x:Nv):List Value:=[.slice x.A x.any.length x.cap,.string (mkS x.wh),.string (mkS x.opt)]
def nvV (x:Nv):Value:= .agg #[.slice x.A x.any.length x.cap,.string (mkS x.wh),.string (mkS x.opt)]
structure WsO (A:Option Addr)(cap:Nat)(xs:List Wv)(ob:List Blk):Prop where
 ex:∃ o1 o2,ob=o1++o2/\Sl 77 4 (.slice A xs.length cap) xs.length (xs.flatMap wvC) o1∧∀ x∈xs,∃ o,SlT (.slice x.A x.fs.length x.cap) x.fs o∧∀ b∈o,b∈o2
structure NeedG (own:Nat)(x:Nv):Prop where
 any:(∃ w,x.any=[w]/\nW own true w)∨∃ w u,x.any=[w,u]/\nW own false w/\nW own false u
 wh:WhenT x.wh
 opt:x.opt=[]∨∃ j,j<4/\x.opt=gA j
def WishR (own:Nat)(alone:Bool)(v:Value)(ob:List Blk):Prop:=∃ x,v=wvV x/\nW own alone x/\SlT (.slice x.A x.fs.length x.cap) x.fs ob
theorem wish_R {v:Value}{l:List Int}{i own:Nat}{alone:Bool}{W w:World}(hb:Below W.heap.size W w)(hv:ReadsI W W.heap.size v l)(hl:l.length<=9223372036854775807)(hi:i<=50000)(ho:own<=50000):YC 135 #[v,YI (i:Int),YI (own:Int),.bool alone] w λe w'=>∃ v ob,e= .returned v/\WishR own alone v ob/\Own [] w w' ob:=
 (wish_gen v l i own alone w ((hv.below hb).more hb.size) hl hi ho).mono λe w' ⟨x,ob,h1,h2,h3⟩=>⟨_,ob,h1,⟨x,rfl,h2⟩,h3⟩
theorem need_gen (v:Value)(l:List Int)(i own:Nat)(W:World)(hv:ReadsI W W.heap.size v l)(hl:l.length<=9223372036854775807)(hi:i<=5000)(ho:own<=5000):YC 72 #[v,YI (i:Int),YI (own:Int)] W λe w'=>∃ x ob,e= .returned (nvV x)/\(NeedG own x/\WsO x.A x.cap x.any ob)/\Own [] W w' ob:=by
 obtain ⟨m,hm,hm5⟩:=yM (atL l i) 5 (by decide)
 obtain ⟨q,hq,hq4⟩:=yM (atL l (i+16)) 4 (by decide)
 obtain ⟨j,hj4,hj⟩:=wordT_any (atL l (i+17))
 have f1:=x8 hv hl i 5 Om (by decide) (by decide) hm
 have f2:=x8 hv hl (i+16) 4 Om (by decide) (by decide) hq
 have fa:∀ w,Below W.heap.size W w->YC 86 #[v,YI ((i+17:Nat):Int)] w (YR (YI (atL l (i+17))) w):=λw hb=>(at_any v l (i+17) w ((hv.below hb).more hb.size) hl Om).mono λ_ _ ⟨e1,e2⟩=>⟨e1,e2▸Below.refl _ _⟩
 have ho':own<=50000:=by omega
 refine z8 Tryz.func72 (zD [] λb1=>zD [] λb2=>z1 [] (λw hO=>f1 w hO.below) (zE 13 [] ((m:Int)=1) (λh1=> ?_) (λh1=> ?_)))
 ·refine q8 2 [] (yJ 14 [] [⟨b2,ZM,74⟩] (λw hO=>hO.nth 0 _) (x_i 23 [0] ((i+1:Nat):Int) (x_i 26 [] ((i+1:Nat):Int) (zK [] 11 (y9 (R:=WishR own false) (λw hO=>wish_R (i:=i+1) hO.below hv hl Om ho') ?_)))))
  rintro _ ob ⟨x,rfl,hx,hxs⟩
  refine zK [] 12 (kM 1 77 (wvV x).cells λb3=>zK [] 13 (qS [⟨b3,(wvV x).cells,77⟩,⟨b2,ZM,74⟩,⟨b1,ZM,74⟩] [] (ob) 0 ([⟨b3,(wvV x).cells,77⟩,⟨b2,ZM,74⟩,⟨b1,ZM,74⟩]++ob) [⟨b2,ZM,74⟩] (λw hO=>by simpa using hO) (λo w hO=>hO.nth 1 _) (Sl.nil 77 4) (m:=1) (cp:=1) Om λv' o' h=> ?_))
  obtain ⟨A',c',rfl⟩:=Sl.form h
  refine (yJ 14 [1] [⟨b2, #[.slice A' 1 c',.string ⟨#[]⟩,.string ⟨#[]⟩],74⟩] (λw hO=>hO.nth 1 _) (x_i 23 [0] ((i+1:Nat):Int) (x_i 26 [] ((i+7:Nat):Int) (zK [] 11 (y9 (R:=WishR own false) (λw hO=>wish_R (i:=i+7) hO.below hv hl Om ho') ?_)))))
  rintro _ ob2 ⟨y,rfl,hy,hys⟩
  refine zK [] 12 (kM 1 77 (wvV y).cells λb4=>zK [] 13 (qS [⟨b4,(wvV y).cells,77⟩,⟨b3,(wvV x).cells,77⟩,⟨b2, #[.slice A' 1 c',.string ⟨#[]⟩,.string ⟨#[]⟩],74⟩,⟨b1,ZM,74⟩] o' (ob++ob2) 0 (⟨b4,(wvV y).cells,77⟩::(([⟨b3,(wvV x).cells,77⟩,⟨b2, #[.slice A' 1 c',.string ⟨#[]⟩,.string ⟨#[]⟩],74⟩,⟨b1,ZM,74⟩]++o'++ob)++ob2)) [⟨b2, #[.slice A' 1 c',.string ⟨#[]⟩,.string ⟨#[]⟩],74⟩] (λw hO=>by simpa [List.append_assoc] using hO) (λo w hO=>hO.nth 2 _) h (m:=1) (cp:=1) Om λv2 o2 h'=> ?_))
  obtain ⟨A2,c2,rfl⟩:=Sl.form h'
  refine x_i 36 [2] ((i+14:Nat):Int) (bH (R:=λv=>∃ t,WhenT t/\v= .string (mkS t)) [] (λw hO=>(when_gen v l (i+14) w ((hv.below hO.below).more hO.size) hl Om).mono λe w' ⟨t,h1,h2,h3⟩=>⟨_,h2,⟨t,h1,rfl⟩,h3⟩) ?_)
  rintro _ ⟨t,ht,rfl⟩
  refine x_i 41 [2] ((i+16:Nat):Int) (z1 [] (λw hO=>f2 w hO.below) (zE 43 [] ((q:Int)=1) (λh2=> ?_) (λh2=> ?_)))
  ·exact x_i 46 [] ((i+17:Nat):Int) (z1 [] (λw hO=>fa w hO.below) (z1 [] (λw hO=>hj w) (gH [2,2,3] 3 (nvV ⟨A2,c2,[x,y],t,gA j⟩) λw hO=>⟨_,_,rfl,⟨⟨.inr ⟨x,y,rfl,hx,hy⟩,ht,.inr ⟨j,hj4,rfl⟩⟩,⟨o2,ob++ob2,rfl,h',λz hz=>by
    rcases List.mem_cons.1 hz with rfl|hz
    ·exact ⟨ob,hxs,λb hb=>List.mem_append_left _ hb⟩
    ·rw [List.mem_singleton.1 hz];exact ⟨ob2,hys,λb hb=>List.mem_append_right _ hb⟩⟩⟩,hO.past 4 _⟩)))
  ·exact gH [2,3] 3 (nvV ⟨A2,c2,[x,y],t,[]⟩) λw hO=>⟨_,_,rfl,⟨⟨.inr ⟨x,y,rfl,hx,hy⟩,ht,.inl rfl⟩,⟨o2,ob++ob2,rfl,h',λz hz=>by
    rcases List.mem_cons.1 hz with rfl|hz
    ·exact ⟨ob,hxs,λb hb=>List.mem_append_left _ hb⟩
    ·rw [List.mem_singleton.1 hz];exact ⟨ob2,hys,λb hb=>List.mem_append_right _ hb⟩⟩⟩,hO.past 4 _⟩
 ·refine q8 1 [] (yJ 14 [] [⟨b2,ZM,74⟩] (λw hO=>hO.nth 0 _) (x_i 23 [0] ((i+1:Nat):Int) (x_i 26 [] ((i+1:Nat):Int) (zK [] 11 (y9 (R:=WishR own true) (λw hO=>wish_R (i:=i+1) hO.below hv hl Om ho') ?_)))))
  rintro _ ob ⟨x,rfl,hx,hxs⟩
  refine zK [] 12 (kM 1 77 (wvV x).cells λb3=>zK [] 13 (qS [⟨b3,(wvV x).cells,77⟩,⟨b2,ZM,74⟩,⟨b1,ZM,74⟩] [] (ob) 0 ([⟨b3,(wvV x).cells,77⟩,⟨b2,ZM,74⟩,⟨b1,ZM,74⟩]++ob) [⟨b2,ZM,74⟩] (λw hO=>by simpa using hO) (λo w hO=>hO.nth 1 _) (Sl.nil 77 4) (m:=1) (cp:=1) Om λv' o' h=> ?_))
  obtain ⟨A',c',rfl⟩:=Sl.form h
  refine x_i 36 [1] ((i+14:Nat):Int) (bH (R:=λv=>∃ t,WhenT t/\v= .string (mkS t)) [] (λw hO=>(when_gen v l (i+14) w ((hv.below hO.below).more hO.size) hl Om).mono λe w' ⟨t,h1,h2,h3⟩=>⟨_,h2,⟨t,h1,rfl⟩,h3⟩) ?_)
  rintro _ ⟨t,ht,rfl⟩
  refine x_i 41 [1] ((i+16:Nat):Int) (z1 [] (λw hO=>f2 w hO.below) (zE 43 [] ((q:Int)=1) (λh2=> ?_) (λh2=> ?_)))
  ·exact x_i 46 [] ((i+17:Nat):Int) (z1 [] (λw hO=>fa w hO.below) (z1 [] (λw hO=>hj w) (gH [1,1,2] 2 (nvV ⟨A',c',[x],t,gA j⟩) λw hO=>⟨_,_,rfl,⟨⟨.inl ⟨x,rfl,hx⟩,ht,.inr ⟨j,hj4,rfl⟩⟩,⟨o',ob,rfl,h,λy hy=>⟨ob,by rw [List.mem_singleton.1 hy];exact hxs,λb hb=>hb⟩⟩⟩,hO.past 3 _⟩)))
  ·exact gH [1,2] 2 (nvV ⟨A',c',[x],t,[]⟩) λw hO=>⟨_,_,rfl,⟨⟨.inl ⟨x,rfl,hx⟩,ht,.inl rfl⟩,⟨o',ob,rfl,h,λy hy=>⟨ob,by rw [List.mem_singleton.1 hy];exact hxs,λb hb=>hb⟩⟩⟩,hO.past 3 _⟩
end
section
theorem splitL_many10 (b:UInt8):∀ (s acc:List UInt8),(zF b acc s).length<=s.length+1:=λs acc=>by
 rw [split_len];have:=List.length_filter_le (·==b) s;omega
theorem s_anew {M:List Nat}{P:Program}{n:Nat}{ops:Array Oper}{W:World}{Q:Exit->Act->World->Prop}{rest:List Oper}{L:List Blk}{f:Nat->Value}(h:∀ w1,Own M W w1 L->Seg (L.map Blk.b) P n ops w1 Q rest L f):Seg M P n ops W Q rest L f:=⟨λw hO=>(h w hO).go w (Own.lend hO)⟩
theorem own_new {W w:World}{E L0:List Blk}(h:Own (L0.map Blk.b) W w (E++L0)):∀ x∈E,W.heap.size<=x.b:=λx hx=>by
 rcases h.base x (List.mem_append_left _ hx) with q|q
 ·exact q
 ·obtain ⟨y,hy,e⟩:=List.mem_map.1 q
  have ha:=h.apart
  rw [List.map_append,List.nodup_append] at ha
  exact absurd e.symm (ha.2.2 x.b (List.mem_map.2 ⟨x,hx,rfl⟩) y.b (List.mem_map.2 ⟨y,hy,rfl⟩))
theorem Reads.bound {α:Type}{g:α->List Value}{w w1:World}{B1 B2:Nat}{A:Option Addr}{l:List α}(h:Reads g w B1 A l)(h1:Reads g w1 B2 A l):Reads g w B2 A l:=λh0=>by
 obtain ⟨b,off,e,_,hc⟩:=h h0
 obtain ⟨b',off',e',hl,_⟩:=h1 h0
 rw [e] at e'
 injection e' with e'
 injection e' with q1 q2
 subst q1;subst q2
 exact ⟨b,off,e,hl,hc⟩
end
section
def gF (n:Nd):Bool:=decide (n.op=1) && decide (0<=n.key) && decide (n.key<3) && wdL n.text && decide (n.a=0) && decide (n.b=0)
def mK (n:Nd):Bool:=decide (n.key=0) && decide (n.text=[])
def jQ (st:List (Nat×Tr))(n:Nd):Bool:=match st with
 |p::_=>decide (n.op=2) && mK n && decide (n.a=(p.1:Int)) && decide (n.b=0)
 | []=>false
def isBin (st:List (Nat×Tr))(n:Nd):Bool:=match st with
 |p::q::_=>(decide (n.op=3)||decide (n.op=4)) && mK n && decide (n.a=(q.1:Int)) && decide (n.b=(p.1:Int))
 |_=>false
def stp (i:Nat)(st:List (Nat×Tr))(n:Nd):Option (List (Nat×Tr)):=
 if gF n then some ((i,.is n.key.toNat n.text)::st)
 else if jQ st n then (match st with|p::r=>some ((i,.no p.2)::r)| []=>none)
 else if isBin st n then (match st with|p::q::r=>some ((i,if n.op=3 then .both q.2 p.2 else .one q.2 p.2)::r)|_=>none)
 else none
def q6:Nat->List (Nat×Tr)->List Nd->Option (List (Nat×Tr))
 |_,st,[]=>some st
 |i,st,n::r=>match stp i st n with|some s=>q6 (i+1) s r|none=>none
def qC (l:List Nd):Option Tr:=match q6 0 [] l with
 |some [p]=>some p.2
 |_=>none
theorem dA:∀ (a b:List Nd) (i:Nat) (st s:List (Nat×Tr)),q6 i st a=some s->q6 i st (a++b)=q6 (i+a.length) s b
 | [],b,i,st,s,h=>by rw [q6] at h;obtain rfl:=Option.some.inj h;rfl
 |n::a,b,i,st,s,h=>by
  rw [q6] at h
  rw [List.cons_append,q6]
  cases hs:stp i st n with
  |none=>rw [hs] at h;cases h
  |some s'=>
   rw [hs] at h
   have:=dA a b (i+1) s' s h
   show q6 (i+1) s' (a++b)=_
   rw [this,List.length_cons,show i+1+a.length=i+(a.length+1) by omega]
theorem t8 {o i j:Nat}{st:List (Nat×Tr)}{n:Nd}(h:n.op≠1):gF n=false:=by
 unfold gF;rw [decide_eq_false h];rfl
theorem mS:∀ (t:Tr) (o:Nat) (st:List (Nat×Tr)),t.ok=true->q6 o st (t.enc o)=some ((o+t.sz-1,t)::st)
 | .is k v,o,st,h=>by
  unfold Tr.ok at h
  simp only [Bool.and_eq_true,decide_eq_true_eq] at h
  have hl:gF ⟨1,0,0,(k:Int),v⟩=true:=by unfold gF;simp [h.2];omega
  show q6 o st [⟨1,0,0,(k:Int),v⟩]=_
  have hs:stp o st ⟨1,0,0,(k:Int),v⟩=some ((o,.is k v)::st):=by unfold stp;rw [if_pos hl];simp
  rw [q6,hs]
  simp [q6,Tr.sz]
 | .no x,o,st,h=>by
  have hx:x.ok=true:=h
  have ih:=mS x o st hx
  have hz:=x.sz_pos
  rw [Tr.enc,dA _ _ _ _ _ ih,Tr.enc_len,q6,stp,if_neg (by rw [t8 (o:=0) (i:=0) (j:=0) (st:=[])]<;>simp)]
  have hn:jQ ((o+x.sz-1,x)::st) ⟨2,((o+x.sz-1:Nat):Int),0,0,[]⟩=true:=by unfold jQ mK;simp
  rw [if_pos hn]
  show q6 _ _ []=_
  rw [q6,show o+x.sz=o+(Tr.no x).sz-1 from by show _=o+(x.sz+1) -1;omega]
 | .both x y,o,st,h=>by
  unfold Tr.ok at h
  rw [Bool.and_eq_true] at h
  have hx:=mS x o st h.1
  have hy:=mS y (o+x.sz) ((o+x.sz-1,x)::st) h.2
  have hz:=x.sz_pos
  have hz2:=y.sz_pos
  rw [Tr.enc,List.append_assoc,dA _ _ _ _ _ hx,Tr.enc_len,dA _ _ _ _ _ hy,Tr.enc_len,q6,stp,if_neg (by rw [t8 (o:=0) (i:=0) (j:=0) (st:=[])]<;>simp)]
  have hn:jQ ((o+x.sz+y.sz-1,y)::(o+x.sz-1,x)::st) ⟨3,((o+x.sz-1:Nat):Int),((o+x.sz+y.sz-1:Nat):Int),0,[]⟩=false:=by unfold jQ;simp
  have hb:isBin ((o+x.sz+y.sz-1,y)::(o+x.sz-1,x)::st) ⟨3,((o+x.sz-1:Nat):Int),((o+x.sz+y.sz-1:Nat):Int),0,[]⟩=true:=by unfold isBin mK;simp
  rw [if_neg (by rw [hn];simp),if_pos hb]
  show q6 _ _ []=_
  rw [q6,show o+x.sz+y.sz=o+(Tr.both x y).sz-1 from by show _=o+(x.sz+y.sz+1) -1;omega];rfl
 | .one x y,o,st,h=>by
  unfold Tr.ok at h
  rw [Bool.and_eq_true] at h
  have hx:=mS x o st h.1
  have hy:=mS y (o+x.sz) ((o+x.sz-1,x)::st) h.2
  have hz:=x.sz_pos
  have hz2:=y.sz_pos
  rw [Tr.enc,List.append_assoc,dA _ _ _ _ _ hx,Tr.enc_len,dA _ _ _ _ _ hy,Tr.enc_len,q6,stp,if_neg (by rw [t8 (o:=0) (i:=0) (j:=0) (st:=[])]<;>simp)]
  have hn:jQ ((o+x.sz+y.sz-1,y)::(o+x.sz-1,x)::st) ⟨4,((o+x.sz-1:Nat):Int),((o+x.sz+y.sz-1:Nat):Int),0,[]⟩=false:=by unfold jQ;simp
  have hb:isBin ((o+x.sz+y.sz-1,y)::(o+x.sz-1,x)::st) ⟨4,((o+x.sz-1:Nat):Int),((o+x.sz+y.sz-1:Nat):Int),0,[]⟩=true:=by unfold isBin mK;simp
  rw [if_neg (by rw [hn];simp),if_pos hb]
  show q6 _ _ []=_
  rw [q6,show o+x.sz+y.sz=o+(Tr.one x y).sz-1 from by show _=o+(x.sz+y.sz+1) -1;omega];rfl
def Lies:List (Nat×Tr)->List Nd->Prop
 | [],l=>l=[]
 |p::r,l=>∃ l0,Lies r l0/\p.2.ok=true/\p.1=l0.length+p.2.sz-1/\l=l0++p.2.enc l0.length
theorem stp_lies {st s:List (Nat×Tr)}{l:List Nd}{n:Nd}(h:Lies st l)(hs:stp l.length st n=some s):Lies s (l++[n]):=by
 unfold stp at hs
 split at hs
 ·rename_i hl
  obtain rfl:=Option.some.inj hs
  unfold gF at hl
  simp only [Bool.and_eq_true,decide_eq_true_eq] at hl
  obtain ⟨⟨⟨⟨⟨h1,h2⟩,h3⟩,h4⟩,h5⟩,h6⟩:=hl
  refine ⟨l,h, ?_, ?_, ?_⟩
  ·show Tr.ok (.is n.key.toNat n.text)=true
   unfold Tr.ok;simp [h4];omega
  ·show l.length=l.length+1-1;omega
  ·show l++[n]=l++[⟨1,0,0,((n.key.toNat:Nat):Int),n.text⟩]
   obtain ⟨op,a,b,key,text⟩:=n
   simp only at h1 h2 h3 h4 h5 h6
   subst h1;subst h5;subst h6
   rw [Int.toNat_of_nonneg h2]
 ·split at hs
  ·rename_i hl
   match st,hs,hl,h with
   |p::r,hs,hl,h=>
    simp only [Option.some.injEq] at hs
    subst hs
    unfold jQ mK at hl
    simp only [Bool.and_eq_true,decide_eq_true_eq] at hl
    obtain ⟨⟨⟨h1,h2,h3⟩,h4⟩,h5⟩:=hl
    obtain ⟨l0,hr,hok,hp,rfl⟩:=h
    refine ⟨l0,hr,hok, ?_, ?_⟩
    ·show (l0++p.2.enc l0.length).length=l0.length+(p.2.sz+1) -1
     rw [List.length_append,Tr.enc_len];omega
    ·show l0++p.2.enc l0.length++[n]=l0++(p.2.enc l0.length++[⟨2,((l0.length+p.2.sz-1:Nat):Int),0,0,[]⟩])
     obtain ⟨op,a,b,key,text⟩:=n
     simp only at h1 h2 h3 h4 h5
     subst h1;subst h2;subst h3;subst h4;subst h5
     rw [List.append_assoc,hp]
  ·split at hs
   ·rename_i hl
    match st,hs,hl,h with
    |p::q::r,hs,hl,h=>
     simp only [Option.some.injEq] at hs
     subst hs
     unfold isBin mK at hl
     simp only [Bool.and_eq_true,Bool.or_eq_true,decide_eq_true_eq] at hl
     obtain ⟨⟨⟨h1,h2,h3⟩,h4⟩,h5⟩:=hl
     obtain ⟨l1,⟨l0,hr,hok,hq,rfl⟩,hok2,hp,rfl⟩:=h
     have hz:=q.2.sz_pos
     have hl1:(l0++q.2.enc l0.length).length=l0.length+q.2.sz:=by rw [List.length_append,Tr.enc_len]
     rw [hl1] at hp ⊢
     obtain ⟨op,a,b,key,text⟩:=n
     simp only at h1 h2 h3 h4 h5
     subst h2;subst h3;subst h4;subst h5
     rcases h1 with h1|h1
     ·subst h1
      refine ⟨l0,hr, ?_, ?_, ?_⟩
      ·show (Tr.both q.2 p.2).ok=true
       unfold Tr.ok;rw [hok,hok2];rfl
      ·show (l0++q.2.enc l0.length++p.2.enc (l0.length+q.2.sz)).length=l0.length+(q.2.sz+p.2.sz+1) -1
       rw [List.length_append,List.length_append,Tr.enc_len,Tr.enc_len];omega
      ·show l0++q.2.enc l0.length++p.2.enc (l0.length+q.2.sz)++[_]=l0++(q.2.enc l0.length++p.2.enc (l0.length+q.2.sz)++[_])
       rw [hq,hp];simp
     ·subst h1
      refine ⟨l0,hr, ?_, ?_, ?_⟩
      ·show (Tr.one q.2 p.2).ok=true
       unfold Tr.ok;rw [hok,hok2];rfl
      ·show (l0++q.2.enc l0.length++p.2.enc (l0.length+q.2.sz)).length=l0.length+(q.2.sz+p.2.sz+1) -1
       rw [List.length_append,List.length_append,Tr.enc_len,Tr.enc_len];omega
      ·show l0++q.2.enc l0.length++p.2.enc (l0.length+q.2.sz)++[_]=l0++(q.2.enc l0.length++p.2.enc (l0.length+q.2.sz)++[_])
       rw [hq,hp];simp
   ·cases hs
theorem run_lies:∀ (r l:List Nd) (st s:List (Nat×Tr)),Lies st l->q6 l.length st r=some s->Lies s (l++r)
 | [],l,st,s,h,hs=>by rw [q6] at hs;obtain rfl:=Option.some.inj hs;rw [List.append_nil];exact h
 |n::r,l,st,s,h,hs=>by
  rw [q6] at hs
  cases hq:stp l.length st n with
  |none=>rw [hq] at hs;cases hs
  |some s1=>
   rw [hq] at hs
   have h1:=stp_lies h hq
   have:=run_lies r (l++[n]) s1 s h1 (by rw [List.length_append];exact hs)
   rw [List.append_assoc] at this
   exact this
theorem treeOf_iff {l:List Nd}{t:Tr}:qC l=some t↔t.ok=true/\l=t.enc 0:=by
 constructor
 ·intro h
  unfold qC at h
  cases hr:q6 0 [] l with
  |none=>rw [hr] at h;cases h
  |some s=>
   rw [hr] at h
   match s,h with
   | [p],h=>
    obtain rfl:=Option.some.inj h
    obtain ⟨l0,hl0,hok,_,e⟩:=run_lies l [] [] [p] rfl hr
    have:l0=[]:=hl0
    subst this
    exact ⟨hok,e⟩
 ·rintro ⟨h,rfl⟩
  unfold qC
  rw [mS t 0 [] h]
theorem dY {t:Tr}(h:t.ok=true):qC (t.enc 0)=some t:=treeOf_iff.2 ⟨h,rfl⟩
def mD (l:List Nd):Bool:=match qC l with
 |some t=>decide (t.sz<=15) && decide (t.text.length<=96)
 |none=>decide (l=[])
theorem pK {l:List Nd}(h:mD l=true):l=[]∨∃ t:Tr,t.ok=true/\l=t.enc 0/\t.sz<=15/\t.text.length<=96:=by
 unfold mD at h
 cases ht:qC l with
 |none=>rw [ht] at h;exact .inl (of_decide_eq_true h)
 |some t=>
  rw [ht] at h
  simp only [Bool.and_eq_true,decide_eq_true_eq] at h
  have:=treeOf_iff.1 ht
  exact .inr ⟨t,this.1,this.2,h.1,h.2⟩
theorem mayM_enc {t:Tr}(h:t.ok=true):mD (t.enc 0)=(decide (t.sz<=15) && decide (t.text.length<=96)):=by unfold mD;rw [dY h]
abbrev Pf:=Nat->List UInt8
def evT (e:Pf):Tr->Int
 | .is k t=>if e k=[] then 1 else if e k=t then 2 else 0
 | .no x=>2-evT e x
 | .both x y=>min (evT e x) (evT e y)
 | .one x y=>max (evT e x) (evT e y)
def vlT (e:Pf):Tr->List Int
 | .is k t=>[evT e (.is k t)]
 | .no x=>vlT e x++[evT e (.no x)]
 | .both x y=>vlT e x++vlT e y++[evT e (.both x y)]
 | .one x y=>vlT e x++vlT e y++[evT e (.one x y)]
def Ext (e g:Pf):Prop:=∀ k,e k≠[]->g k=e k
def nT (e:Pf):Tr->Tr
 | .is k t=> .is k t
 | .no x=> .no (nT e x)
 | .both x y=>if evT e y≠1 then nT e x else if evT e x≠1 then nT e y else .both (nT e x) (nT e y)
 | .one x y=>if evT e y≠1 then nT e x else if evT e x≠1 then nT e y else .one (nT e x) (nT e y)
def Asks (p:Nat->Prop):Tr->Prop
 | .is k _=>p k
 | .no x=>Asks p x
 | .both x y=>Asks p x/\Asks p y
 | .one x y=>Asks p x/\Asks p y
def truthT (e:Pf):Tr->Bool
 | .is k t=>decide (e k=t)
 | .no x=> !truthT e x
 | .both x y=>truthT e x && truthT e y
 | .one x y=>truthT e x||truthT e y
end
section
def tl:List Tok->Nat
 | []=>0
 |x::r=>x.length+1+tl r
theorem tl_app:∀ a b:List Tok,tl (a++b)=tl a+tl b
 | [],b=>by simp [tl]
 |x::a,b=>by rw [List.cons_append,tl,tl,tl_app a b];omega
theorem tl_join:∀ l:List Tok,l≠[]->(zB 32 l).length+1=tl l
 | [],h=>absurd rfl h
 | [x],_=>by simp [zB,tl]
 |x::y::r,_=>by
  have:=tl_join (y::r) (by simp)
  rw [zB,tl,←this];simp;omega
theorem t7 (c:Bool)(l:List Tok):tl (vO c l)=tl l+if c then 4 else 0:=by
 unfold vO
 cases c with
 |false=>simp
 |true=>simp [tl,tl_app,yT,kC];omega
def Tr.w (t:Tr):Nat:=tl t.tok
def Tr.w1 (t:Tr):Nat:=t.w+if t.isOne then 4 else 0
def Tr.w2 (t:Tr):Nat:=t.w+if t.isBin then 4 else 0
theorem Tr.text_w (t:Tr):t.text.length+1=t.w:=tl_join _ t.tok_ne
theorem Tr.w_le (t:Tr):t.w<=t.w1/\t.w1<=t.w2/\t.w2<=t.w+4:=by
 unfold Tr.w1 Tr.w2
 cases t<;>simp [Tr.isOne,Tr.isBin]
theorem w_both (x y:Tr):(Tr.both x y).w=x.w1+4+y.w2:=by
 unfold Tr.w Tr.w1 Tr.w2 Tr.w
 rw [Tr.tok,tl_app,t7,tl,t7];simp [bV];omega
theorem w_one (x y:Tr):(Tr.one x y).w=x.w+3+y.w1:=by
 unfold Tr.w Tr.w1 Tr.w
 rw [Tr.tok,tl_app,tl,t7];simp [tOr];omega
theorem w_is (k:Nat)(t:Tok):(Tr.is k t).w=(x1 k).length+t.length+4:=by
 unfold Tr.w
 rw [Tr.tok];simp [tl,tEq];omega
theorem w_no (x:Tr):(Tr.no x).w<=x.w2+4/\x.w+1<=(Tr.no x).w:=by
 cases x with
 |is k t=>
  have:=w_is k t
  unfold Tr.w2
  have e:(Tr.no (.is k t)).w=(x1 k).length+t.length+5:=by unfold Tr.w;rw [Tr.tok];simp [tl,tNe];omega
  simp [Tr.isBin];omega
 |no y=>unfold Tr.w2 Tr.w;rw [show (Tr.no (.no y)).tok=gZ::(Tr.no y).tok from rfl,tl];simp [Tr.isBin,gZ];omega
 |both y z=>unfold Tr.w2 Tr.w;rw [show (Tr.no (.both y z)).tok=gZ::vO true (Tr.both y z).tok from rfl,tl,t7];simp [Tr.isBin,gZ];omega
 |one y z=>unfold Tr.w2 Tr.w;rw [show (Tr.no (.one y z)).tok=gZ::vO true (Tr.one y z).tok from rfl,tl,t7];simp [Tr.isBin,gZ];omega
def qU (l:List Nd):List UInt8:=if mD l then (match qC l with|some t=>t.text|none=>[]) else []
def xH (s:List UInt8):List Tok:=zF 32 [] s
def Tr.fit (t:Tr):Bool:=decide (t.sz<=15) && decide (t.text.length<=96)
def jK (s:List UInt8):Option Tr:=match pOr (xH s).length (xH s) with
 |some (t,[])=>if t.fit then some t else none
 |_=>none
def errM (s:List UInt8):Int:=if 96<s.length then 3 else if s=[] then 0 else match jK s with|some _=>0|none=>7
def wE (s:List UInt8):List Nd:=if 96<s.length then [] else if s=[] then [] else match jK s with|some t=>t.enc 0|none=>[]
def pfOk (e:Pf):Bool:=(decide (e 0=[])||wdL (e 0)) && (decide (e 1=[])||wdL (e 1)) && (decide (e 2=[])||wdL (e 2))
def evalM (l:List Nd)(e:Pf):Int:=if mD l && pfOk e then (match qC l with|some t=>evT e t|none=>2) else 0
def underM (l:List Nd)(e:Pf):List Nd:=if evalM l e=1 then (match qC l with|some t=>(nT e t).enc 0|none=>[]) else []
theorem fit_may {t:Tr}(h:t.ok=true):mD (t.enc 0)=t.fit:=by rw [mayM_enc h];rfl
theorem printM_enc {t:Tr}(h:t.ok=true)(hf:t.fit=true):qU (t.enc 0)=t.text:=by
 unfold qU
 rw [fit_may h,hf,dY h];rfl
theorem wordGo_no {b:UInt8}(hb:wdB b.toNat=false):∀ (l:List UInt8),vY l=true->b∉l
 | [],_=>by simp
 |c::r,h=>by
  have hc:wdB c.toNat=true:=by
   unfold vY at h
   unfold wdB
   rw [Bool.and_eq_true] at h;exact h.1
  rw [mM c r hc] at h
  intro hm
  rcases List.mem_cons.1 hm with e|hm
  ·subst e;rw [hb] at hc;cases hc
  ·exact wordGo_no hb r h hm
theorem wdL_no {s:List UInt8}{b:UInt8}(hb:wdB b.toNat=false)(h:wdL s=true):b∉s:=by
 unfold wdL at h
 rw [Bool.and_eq_true] at h;exact wordGo_no hb s h.2
theorem text10_ne (t:Tr):t.text≠[]:=by
 intro e
 have h:=t.text_w
 rw [e] at h
 have:∀ t:Tr,5<=t.w:=λt=>by
  induction t with
  |is k v=>rw [w_is];unfold x1;split<;>(try split)<;>simp<;>omega
  |no x ih=>have:=(w_no x).2;omega
  |both x y ihx ihy=>rw [w_both];have:=y.w_le;omega
  |one x y ihx ihy=>rw [w_one];omega
 have:=this t
 simp at h;omega
def Oks (part:List Tok->Option (Tr×List Tok)):Prop:=∀ ts t r,part ts=some (t,r)->t.ok=true
theorem pLoop_ok {part:List Tok->Option (Tr×List Tok)}(hp:Oks part)(w:Tok){mk:Tr->Tr->Tr}(hmk:∀ a b,a.ok=true->b.ok=true->(mk a b).ok=true):∀ (k:Nat) (a:Tr) (ts:List Tok) (t:Tr) (r:List Tok),a.ok=true->qW part w mk k a ts=some (t,r)->t.ok=true
 |0,a,ts,t,r,ha,h=>by simp only [qW,Option.some.injEq,Prod.mk.injEq] at h;rw [←h.1];exact ha
 |k+1,a,[],t,r,ha,h=>by simp only [qW,Option.some.injEq,Prod.mk.injEq] at h;rw [←h.1];exact ha
 |k+1,a,c::q,t,r,ha,h=>by
  rw [qW] at h
  split at h
  ·cases hq:part q with
   |none=>rw [hq] at h;cases h
   |some x=>
    obtain ⟨b,r'⟩:=x
    rw [hq] at h
    exact pLoop_ok hp w hmk k (mk a b) r' t r (hmk a b ha (hp _ _ _ hq)) h
  ·simp only [Option.some.injEq,Prod.mk.injEq] at h;rw [←h.1];exact ha
theorem n5 {part:List Tok->Option (Tr×List Tok)}(hp:Oks part)(w:Tok){mk:Tr->Tr->Tr}(hmk:∀ a b,a.ok=true->b.ok=true->(mk a b).ok=true):Oks (gI part w mk):=λts t r h=>by
 unfold gI at h
 cases hq:part ts with
 |none=>rw [hq] at h;cases h
 |some x=>
  obtain ⟨a,r'⟩:=x
  rw [hq] at h
  exact pLoop_ok hp w hmk _ _ _ _ _ (hp _ _ _ hq) h
theorem both_ok {a b:Tr}(ha:a.ok=true)(hb:b.ok=true):(Tr.both a b).ok=true:=by unfold Tr.ok;rw [ha,hb];rfl
theorem one_ok {a b:Tr}(ha:a.ok=true)(hb:b.ok=true):(Tr.one a b).ok=true:=by unfold Tr.ok;rw [ha,hb];rfl
theorem keyN_lt {c:Tok}{n:Nat}(h:keyN c=some n):n<3/\x1 n=c:=by
 unfold keyN at h
 split at h
 ·rename_i e;obtain rfl:=Option.some.inj h;exact ⟨by decide,e.symm⟩
 ·split at h
  ·rename_i e;obtain rfl:=Option.some.inj h;exact ⟨by decide,e.symm⟩
  ·split at h
   ·rename_i e;obtain rfl:=Option.some.inj h;exact ⟨by decide,e.symm⟩
   ·cases h
theorem atom_ok {k s v:Tok}{t:Tr}(h:bS k s v=some t):t.ok=true:=by
 unfold bS at h
 cases hk:keyN k with
 |none=>rw [hk] at h;cases h
 |some n=>
  rw [hk] at h
  have hn:=(keyN_lt hk).1
  simp only at h
  split at h
  ·rename_i hv
   have ho:(Tr.is n v).ok=true:=by unfold Tr.ok;rw [decide_eq_true hn,hv];rfl
   split at h
   ·obtain rfl:=Option.some.inj h;exact ho
   ·split at h
    ·obtain rfl:=Option.some.inj h;exact ho
    ·cases h
  ·cases h
theorem pFac_ok:∀ n,Oks (vG n)
 |0=>λts t r h=>by cases h
 |n+1=>λts t r h=>by
  have ih:=pFac_ok n
  cases ts with
  |nil=>cases h
  |cons c q=>
   rw [vG] at h
   split at h
   ·cases hq:vG n q with
    |none=>rw [hq] at h;cases h
    |some x=>
     obtain ⟨a,r'⟩:=x
     rw [hq] at h
     simp only [pNo,Option.some.injEq,Prod.mk.injEq] at h
     have ha:a.ok=true:=ih _ _ _ hq
     rw [←h.1];exact ha
   ·split at h
    ·cases hq:gI (gI (vG n) bV .both) tOr .one q with
     |none=>rw [hq] at h;cases h
     |some x=>
      obtain ⟨a,r'⟩:=x
      rw [hq] at h
      have h1:=n5 (n5 ih bV (λa b=>both_ok)) tOr (λa b=>one_ok) _ _ _ hq
      cases r' with
      |nil=>cases h
      |cons d r2=>
       rw [pF] at h
       split at h
       ·simp only [Option.some.injEq,Prod.mk.injEq] at h;rw [←h.1];exact h1
       ·cases h
    ·match q,h with
     |s::v::q,h=>
      rw [wR] at h
      cases ha:bS c s v with
      |none=>rw [ha] at h;cases h
      |some x=>rw [ha] at h;simp only [Option.some.injEq,Prod.mk.injEq] at h;rw [←h.1];exact atom_ok ha
     | [],h=>cases h
     | [s],h=>cases h
theorem pOr_ok (n:Nat):Oks (pOr n):=n5 (n5 (pFac_ok n) bV (λa b=>both_ok)) tOr (λa b=>one_ok)
theorem readM_ok {s:List UInt8}{t:Tr}(h:jK s=some t):t.ok=true/\t.fit=true:=by
 unfold jK at h
 split at h
 ·rename_i t' hq
  split at h
  ·rename_i hf;obtain rfl:=Option.some.inj h;exact ⟨pOr_ok _ _ _ _ hq,hf⟩
  ·cases h
 ·cases h
end
section
def nC (n:Nd):List Value:=[YI n.op,YI n.a,YI n.b,YI n.key,.string (mkS n.text)]
theorem bX (n:Nd):(nC n).length=5:=rfl
def zC (z:Int):List Value:=[YI z]
def SlN (v:Value)(l:List Nd)(ob:List Blk):Prop:=Sl 275 5 v l.length (l.flatMap nC) ob
def SlZ (v:Value)(l:List Int)(ob:List Blk):Prop:=Sl 3 1 v l.length (l.flatMap zC) ob
def ndV (n:Nd):Value:= .agg #[YI n.op,YI n.a,YI n.b,YI n.key,.string (mkS n.text)]
def pfV (e:Pf):Value:= .agg #[.string (mkS (e 0)),.string (mkS (e 1)),.string (mkS (e 2))]
theorem SlN.add {u:Value}{l:List Nd}{x:Nd}{ob:List Blk}(h:Sl 275 5 u (l.length+1) (l.flatMap nC++nC x) ob):SlN u (l++[x]) ob:=Sl.to h (by simp) (by simp)
theorem wd_mk (s:List UInt8):pX (mkS s)=wdL s:=by unfold pX wdL;rw [y0,mk_data]
structure PfS (e:Pf):Prop where
 h0:(e 0).length<=1000000
 h1:(e 1).length<=1000000
 h2:(e 2).length<=1000000
end
section
set_option linter.unnecessarySimpa false
theorem rd_key:∀ (k:Nat),k<3->yH Tryz.prog 9 #[.string ⟨#[111,115]⟩,.string ⟨#[97,114,99,104]⟩,.string ⟨#[97,98,105]⟩] (0+k*1)=some (.string (mkS (x1 k)))
 |0,_=>by kernel_rfl
 |1,_=>by kernel_rfl
 |2,_=>by kernel_rfl
def wrapB (c:Bool)(s:List UInt8):List UInt8:=if c then [40,32]++s++[32,41] else s
end
section
theorem kE (r:Int)(b:Bool)(hb:wW r=b)(w:World):
  YC 89 #[.int .i32 r] w λe w'=>e= .returned (.bool b)/\w=w':=by
 subst hb
 unfold wW
 go_enter Tryz.func89,Tryz.ntmps89
 go_wp2
 all_goals go_ret
 all_goals exact ⟨zI (by simp;try omega),rfl⟩
theorem name_any (s:ByteArray)(w:World)(hs:s.size<=maxLen):
  YC 52 #[.string s] w (YR (.bool (tH s)) w):=by
 unfold maxLen at hs
 by_cases h16:s.size<=16
 ·go_enter Tryz.func52,Tryz.ntmps52
  go_wp2
  go_loopw [3] (λv wr=>∃ (pos:Nat) (l:Int),wr=w.iter s pos/\pos<=s.size/\v= .int .i32 l/\Hid (kY (decide (pos=0)) l (s.data.toList.drop pos)=kY true 45 s.data.toList)) (λ_ wr=>s.size-wr.iterPos w.heap.size)
  case atStart=>exact ⟨0,45,rfl,Nat.zero_le _,rfl,rfl⟩
  case round=>
   obtain ⟨pos,l,rfl,hple,rfl,HR⟩:=hrel
   by_cases hp:pos<s.size
   ·have HD:=Lib.hid (kZ s pos hp)
    by_cases ha:(s[pos]'hp).toNat<128
    ·have hnx:∀ ty,(Instr.next (.pointer (some ⟨w.heap.size,0,none⟩)) true ty).run Tryz.prog (w.iter s pos)=_:=λty=>run_next_ascii w s pos ty hp ha
     by_cases hl:wW (s[pos]'hp).toNat=true
     ·have HL:=Lib.hid hl
      clear hl
      go_wp2_with (go_at_call 89;refine (kE _ true HL.out _).mono ?_;rintro e w' ⟨rfl,rfl⟩)
      go_roundw
      case rel=>exact ⟨pos+1,_,rfl,by omega,rfl,by rw [←HR.out,HD.out,nameGo_let _ _ _ _ HL.out];rfl⟩
      case measure=>simp;omega
     ·have HL:=Lib.hid (Bool.eq_false_iff.2 hl)
      clear hl
      by_cases hd:yP (s[pos]'hp).toNat=true
      ·have HG:=Lib.hid hd
       clear hd
       by_cases h0:pos=0
       ·subst h0
        go_wp2_with (first|(go_at_call 89;refine (kE _ false HL.out _).mono ?_;rintro e w' ⟨rfl,rfl⟩)|(go_at_call 90;refine (x4 _ true HG.out _).mono ?_;rintro e w' ⟨rfl,rfl⟩))
        go_ret
        exact ⟨zI (by unfold tH;rw [←HR.out,HD.out,nameGo_dig _ _ _ _ HL.out HG.out];simp),zS _ _ _⟩
       ·have hpi:((pos:Int)==0)=false:=by simp;omega
        go_wp2_with (first|(go_at_call 89;refine (kE _ false HL.out _).mono ?_;rintro e w' ⟨rfl,rfl⟩)|(go_at_call 90;refine (x4 _ true HG.out _).mono ?_;rintro e w' ⟨rfl,rfl⟩))
        go_roundw
        case rel=>exact ⟨pos+1,_,rfl,by omega,rfl,by rw [←HR.out,HD.out,nameGo_dig _ _ _ _ HL.out HG.out];simp [h0,Hid]⟩
        case measure=>simp;omega
      ·have HG:=Lib.hid (Bool.eq_false_iff.2 hd)
       clear hd
       by_cases h3:((s[pos]'hp).toNat:Int)=45
       ·have H3:=Lib.hid h3
        have h3b:(((s[pos]'hp).toNat:Int)==45)=true:=by simp [h3]
        clear h3
        by_cases h4:l=45
        ·have h4b:(l==45)=true:=by simp [h4]
         have H4:=Lib.hid h4
         clear h4
         go_wp2_with (first|(go_at_call 89;refine (kE _ false HL.out _).mono ?_;rintro e w' ⟨rfl,rfl⟩)|(go_at_call 90;refine (x4 _ false HG.out _).mono ?_;rintro e w' ⟨rfl,rfl⟩))
         go_ret
         exact ⟨zI (by unfold tH;rw [←HR.out,HD.out,nameGo_dash _ _ _ _ HL.out HG.out H3.out,if_pos H4.out];simp),zS _ _ _⟩
        ·have h4b:(l==45)=false:=by simp [h4]
         go_wp2_with (first|(go_at_call 89;refine (kE _ false HL.out _).mono ?_;rintro e w' ⟨rfl,rfl⟩)|(go_at_call 90;refine (x4 _ false HG.out _).mono ?_;rintro e w' ⟨rfl,rfl⟩))
         go_roundw
         case rel=>exact ⟨pos+1,_,rfl,by omega,rfl,by rw [←HR.out,HD.out,nameGo_dash _ _ _ _ HL.out HG.out H3.out,if_neg h4];rfl⟩
         case measure=>simp;omega
       ·have h3b:(((s[pos]'hp).toNat:Int)==45)=false:=by simpa using h3
        go_wp2_with (first|(go_at_call 89;refine (kE _ false HL.out _).mono ?_;rintro e w' ⟨rfl,rfl⟩)|(go_at_call 90;refine (x4 _ false HG.out _).mono ?_;rintro e w' ⟨rfl,rfl⟩))
        go_ret
        exact ⟨zI (by unfold tH;rw [←HR.out,HD.out,nameGo_else _ _ _ _ HL.out HG.out h3];simp),zS _ _ _⟩
    ·have hnx:∀ ty,(Instr.next (.pointer (some ⟨w.heap.size,0,none⟩)) true ty).run Tryz.prog (w.iter s pos)=_:=λty=>run_next_any w s pos ty hp
     have hhi:=(decode_high s pos hp Om).1
     have HL:=Lib.hid (letB_hi _ hhi)
     have HG:=Lib.hid (nI _ hhi)
     have h3b:(((Utf8.decode s pos).1:Int)==45)=false:=by simp;omega
     go_wp2_with (first|(go_at_call 89;refine (kE _ false HL.out _).mono ?_;rintro e w' ⟨rfl,rfl⟩)|(go_at_call 90;refine (x4 _ false HG.out _).mono ?_;rintro e w' ⟨rfl,rfl⟩))
     go_ret
     exact ⟨zI (by unfold tH;rw [←HR.out,HD.out,nameGo_hi _ _ _ _ Om];simp),zS _ _ _⟩
   ·have hnx:∀ ty,(Instr.next (.pointer (some ⟨w.heap.size,0,none⟩)) true ty).run Tryz.prog (w.iter s pos)=_:=λty=>run_next_end w s pos ty hp
    have HD:=Lib.hid (vS s pos hp)
    go_wp2
    go_ret
    exact ⟨zI (by unfold tH;rw [←HR.out,HD.out,kY];by_cases hq:l=45<;>simp [h16,hq]),zS _ _ _⟩
 ·go_enter Tryz.func52,Tryz.ntmps52
  go_wp2
  go_ret
  exact ⟨zI (by unfold tH;simp [h16]),Below.refl _ _⟩
theorem word_any (s:ByteArray)(w:World)(hs:s.size<=maxLen):
  YC 97 #[.string s] w (YR (.bool (pX s)) w):=by
 unfold maxLen at hs
 by_cases h0:s.size=0
 ·have H0:=Lib.hid h0
  have hz:((s.size:Int)==0)=true:=by simp [h0]
  clear h0
  go_enter Tryz.func97,Tryz.ntmps97
  go_wp2
  go_ret
  exact ⟨zI (by unfold pX;simp [H0.out]),Below.refl _ _⟩
 ·have hz:((s.size:Int)==0)=false:=v6 Om
  by_cases h12:s.size<=12
  ·go_enter Tryz.func97,Tryz.ntmps97
   go_wp2
   go_loopw [] (λwr=>∃ (pos:Nat),wr=w.iter s pos/\pos<=s.size/\Hid (vY (s.data.toList.drop pos)=vY s.data.toList)) (λwr=>s.size-wr.iterPos w.heap.size)
   case atStart=>exact ⟨0,rfl,Nat.zero_le _,rfl⟩
   case round=>
    obtain ⟨pos,rfl,hple,HR⟩:=hrel
    by_cases hp:pos<s.size
    ·have HD:=Lib.hid (kZ s pos hp)
     by_cases ha:(s[pos]'hp).toNat<128
     ·have hnx:∀ ty,(Instr.next (.pointer (some ⟨w.heap.size,0,none⟩)) true ty).run Tryz.prog (w.iter s pos)=_:=λty=>run_next_ascii w s pos ty hp ha
      by_cases hl:wW (s[pos]'hp).toNat=true
      ·have HL:=Lib.hid hl
       clear hl
       go_wp2_with (go_at_call 89;refine (kE _ true HL.out _).mono ?_;rintro e w' ⟨rfl,rfl⟩)
       go_roundw
       case rel=>exact ⟨pos+1,rfl,by omega,by rw [←HR.out,HD.out,mM _ _ (by unfold wdB;rw [HL.out];rfl)];rfl⟩
       case measure=>simp;omega
      ·have HL:=Lib.hid (Bool.eq_false_iff.2 hl)
       clear hl
       by_cases hd:yP (s[pos]'hp).toNat=true
       ·have HG:=Lib.hid hd
        clear hd
        go_wp2_with (first|(go_at_call 89;refine (kE _ false HL.out _).mono ?_;rintro e w' ⟨rfl,rfl⟩)|(go_at_call 90;refine (x4 _ true HG.out _).mono ?_;rintro e w' ⟨rfl,rfl⟩))
        go_roundw
        case rel=>exact ⟨pos+1,rfl,by omega,by rw [←HR.out,HD.out,mM _ _ (by unfold wdB;rw [HL.out,HG.out];rfl)];rfl⟩
        case measure=>simp;omega
       ·have HG:=Lib.hid (Bool.eq_false_iff.2 hd)
        clear hd
        by_cases h3:((s[pos]'hp).toNat:Int)=95
        ·have H3:=Lib.hid h3
         have h3b:(((s[pos]'hp).toNat:Int) !=95)=false:=by simp [h3]
         clear h3
         go_wp2_with (first|(go_at_call 89;refine (kE _ false HL.out _).mono ?_;rintro e w' ⟨rfl,rfl⟩)|(go_at_call 90;refine (x4 _ false HG.out _).mono ?_;rintro e w' ⟨rfl,rfl⟩))
         go_roundw
         case rel=>exact ⟨pos+1,rfl,by omega,by rw [←HR.out,HD.out,mM _ _ (by unfold wdB;rw [HL.out,HG.out,H3.out];rfl)];rfl⟩
         case measure=>simp;omega
        ·have h3b:(((s[pos]'hp).toNat:Int) !=95)=true:=by simpa using h3
         go_wp2_with (first|(go_at_call 89;refine (kE _ false HL.out _).mono ?_;rintro e w' ⟨rfl,rfl⟩)|(go_at_call 90;refine (x4 _ false HG.out _).mono ?_;rintro e w' ⟨rfl,rfl⟩))
         go_ret
         exact ⟨zI (by unfold pX;rw [←HR.out,HD.out,wordGo_bad _ _ (by unfold wdB;rw [HL.out,HG.out];simpa using h3)];simp),zS _ _ _⟩
     ·have hnx:∀ ty,(Instr.next (.pointer (some ⟨w.heap.size,0,none⟩)) true ty).run Tryz.prog (w.iter s pos)=_:=λty=>run_next_any w s pos ty hp
      have hhi:=(decode_high s pos hp Om).1
      have HL:=Lib.hid (letB_hi _ hhi)
      have HG:=Lib.hid (nI _ hhi)
      have h3b:(((Utf8.decode s pos).1:Int) !=95)=true:=by simp;omega
      go_wp2_with (first|(go_at_call 89;refine (kE _ false HL.out _).mono ?_;rintro e w' ⟨rfl,rfl⟩)|(go_at_call 90;refine (x4 _ false HG.out _).mono ?_;rintro e w' ⟨rfl,rfl⟩))
      go_ret
      exact ⟨zI (by unfold pX;rw [←HR.out,HD.out,wordGo_bad _ _ (by unfold wdB;rw [letB_hi8 _ Om,mI _ Om];simp;omega)];simp),zS _ _ _⟩
    ·have hnx:∀ ty,(Instr.next (.pointer (some ⟨w.heap.size,0,none⟩)) true ty).run Tryz.prog (w.iter s pos)=_:=λty=>run_next_end w s pos ty hp
     have HD:=Lib.hid (vS s pos hp)
     go_wp2
     go_ret
     exact ⟨zI (by unfold pX;rw [←HR.out,HD.out,vY];simp;omega),zS _ _ _⟩
  ·go_enter Tryz.func97,Tryz.ntmps97
   go_wp2
   go_ret
   exact ⟨zI (by unfold pX;simp [h12]),Below.refl _ _⟩
end
section
end
section
end
section
set_option linter.unnecessarySimpa false
end
section
set_option linter.unnecessarySimpa false
theorem rise_iff:∀ {l:List (List UInt8)},xY l=true↔∀ i (h:i+1<l.length),Op.bytesLess (l[i]'Om) l[i+1]=true
 | []=>⟨λ_ i h=>by simp at h,λ_=>rfl⟩
 | [a]=>⟨λ_ i h=>by simp at h,λ_=>rfl⟩
 |a::b::r=>by
  rw [xY,Bool.and_eq_true,rise_iff (l:=b::r)]
  constructor
  ·rintro ⟨h1,h2⟩ i h
   cases i with
   |zero=>exact h1
   |succ i=>exact h2 i (by simpa using h)
  ·intro h
   exact ⟨h 0 (by simp),λi hi=>h (i+1) (by simpa using hi)⟩
theorem kI {α:Type}{p:α->Prop}{l:List α}{i:Nat}(hi:i<l.length)(h:∀ x∈l.take i,p x)(hp:p l[i]):∀ y∈l.take (i+1),p y:=λy hy=>by
 rw [List.take_succ_eq_append_getElem hi] at hy
 rcases List.mem_append.1 hy with hy|hy
 ·exact h y hy
 ·rw [List.mem_singleton.1 hy];exact hp
theorem qR {α:Type}{p:α->Prop}{l:List α}{i:Nat}(hi:l.length<=i)(h:∀ x∈l.take i,p x):∀ y∈l,p y:=by rwa [List.take_of_length_le hi] at h
theorem items_not {l:List Ft}{of:List (List UInt8)}(h:¬ of.length<=6\/xY of=false∨∃ s∈of,jW l s=false):gV l of=false:=by
 unfold gV
 rcases h with h|h|⟨s,hs,h⟩
 ·rw [decide_eq_false h];rfl
 ·rw [h];simp
 ·rw [show of.all (jW l)=false from by rw [List.all_eq_false];exact ⟨s,hs,by rw [h];simp⟩];simp
theorem items_yes {l:List Ft}{of:List (List UInt8)}(h:of.length<=6)(h2:xY of=true)(h3:∀ s∈of,jW l s=true):gV l of=true:=by
 unfold gV
 rw [decide_eq_true h,h2,List.all_eq_true.2 h3];rfl
theorem n8 {l:List Ft}(h:¬ l.length<=8\/(∃ f∈l,wdL f.name=false)\/xY (l.map Ft.name)=false∨∃ f∈l,gV l f.of=false):bZ l=false:=by
 unfold bZ
 rcases h with h|⟨f,hf,h⟩|h|⟨f,hf,h⟩
 ·rw [decide_eq_false h];rfl
 ·rw [show l.all (λf=>wdL f.name)=false from by rw [List.all_eq_false];exact ⟨f,hf,by rw [h];simp⟩];simp
 ·rw [h];simp
 ·rw [show l.all (λf=>gV l f.of)=false from by rw [List.all_eq_false];exact ⟨f,hf,by rw [h];simp⟩];simp
theorem may_yes {l:List Ft}(h:l.length<=8)(h2:∀ f∈l,wdL f.name=true)(h3:xY (l.map Ft.name)=true)(h4:∀ f∈l,gV l f.of=true):bZ l=true:=by
 unfold bZ
 rw [decide_eq_true h,List.all_eq_true.2 h2,h3,List.all_eq_true.2 h4];rfl
theorem ft_mem {xs:List Fv}{x:Fv}(h:x∈xs):x.ft∈x2 xs:=List.mem_map.2 ⟨x,h,rfl⟩
theorem ft_rise {xs:List Fv}:xY ((x2 xs).map Ft.name)=true↔∀ i (h:i+1<xs.length),Op.bytesLess (xs[i]'Om).name xs[i+1].name=true:=by
 rw [rise_iff]
 constructor
 ·intro h i hi
  have:=h i (by rw [List.length_map,dH];exact hi)
  simpa [x2,Fv.ft] using this
 ·intro h i hi
  rw [List.length_map,dH] at hi
  simpa [x2,Fv.ft] using h i hi
end
section
set_option linter.unnecessarySimpa false
structure UpTo (xs:List Fv)(i:Nat):Prop where
 le:i<=xs.length
 wd:∀ x∈xs.take i,wdL x.name=true
 up:∀ z (hz:z+1<xs.length),z+1<i->Op.bytesLess (xs[z]'Om).name xs[z+1].name=true
 it:∀ x∈xs.take i,gV (x2 xs) x.of=true
theorem UpTo.zero (xs:List Fv):UpTo xs 0:=⟨Nat.zero_le _,λx hx=>by simp at hx,λz hz h=>by omega,λx hx=>by simp at hx⟩
theorem UpTo.next {xs:List Fv}{i:Nat}(h:UpTo xs i)(hi:i<xs.length)(h1:wdL xs[i].name=true)(h2:∀ h0:0<i,Op.bytesLess (xs[i-1]'Om).name xs[i].name=true)(h3:gV (x2 xs) xs[i].of=true):UpTo xs (i+1):=by
 refine ⟨hi,kI hi h.wd h1,λz hz hzi=> ?_,kI hi h.it h3⟩
 rcases Nat.lt_succ_iff_lt_or_eq.1 hzi with q|q
 ·exact h.up z hz q
 ·subst q;exact h2 Om
theorem UpTo.may {xs:List Fv}{i:Nat}(h:UpTo xs i)(hi:xs.length<=i)(h8:xs.length<=8):bZ (x2 xs)=true:=by
 refine may_yes (by rw [dH];exact h8) (λf hf=> ?_) (ft_rise.2 λz hz=>h.up z hz (by omega)) λf hf=> ?_
 ·obtain ⟨x,hx,rfl⟩:=List.mem_map.1 hf;exact qR hi h.wd x hx
 ·obtain ⟨x,hx,rfl⟩:=List.mem_map.1 hf;exact qR hi h.it x hx
theorem may_no1 {xs:List Fv}{x:Fv}(hx:x∈xs)(h:wdL x.name=false):bZ (x2 xs)=false:=n8 (.inr (.inl ⟨x.ft,ft_mem hx,h⟩))
theorem may_no2 {xs:List Fv}{z:Nat}(hz:z+1<xs.length)(h:Op.bytesLess (xs[z]'Om).name xs[z+1].name=false):bZ (x2 xs)=false:=n8 (.inr (.inr (.inl (by
 cases hq:xY ((x2 xs).map Ft.name) with
 |false=>rfl
 |true=>have q:=ft_rise.1 hq z hz;rw [h] at q;cases q))))
theorem may_no3 {xs:List Fv}{x:Fv}(hx:x∈xs)(h:gV (x2 xs) x.of=false):bZ (x2 xs)=false:=n8 (.inr (.inr (.inr ⟨x.ft,ft_mem hx,h⟩)))
end
section
set_option linter.unnecessarySimpa false
theorem put_new {l:List (List UInt8)}{s:List UInt8}{k:Nat}(hk:k<=l.length)(h:∀ x∈l.take k,Op.bytesLess x s=true)(h2:∀ hk:k<l.length,Op.bytesLess l[k] s=false∧¬ l[k]=s):y8 l s=l.take k++[s]++l.drop k:=by
 rw [put_at k h,List.append_assoc]
 congr 1
 by_cases hl:k<l.length
 ·rw [List.drop_eq_getElem_cons hl,y8,if_neg (by rw [(h2 hl).1];simp),if_neg (h2 hl).2];rfl
 ·rw [List.drop_of_length_le Om];rfl
theorem put_old {l:List (List UInt8)}{s:List UInt8}{k:Nat}(hk:k<l.length)(h:∀ x∈l.take k,Op.bytesLess x s=true)(h2:Op.bytesLess l[k] s=false)(h3:l[k]=s):y8 l s=l:=by
 rw [put_at k h,List.drop_eq_getElem_cons hk,y8,if_neg (by rw [h2];simp),if_pos h3,←List.drop_eq_getElem_cons hk,List.take_append_drop]
structure RdP (w:World)(v:Value)(l:List (List UInt8)):Prop where
 ex:∃ A cap,v= .slice A l.length cap/\Reads zW w w.heap.size A l/\l.length<=cap/\(l=[]->A=none/\cap=0)
end
section
section
variable {M:List Nat}{P:Program}{n:Nat}{ops:Array Oper}{W:World}{L0:List Blk}{Q:Exit->Act->World->Prop}{fuel:Nat}{listed:Array Bool}{f:Nat->Value}
theorem hl_appendR {α:Type}{g:α->List Value}{i0:Nat}{E ob R:List Blk}(oi:Oper){t T:TypeId}{s x:Operand}{i:TypeInfo}{z:Value}{sz:Nat}(hg:∀ y,(g y).length=sz)(hi0:ops[i0]?=some oi)(hw:zM ops n f oi=true)(ho:oi.op= .call {callee:= .builtin .append,args:= #[s,x],argTypes:= #[t,t]})
  (ht:P.underlying t=some (.slice T)) (hi:P.info? T=some i) (hz:i.zero=some z) (hsz:i.size=sz) (hzs:z.cells.size=sz)
  {v:Value} {m0:Nat} {xs:List Value} (hs:ev n f s=v) (hv:Sl T sz v m0 xs ob) {A:Option Addr} {c:Nat} {l:List α} (hx:ev n f x= .slice A l.length c)
  (hR:∀ w,Own M W w (E++ob++R)->Reads g w w.heap.size A l) (h1:∀ y,∀ u∈g y,u.oneCell'=true)
  (h63:m0+l.length<=maxLen) (hbytes:(m0+l.length)*i.bytes<=140737488355328) (hsub:∀ ob' w,Own M W w (E++ob'++R)->Own M W w L0)
  (h:∀ v' ob',Sl T sz v' (m0+l.length) (xs++l.flatMap g) ob'->wI M P n ops W L0 Q fuel (listed.setIfInBounds i0 true) (E++ob'++R) (upd f oi.dst v')):bD M P n ops W L0 Q fuel listed i0 (E++ob++R) f:=
 fJ hi0 hw λw hO=>by
  have hone:∀ u∈l.flatMap g,u.oneCell'=true:=λu hu=>by
   obtain ⟨y,_,hy⟩:=List.mem_flatMap.1 hu
   exact h1 y u hy
  cases A with
  |none=>
   have h0:l=[]:=by
    cases l with
    |nil=>rfl
    |cons y l=>obtain ⟨b,off,e,_⟩:=hR w hO (by simp);cases e
   subst h0
   have hv':Sl T sz v (m0+([]:List α).length) (xs++([]:List α).flatMap g) ob:=by simpa using hv
   refine kN v (w':=w) ?_ ⟨hsub ob w hO,(h v ob hv').go w hO⟩
   have hx':ev n f x= .slice none 0 c:=hx
   unfold execOp
   simp only [ho,resolve,invoke,builtin,Sem.run_bind,Sem.run_pure,Result.andThen_ok,List.map_toArray,List.map_cons,List.map_nil,hs,hx',fT ht hi hv c]
  |some a=>
   have hnews:∀ j u,(l.flatMap g)[j]?=some u->w.cell? (a.add j)=some u:=λj u hj=>by
    have h0:0<l.length:=by
     cases l with
     |nil=>simp at hj
     |cons y l=>simp
    obtain ⟨b,off,e,_,hc⟩:=hR w hO h0
    obtain rfl:=Option.some.inj e
    rw [yE]
    exact hc j u hj
   obtain ⟨v',w',ob',hr,h2,h3⟩:=fE (P:=P) (ty:=oi.type) (c:=c) ht hi hz hsz hzs hv hO (mG hg l) hnews hone h63 hbytes
   refine kN v' (w':=w') ?_ ⟨hsub ob' w' h3,(h v' ob' h2).go w' h3⟩
   unfold execOp
   simp only [ho,resolve,invoke,builtin,Sem.run_bind,Sem.run_pure,Result.andThen_ok,List.map_toArray,List.map_cons,List.map_nil,hs,hx,hr]
end
section
variable {M:List Nat}{P:Program}{n:Nat}{W:World}{Q:Exit->Act->World->Prop}{c:Xc}
theorem v7 {α:Type}{g:α->List Value}{T:TypeId}{sz k cp:Nat}{v:Value}{xs:List Value}{A:Option Addr}(l:List α)(E ob R:List Blk)(L1 L0:List Blk)(hs:∀ w,Own M W w L1->Own M W w (E++ob++R))(hsub:∀ ob' w,Own M W w (E++ob'++R)->Own M W w L0)
  (hgl:∀ y,(g y).length=sz) (h1:∀ y,∀ u∈g y,u.oneCell'=true) (hR:∀ w,Own M W w (E++ob++R)->Reads g w w.heap.size A l) (hv:Sl T sz v k xs ob) (hN:k+l.length<=1000000)
  (hg:∀ v' ob',Sl T sz v' (k+l.length) (xs++l.flatMap g) ob'->zA M P n W Q (aNext c (E++ob'++R) v'))
  (hkt:(c.L,hL c,c.top,(xA c)[hI c]?,zM (xA c) n c.f (xO c),(xO c).op,ev n c.f (aX (xO c) 0),ev n c.f (aX (xO c) 1),P.underlying (aT (xO c)),aInfo P T)
   =(L1,L0,.hst (xA c) (hS c) (hU c) (hL c) (hI c),some (xO c),true,aOp (xO c),v,.slice A l.length cp,some (.slice T),some (true,sz,some sz)):=by kernel_rfl):zA M P n W Q c:=by
 simp only [Prod.mk.injEq] at hkt
 obtain ⟨f1,f2,e1,e2,e3,e4,e5,e6,e8,e9⟩:=hkt
 rw [←f1] at hs
 rw [←f2] at hsub
 have:c=⟨.hst (xA c) (hS c) (hU c) (hL c) (hI c),c.k,c.L,c.f⟩:=by rw [←e1]
 rw [this]
 obtain ⟨i,z,hi,hz,hsz,hzs,hby⟩:=bB e9
 refine ⟨λhq hs0=>tN hs (hl_appendR (E:=E) (ob:=ob) (R:=R) (xO c) hgl e2 e3 e4 e8 hi hz hsz hzs e5 hv e6 hR h1 ?_ ?_ hsub λv' ob' h=>(hg v' ob' h).go hq (hsub ob'))⟩
 ·unfold maxLen;omega
 ·have:=Nat.mul_le_mul hN hby;omega
theorem sl_block {T:TypeId}{b N sz:Nat}{cs:Array Value}(h:cs.size=N*sz)(hN:N<=maxLen):Sl T sz (.slice (some ⟨b,0,none⟩) N N) N cs.toList [⟨b,cs,T⟩]:=
 ⟨by rw [Array.length_toList];exact h,.inr ⟨b,N,cs,rfl,rfl,Nat.le_refl _,hN,h,by rw [List.take_of_length_le (by rw [Array.length_toList,h];exact Nat.le_refl _)]⟩⟩
end
end
section
def xIns (ρ:Operand->Value)(o:Oper):Option (Sem Value):=match o.op with
 | .makeMap t none=>some (Instr.makeMap t none)
 | .lookup t m x c=>some (Instr.lookup t (ρ m) (ρ x) c)
 | .range t x=>some (Instr.range t (ρ x))
 | .next it s=>some (Instr.next (ρ it) s o.type)
 | .entry it=>some (Instr.entry (ρ it))
 |_=>none
def xUpd (ρ:Operand->Value)(o:Oper):Option (Sem Unit):=match o.op with
 | .mapUpdate t m k x=>some (Instr.mapUpdate t (ρ m) (ρ k) (ρ x))
 |_=>none
section
variable {M:List Nat}{P:Program}{n:Nat}{W:World}{Q:Exit->Act->World->Prop}{c:Xc}
theorem pU (fu:Fuel1)(m:Nat)(h:List Nat)(hg:zA M P n W Q ⟨.hps ((xDr (vT P n nS fu h c)).toList.take m).toArray (Array.replicate m false) m (vT P n nS fu h c).L,.tl (xDr (vT P n nS fu h c)) ((xDr (vT P n nS fu h c)).toList.drop m)::(vT P n nS fu h c).k,(vT P n nS fu h c).L,(vT P n nS fu h c).f⟩)
  (hkt:(xl P n nS fu h c,(vT P n nS fu h c).top,P.follows .mixedOrders,preB .any (xDr (vT P n nS fu h c)).toList m)=(xr P n nS (fuel12 fu) h c,.code (.region (xId (vT P n nS fu h c)) (xDr (vT P n nS fu h c)) true),true,true):=by kernel_rfl):zA M P n W Q c:=by
 simp only [Prod.mk.injEq] at hkt
 obtain ⟨hk,e1,e2,e3⟩:=hkt
 refine xrun_ok fu h c hk ?_
 generalize vT P n nS fu h c=d at hg e1 e3 ⊢
 generalize xDr d=a at hg e1 e3
 obtain ⟨l,rfl⟩:∃ l:List Oper,a=l.toArray:=⟨a.toList,by simp⟩
 have:d=⟨.code (.region (xId d) l.toArray true),d.k,d.L,d.f⟩:=by rw [←e1]
 rw [this]
 have hg':zA M P n W Q ⟨.hps (l.take m).toArray (Array.replicate m false) m d.L,.tl l.toArray (l.drop m)::d.k,d.L,d.f⟩:=by simpa using hg
 exact ⟨λhq=>tG m d.L e2 (by simpa using e3) (hg'.go hq λ_ h=>h)⟩
end
end
section
section
variable {M:List Nat}{P:Program}{n:Nat}{W:World}{Q:Exit->Act->World->Prop}{c:Xc}
theorem x_callO {k:FuncId}{args:Array Value}{Rr:Value->List Blk->Prop}(h:List Nat)(L1:List Blk)(hc:∀ w,Own M W w L1->Calls P k args w λe w'=>∃ v L',e= .returned v/\Rr v L'/\Own M W w' L')
  (hg:∀ v L',Rr v L'->zA M P n W Q ⟨.ops (xA (xgo P n nS h c)) (xT (xgo P n nS h c)),(xgo P n nS h c).k,L',upd (xgo P n nS h c).f (xO (xgo P n nS h c)).dst v⟩)
  (hkt:(xgl P n nS h c,(xgo P n nS h c).L,(xgo P n nS h c).top,zM (xA (xgo P n nS h c)) n (xgo P n nS h c).f (xO (xgo P n nS h c)),nK P n (xgo P n nS h c))=(xgr P n nS h c,L1,.ops (xA (xgo P n nS h c)) (xO (xgo P n nS h c)::xT (xgo P n nS h c)),true,λw=> .ok (.enter k args) w):=by kernel_rfl):zA M P n W Q c:=by
 simp only [Prod.mk.injEq] at hkt
 obtain ⟨hk,f1,e1,e3,e4⟩:=hkt
 refine zJ h c hk ?_
 generalize xgo P n nS h c=d at*
 have e5:∀ w,(execOp (ev n d.f) (xO d)).run P w= .ok (.enter k args) w:=λw=>by
  have h1:=congrFun e4 w
  unfold nK at h1
  rw [e1] at h1
  dsimp only at h1
  rw [e3] at h1
  exact h1
 have:d=⟨.ops (xA d) (xO d::xT d),d.k,d.L,d.f⟩:=by rw [←e1]
 rw [this]
 rw [←f1] at hc
 exact ⟨λhq=>s_callo Rr e3 e5 hc λv L' k2=>(hg v L' k2).go hq⟩
theorem yW {k:FuncId}{args:Array Value}{Rr:Value->List Blk->Prop}(h:List Nat)(L1 R ob:List Blk)(hs:∀ w,Own M W w L1->Own M W w (R++ob))(hc:∀ w,Own M W w (R++ob)->Calls P k args w λe w'=>∃ v ob',e= .returned v/\Rr v ob'/\Own (ob.map Blk.b) w w' ob')
  (hg:∀ v ob',Rr v ob'->zA M P n W Q ⟨.ops (xA (xgo P n nS h c)) (xT (xgo P n nS h c)),(xgo P n nS h c).k,R++ob',upd (xgo P n nS h c).f (xO (xgo P n nS h c)).dst v⟩)
  (hkt:(xgl P n nS h c,(xgo P n nS h c).L,(xgo P n nS h c).top,zM (xA (xgo P n nS h c)) n (xgo P n nS h c).f (xO (xgo P n nS h c)),nK P n (xgo P n nS h c))=(xgr P n nS h c,L1,.ops (xA (xgo P n nS h c)) (xO (xgo P n nS h c)::xT (xgo P n nS h c)),true,λw=> .ok (.enter k args) w):=by kernel_rfl):zA M P n W Q c:=by
 simp only [Prod.mk.injEq] at hkt
 obtain ⟨hk,f1,e1,e3,e4⟩:=hkt
 refine zJ h c hk ?_
 generalize xgo P n nS h c=d at*
 have e5:∀ w,(execOp (ev n d.f) (xO d)).run P w= .ok (.enter k args) w:=λw=>by
  have h1:=congrFun e4 w
  unfold nK at h1
  rw [e1] at h1
  dsimp only at h1
  rw [e3] at h1
  exact h1
 have:d=⟨.ops (xA d) (xO d::xT d),d.k,d.L,d.f⟩:=by rw [←e1]
 rw [this]
 rw [←f1] at hs
 refine ⟨λhq=>vZ hs (s_callo (λv L'=>∃ ob',Rr v ob'/\L'=R++ob') e3 e5 (λw hO=>(hc w hO).mono λe w' ⟨v,ob',k1,k2,k3⟩=>⟨v,_,k1,⟨ob',k2,rfl⟩,(Own.back (hO.perm List.perm_append_comm) k3).perm List.perm_append_comm⟩) λv L' ⟨ob',k2,k3⟩=> ?_)⟩
 subst k3
 exact (hg v ob' k2).go hq
theorem xh_callL {k:FuncId}{args:Array Value}{Rr:Value->List Blk->Prop}(L1 R ob L0:List Blk)(hs:∀ w,Own M W w L1->Own M W w (R++ob))(hsub:∀ ob' w,Own M W w (R++ob')->Own M W w L0)(hc:∀ w,Own M W w (R++ob)->Calls P k args w λe w'=>∃ v ob',e= .returned v/\Rr v ob'/\Own (ob.map Blk.b) w w' ob')
  (hg:∀ v ob',Rr v ob'->zA M P n W Q (aNext c (R++ob') v))
  (hkt:(c.L,hL c,c.top,(xA c)[hI c]?,zM (xA c) n c.f (xO c),λw=>(execOp (ev n c.f) (xO c)).run P w)=(L1,L0,.hst (xA c) (hS c) (hU c) (hL c) (hI c),some (xO c),true,λw=> .ok (.enter k args) w):=by kernel_rfl):zA M P n W Q c:=by
 simp only [Prod.mk.injEq] at hkt
 obtain ⟨f1,f2,e1,e2,e3,e4⟩:=hkt
 rw [←f1] at hs
 rw [←f2] at hsub
 have:c=⟨.hst (xA c) (hS c) (hU c) (hL c) (hI c),c.k,c.L,c.f⟩:=by rw [←e1]
 rw [this]
 refine ⟨λhq hs0=>tN hs (hl_callx (xO c) (λv L'=>∃ ob',Rr v ob'/\L'=R++ob') e2 e3 (λw=>congrFun e4 w) (λw hO=>(hc w hO).mono λe w' ⟨v,ob',k1,k2,k3⟩=>⟨v,_,k1,⟨ob',k2,rfl⟩,(Own.back (hO.perm List.perm_append_comm) k3).perm List.perm_append_comm⟩) (λv L' ⟨ob',_,k3⟩ w hO=>hsub ob' w (k3▸hO)) λv L' ⟨ob',k2,k3⟩=> ?_)⟩
 subst k3
 exact (hg v ob' k2).go hq (hsub ob')
theorem x_drawLF (fu:Fuel1)(m:Nat)(h:List Nat)(L0:List Blk)(hs:∀ w,Own M W w (vT P n nS fu h c).L->Own M W w L0)(hg:zA M P n W Q ⟨.hps ((xDr (vT P n nS fu h c)).toList.take m).toArray (Array.replicate m false) m L0,.tl (xDr (vT P n nS fu h c)) ((xDr (vT P n nS fu h c)).toList.drop m)::(vT P n nS fu h c).k,(vT P n nS fu h c).L,(vT P n nS fu h c).f⟩)
  (hkt:(xl P n nS fu h c,(vT P n nS fu h c).top,P.follows .mixedOrders,preB .any (xDr (vT P n nS fu h c)).toList m)=(xr P n nS (fuel12 fu) h c,.code (.region (xId (vT P n nS fu h c)) (xDr (vT P n nS fu h c)) true),true,true):=by kernel_rfl):zA M P n W Q c:=by
 simp only [Prod.mk.injEq] at hkt
 obtain ⟨hk,e1,e2,e3⟩:=hkt
 refine xrun_ok fu h c hk ?_
 generalize vT P n nS fu h c=d at hg hs e1 e3 ⊢
 generalize xDr d=a at hg e1 e3
 obtain ⟨l,rfl⟩:∃ l:List Oper,a=l.toArray:=⟨a.toList,by simp⟩
 have:d=⟨.code (.region (xId d) l.toArray true),d.k,d.L,d.f⟩:=by rw [←e1]
 rw [this]
 have hg':zA M P n W Q ⟨.hps (l.take m).toArray (Array.replicate m false) m L0,.tl l.toArray (l.drop m)::d.k,d.L,d.f⟩:=by simpa using hg
 exact ⟨λhq=>tG m L0 e2 (by simpa using e3) (hg'.go hq hs)⟩
theorem x_appR {α:Type}{g:α->List Value}{T:TypeId}{sz k cp:Nat}{v:Value}{xs:List Value}{A:Option Addr}(h:List Nat)(l:List α)(E ob R:List Blk)(L1:List Blk)(hs:∀ w,Own M W w L1->Own M W w (E++ob++R))
  (hgl:∀ y,(g y).length=sz) (h1:∀ y,∀ u∈g y,u.oneCell'=true) (hR:∀ w,Own M W w (E++ob++R)->Reads g w w.heap.size A l) (hv:Sl T sz v k xs ob) (hN:k+l.length<=1000000)
  (hg:∀ v' ob',Sl T sz v' (k+l.length) (xs++l.flatMap g) ob'->zA M P n W Q ⟨.ops (xA (xgo P n nS h c)) (xT (xgo P n nS h c)),(xgo P n nS h c).k,E++ob'++R,upd (xgo P n nS h c).f (xO (xgo P n nS h c)).dst v'⟩)
  (hkt:(xgl P n nS h c,(xgo P n nS h c).L,(xgo P n nS h c).top,zM (xA (xgo P n nS h c)) n (xgo P n nS h c).f (xO (xgo P n nS h c)),(xO (xgo P n nS h c)).op,ev n (xgo P n nS h c).f (aX (xO (xgo P n nS h c)) 0),ev n (xgo P n nS h c).f (aX (xO (xgo P n nS h c)) 1),P.underlying (aT (xO (xgo P n nS h c))),aInfo P T)
   =(xgr P n nS h c,L1,.ops (xA (xgo P n nS h c)) (xO (xgo P n nS h c)::xT (xgo P n nS h c)),true,aOp (xO (xgo P n nS h c)),v,.slice A l.length cp,some (.slice T),some (true,sz,some sz)):=by kernel_rfl):zA M P n W Q c:=by
 simp only [Prod.mk.injEq] at hkt
 obtain ⟨hk,f1,e1,e3,e4,e5,e6,e8,e9⟩:=hkt
 refine zJ h c hk ?_
 generalize xgo P n nS h c=d at*
 rw [←f1] at hs
 have:d=⟨.ops (xA d) (xO d::xT d),d.k,d.L,d.f⟩:=by rw [←e1]
 rw [this]
 obtain ⟨i,z,hi,hz,hsz,hzs,hby⟩:=bB e9
 have h63:k+l.length<=maxLen:=by unfold maxLen;omega
 have hbytes:(k+l.length)*i.bytes<=140737488355328:=by have:=Nat.mul_le_mul hN hby;omega
 have hone:∀ u∈l.flatMap g,u.oneCell'=true:=λu hu=>by
  obtain ⟨y,_,hy⟩:=List.mem_flatMap.1 hu
  exact h1 y u hy
 refine ⟨λhq=>vZ hs (gT e3 λw hO=> ?_)⟩
 cases A with
 |none=>
  have h0:l=[]:=by
   cases l with
   |nil=>rfl
   |cons y l=>obtain ⟨b,off,e,_⟩:=hR w hO (by simp);cases e
  subst h0
  have hv':Sl T sz v (k+([]:List α).length) (xs++([]:List α).flatMap g) ob:=by simpa using hv
  refine kN v (w':=w) ?_ (((hg v ob hv').go hq).go w hO)
  have hx':ev n d.f (aX (xO d) 1)= .slice none 0 cp:=e6
  unfold execOp
  rw [e4]
  simp only [aOp,resolve,invoke,builtin,Sem.run_bind,Sem.run_pure,Result.andThen_ok,List.map_toArray,List.map_cons,List.map_nil,e5,hx',fT e8 hi hv cp]
 |some a=>
  have hnews:∀ j u,(l.flatMap g)[j]?=some u->w.cell? (a.add j)=some u:=λj u hj=>by
   have h0:0<l.length:=by
    cases l with
    |nil=>simp at hj
    |cons y l=>simp
   obtain ⟨b,off,e,_,hc⟩:=hR w hO h0
   obtain rfl:=Option.some.inj e
   rw [yE]
   exact hc j u hj
  obtain ⟨v',w',ob',hr,h2,h3⟩:=fE (P:=P) (ty:=(xO d).type) (c:=cp) e8 hi hz hsz hzs hv hO (mG hgl l) hnews hone h63 hbytes
  refine kN v' (w':=w') ?_ (((hg v' ob' h2).go hq).go w' h3)
  unfold execOp
  rw [e4]
  simp only [aOp,resolve,invoke,builtin,Sem.run_bind,Sem.run_pure,Result.andThen_ok,List.map_toArray,List.map_cons,List.map_nil,e5,e6,hr]
end
end
section
def sT (o:Oper):TypeId:=match o.op with
 | .store T _ _=>T
 |_=>0
def sP (o:Oper):Operand:=match o.op with
 | .store _ p _=>p
 |_=> .tmp 0
def sQ (o:Oper):Operand:=match o.op with
 | .store _ _ q=>q
 |_=> .tmp 0
def sDn (o:Oper):Bool:=o.dst.isNone
theorem sDn_is {o:Oper}(h:sDn o=true):o.dst=none:=by
 unfold sDn at h
 cases hd:o.dst with
 |none=>rfl
 |some d=>rw [hd] at h;cases h
section
variable {M:List Nat}{P:Program}{n:Nat}{ops:Array Oper}{W:World}{L L0:List Blk}{Q:Exit->Act->World->Prop}{fuel:Nat}{listed:Array Bool}{f:Nat->Value}
theorem hl_storeS {i:Nat}(oi:Oper)(k:Nat)(x:Blk){T:TypeId}{p q:Operand}{off:Nat}(v:Value)(sz:Nat)(hi':ops[i]?=some oi)(hw:zM ops n f oi=true)(ho:oi.op= .store T p q)(hd:oi.dst=none)(hL:L[k]?=some x)
  (hp:ev n f p= .pointer (some ⟨x.b,off,none⟩)) (hq:ev n f q=v) (hz:(P.info? T).map (·.size)=some sz) (hs:v.cells.size=sz) (hle:off+sz<=x.cs.size) (h1:(v.cells.toList.all λu=>u.oneCell')=true)
  (hsub:∀ w,Own M W w (L.set k ⟨x.b,yS x.cs off v.cells,x.ty⟩)->Own M W w L0)
  (h:wI M P n ops W L0 Q fuel (listed.setIfInBounds i true) (L.set k ⟨x.b,yS x.cs off v.cells,x.ty⟩) f):bD M P n ops W L0 Q fuel listed i L f:=
 fJ hi' hw λw hO=>by
  cases ht:P.info? T with
  |none=>rw [ht] at hz;cases hz
  |some t=>
   rw [ht] at hz
   have et:t.size=sz:=Option.some.inj hz
   have hst:=run_storeCells_at (P:=P) x.b off x.ty v.cells.toList 0 x.cs w (hO.get hL) (by simp;omega) (List.all_eq_true.1 h1)
   have hO':=hO.put hL (yS x.cs off v.cells)
   unfold Oper.wp
   rw [jF]
   have hr:(execOp (ev n f) oi).run P w= .ok .skip (w.setRow x.b (yS x.cs off v.cells)):=by
    unfold execOp
    simp only [ho,hp,hq,Instr.storeAt,Instr.sureAddr,Sem.run_bind,Sem.run_pure,Result.andThen_ok,storeVar,sizeOf,typeInfo,ht,hs,et,run_program]
    simp only [ne_eq,not_true_eq_false,if_false]
    have:(storeCells ⟨x.b,off,none⟩ v.cells.toList).run P w= .ok () (w.setRow x.b (yS x.cs off v.cells)):=by
     rw [hst];unfold yS;simp
    simp [this]
   rw [hr]
   show Own M W _ L0/\wpAnyH P .any ops Q (λw=>Own M W w L0) fuel (listed.setIfInBounds i true) ((Fr n f).put oi.dst undef) _
   rw [bE,hd]
   exact ⟨hsub _ hO',h.go _ hO'⟩
end
section
variable {M:List Nat}{P:Program}{n:Nat}{W:World}{Q:Exit->Act->World->Prop}{c:Xc}
theorem x_sto (q:Nat)(x:Blk)(off sz:Nat)(v:Value)(L1:List Blk)(hle:off+sz<=x.cs.size)(hg:zA M P n W Q ⟨.ops (xA c) (xT c),c.k,L1.set q ⟨x.b,yS x.cs off v.cells,x.ty⟩,c.f⟩)
  (hkt:(c.L,c.top,zM (xA c) n c.f (xO c),(xO c).op,sDn (xO c),ev n c.f (sP (xO c)),ev n c.f (sQ (xO c)),L1[q]?,(P.info? (sT (xO c))).map (·.size),v.cells.size,v.cells.toList.all λu=>u.oneCell')
   =(L1,.ops (xA c) (xO c::xT c),true,.store (sT (xO c)) (sP (xO c)) (sQ (xO c)),true,.pointer (some ⟨x.b,off,none⟩),v,some x,some sz,sz,true):=by kernel_rfl):zA M P n W Q c:=by
 simp only [Prod.mk.injEq] at hkt
 obtain ⟨f1,e1,e2,e3,e4,e5,e6,e7,e8,e9,e10⟩:=hkt
 have:c=⟨.ops (xA c) (xO c::xT c),c.k,L1,c.f⟩:=by rw [←e1,←f1]
 rw [this]
 exact ⟨λhq=>s_storeS q x v sz e2 e3 (sDn_is e4) e7 e5 e6 e8 e9 hle e10 (hg.go hq)⟩
theorem xh_sto (q:Nat)(x:Blk)(off sz:Nat)(v:Value)(L1 L0:List Blk)(hle:off+sz<=x.cs.size)(hsub:∀ w,Own M W w (L1.set q ⟨x.b,yS x.cs off v.cells,x.ty⟩)->Own M W w L0)
  (hg:zA M P n W Q ⟨.hps (xA c) ((hS c).setIfInBounds (hI c) true) (hU c) (hL c),c.k,L1.set q ⟨x.b,yS x.cs off v.cells,x.ty⟩,c.f⟩)
  (hkt:(c.L,hL c,c.top,(xA c)[hI c]?,zM (xA c) n c.f (xO c),(xO c).op,sDn (xO c),ev n c.f (sP (xO c)),ev n c.f (sQ (xO c)),L1[q]?,(P.info? (sT (xO c))).map (·.size),v.cells.size,v.cells.toList.all λu=>u.oneCell')
   =(L1,L0,.hst (xA c) (hS c) (hU c) (hL c) (hI c),some (xO c),true,.store (sT (xO c)) (sP (xO c)) (sQ (xO c)),true,.pointer (some ⟨x.b,off,none⟩),v,some x,some sz,sz,true):=by kernel_rfl):zA M P n W Q c:=by
 simp only [Prod.mk.injEq] at hkt
 obtain ⟨f1,f2,e1,e0,e2,e3,e4,e5,e6,e7,e8,e9,e10⟩:=hkt
 have:c=⟨.hst (xA c) (hS c) (hU c) (hL c) (hI c),c.k,L1,c.f⟩:=by rw [←e1,←f1]
 rw [←f2] at hsub
 rw [this]
 exact ⟨λhq hs=>hl_storeS (xO c) q x v sz e0 e2 e3 (sDn_is e4) e7 e5 e6 e8 e9 hle e10 hsub (hg.go hq hsub)⟩
theorem xh_sllo (t:Nat)(h:List Nat)(i:Nat){A:Option Addr}{b off:Nat}(hA:A=some ⟨b,off,none⟩)(N cp sz:Nat)(j:Int)(h0:0<=j)(h1:j<=N)(v:Value)(hv: .slice (some ⟨b,off+(if cp=j.toNat then 0 else j.toNat*sz),none⟩) (N-j.toNat) (cp-j.toNat)=v)(hg:zA M P n W Q (xHn (xgo P n t h c) i v))
  (hkt:(xgl P n t h c,pV n i (xgo P n t h c),(slQ (xOi i (xgo P n t h c))).2.2.2,ev n (xgo P n t h c).f (slQ (xOi i (xgo P n t h c))).2.1,ev n (xgo P n t h c).f (slQ (xOi i (xgo P n t h c))).2.2.1,P.underlying (slQ (xOi i (xgo P n t h c))).1,(P.info? (xEl P (slQ (xOi i (xgo P n t h c))).1)).map (·.size))
   =(xgr P n t h c,dW i (xgo P n t h c),true,.slice A N cp,YI j,some (.slice (xEl P (slQ (xOi i (xgo P n t h c))).1)),some sz):=by kernel_rfl):zA M P n W Q c:=by
 simp only [Prod.mk.injEq] at hkt
 obtain ⟨hk,e1,e2,e3,e4,e5,e6⟩:=hkt
 subst hA
 exact zJ h c hk (xtake (λw _=>by rw [run_sllo (slQ_op e2) e3 e4 e5 e6 h0 h1 w,hv]) hg e1)
theorem xh_slhi (t:Nat)(h:List Nat)(i:Nat){A:Option Addr}{b off:Nat}(hA:A=some ⟨b,off,none⟩)(N cp sz:Nat)(j:Int)(h0:0<=j)(h1:j<=cp)(v:Value)(hv: .slice (some ⟨b,off,none⟩) j.toNat cp=v)(hg:zA M P n W Q (xHn (xgo P n t h c) i v))
  (hkt:(xgl P n t h c,pV n i (xgo P n t h c),(shQ (xOi i (xgo P n t h c))).2.2.2,ev n (xgo P n t h c).f (shQ (xOi i (xgo P n t h c))).2.1,ev n (xgo P n t h c).f (shQ (xOi i (xgo P n t h c))).2.2.1,P.underlying (shQ (xOi i (xgo P n t h c))).1,(P.info? (xEl P (shQ (xOi i (xgo P n t h c))).1)).map (·.size))
   =(xgr P n t h c,dW i (xgo P n t h c),true,.slice A N cp,YI j,some (.slice (xEl P (shQ (xOi i (xgo P n t h c))).1)),some sz):=by kernel_rfl):zA M P n W Q c:=by
 simp only [Prod.mk.injEq] at hkt
 obtain ⟨hk,e1,e2,e3,e4,e5,e6⟩:=hkt
 subst hA
 exact zJ h c hk (xtake (λw _=>by rw [run_slhi (shQ_op e2) e3 e4 e5 e6 h0 h1 w,hv]) hg e1)
end
end
section
set_option linter.unnecessarySimpa false
def PutR (v:Value)(l:List (List UInt8))(s:List UInt8)(v':Value)(ob:List Blk):Prop:=(v'=v/\y8 l s=l/\ob=[])\/SlT v' (y8 l s) ob
theorem x9 (s:List UInt8):∀ u∈zW s,u.oneCell'=true:=λu hu=>by rw [List.mem_singleton.1 hu];rfl
theorem reads_take11 {w:World}{B b off:Nat}{l:List (List UInt8)}(h:Reads zW w B (some ⟨b,off,none⟩) l)(k:Nat):Reads zW w B (some ⟨b,off,none⟩) (l.take k):=λh0=>by
 obtain ⟨b',off',e,hlt,hc⟩:=h (by rw [List.length_take] at h0;omega)
 cases e
 refine ⟨b,off,rfl,hlt,λj u hj=>hc j u ?_⟩
 have:l.flatMap zW=(l.take k).flatMap zW++(l.drop k).flatMap zW:=by rw [←List.flatMap_append,List.take_append_drop]
 rw [this,List.getElem?_append_left (List.getElem?_eq_some_iff.1 hj).1];exact hj
theorem reads_drop11 {w:World}{B b off cap:Nat}{l:List (List UInt8)}(h:Reads zW w B (some ⟨b,off,none⟩) l)(hcap:l.length<=cap)(k:Nat):Reads zW w B (some ⟨b,off+(if cap=k then 0 else k*1),none⟩) (l.drop k):=λh0=>by
 rw [List.length_drop] at h0
 obtain ⟨b',off',e,hlt,hc⟩:=h Om
 cases e
 rw [if_neg Om]
 refine ⟨b,off+k*1,rfl,hlt,λj u hj=> ?_⟩
 have h1:l.flatMap zW=(l.take k).flatMap zW++(l.drop k).flatMap zW:=by rw [←List.flatMap_append,List.take_append_drop]
 have h2:((l.take k).flatMap zW).length=k:=by rw [mG zN,List.length_take];omega
 rw [Nat.add_assoc]
 refine hc (k*1+j) u ?_
 rw [h1,List.getElem?_append_right Om,h2,show k*1+j-k=j by omega];exact hj
theorem g11put_cons (A:Option Addr)(cap bp off:Nat)(l:List (List UInt8))(s:List UInt8)(W:World)(hA:A=some ⟨bp,off,none⟩)(hl0:l≠[])(hcap:l.length<=cap)(hv:Reads zW W W.heap.size A l)(hn:l.length<=900000):YC 138 #[.slice A l.length cap,.string (mkS s)] W λe w'=>∃ v' ob,e= .returned v'/\PutR (.slice A l.length cap) l s v' ob/\Own [] W w' ob:=by
 subst hA
 have hlp:0<l.length:=List.length_pos_iff.2 hl0
 have hTk:∀ k w,Own [] W w []->Reads zW w w.heap.size (some ⟨bp,off,none⟩) (l.take k):=λk w hO=>reads_take11 (hv.on hO.below hO.size) k
 have hDk:∀ k w,Own [] W w []->Reads zW w w.heap.size (some ⟨bp,off+(if cap=k then 0 else k*1),none⟩) (l.drop k):=λk w hO=>reads_drop11 (hv.on hO.below hO.size) hcap k
 have hA:(some ⟨bp,off,none⟩:Option Addr)=some ⟨bp,off,none⟩:=rfl
 have hld:∀ (k:Nat) (hk:k<l.length) x,l[k]=x→∀ w,Own [] W w []->(loadVar 9 ⟨bp,off+k*1+0,none⟩).run Tryz.prog w= .ok (.string (mkS x)) w:=λk hk x hx w hO=>by
  obtain ⟨b',off',e,hel⟩:=hv.elem zN k hk
  cases e
  exact hel w hO.below _ 0 _ (by rw [hx];kernel_rfl)
 refine z8 Tryz.func138 (x_loopE (α:=Nat) (β:=Nat) (λk=>[(0,.slice (some ⟨bp,off,none⟩) l.length cap),(1,.string (mkS s)),(5,YI (k:Int))]) (λ_=>[]) (λk m=>(k<=l.length∧∀ x∈l.take k,Op.bytesLess x s=true)/\m=l.length-k) 0 l.length (λk=>[(0,.slice (some ⟨bp,off,none⟩) l.length cap),(1,.string (mkS s)),(5,YI (k:Int))]) (λ_=>[]) (λk=>k<=l.length/\(∀ x∈l.take k,Op.bytesLess x s=true)∧∀ hk:k<l.length,Op.bytesLess l[k] s=false) [] ⟨⟨Nat.zero_le _,λx h=>by simp at h⟩,rfl⟩ ?_ ?_)
 ·rintro k mm g ⟨⟨hk,hno⟩,hmm⟩ nx nex
  refine zE 9 [] ((k:Int)<(l.length:Int)) (λh9=> ?_) (λh9=>nex k [] ⟨hk,hno,λq=>absurd q Om⟩ Kr)
  have hj:k<l.length:=by omega
  obtain ⟨x,hx⟩:∃ x,l[k]=x:=⟨_,rfl⟩
  have hgo:=kI (p:=λx=>Op.bytesLess x s=true) hj hno
  rw [hx] at hgo
  refine zU 13 [] hA l.length cap k 1 hj (zP 14 [] 9 bp (off+k*1+0) (.string (mkS x)) (λw hO=>hld k hj x hx w hO.no) (x_slt 16 [] x s (λh16=> ?_) (λh16=>nex k [] ⟨hk,hno,λq=>by rw [hx];exact h16⟩ Kr)))
  exact x_i 19 [] ((k+1:Nat):Int) (nx (k+1) (l.length-(k+1)) [] Om ⟨⟨hj,hgo h16⟩,rfl⟩ Kr Kr)
 ·rintro k g ⟨hk,hno,hge⟩
  have hlt:(l.take k).length=k:=by rw [List.length_take];omega
  refine zE 23 [] ((k:Int)<(l.length:Int)) (λh23=> ?_) (λh23=> ?_)
  ·have hj:k<l.length:=by omega
   obtain ⟨x,hx⟩:∃ x,l[k]=x:=⟨_,rfl⟩
   refine zU 27 [] hA l.length cap k 1 hj (zP 28 [] 9 bp (off+k*1+0) (.string (mkS x)) (λw hO=>hld k hj x hx w hO.no) (xN 30 [] x s (λh30=> ?_) (λh30=> ?_)))
   ·exact z6 [] (.slice (some ⟨bp,off,none⟩) l.length cap) λw hO=>⟨_,[],rfl,.inl ⟨rfl,put_old hj hno (hge hj) (hx.trans h30),rfl⟩,hO.no⟩
   have hq:y8 l s=l.take k++[s]++l.drop k:=put_new hk hno λq=>⟨hge q,by rw [hx];exact h30⟩
   refine yJ 11 [] [] (λw hO=>hO.no) (xh_slhi 50035 [] 2 hA l.length cap 1 (k:Int) (by omega) (by omega) (.slice (some ⟨bp,off,none⟩) (l.take k).length cap) (by rw [hlt];rfl) (xh_sllo 50042 [] 9 hA l.length cap 1 (k:Int) (by omega) (by omega) (.slice (some ⟨bp,off+(if cap=k then 0 else k*1),none⟩) (l.drop k).length (cap-k)) (by rw [List.length_drop];rfl) (x_h2 [] 3 5 (v7 (g:=zW) (T:=9) (k:=0) (v:= .slice none 0 0) (xs:=[]) (l.take k) [] [] [] ([]) [] (cp:=cap) (λw hO=>hO) (λo w hO=>hO.no) zN x9 (λw hO=>hTk k w hO.no) (Sl.nil _ _) (by simp only [List.length_take,List.length_nil];omega) λv1 o1 h1=> ?_) (kM 1 9 #[.string (mkS s)] λb=>zK [] 3 (v7 (g:=zW) (T:=9) (k:=0) (v:= .slice none 0 0) (xs:=[]) (l.take k) [⟨b, #[.string (mkS s)],9⟩] [] [] ([⟨b, #[.string (mkS s)],9⟩]) [] (cp:=cap) (λw hO=>hO) (λo w hO=>hO.no) zN x9 (λw hO=>hTk k w hO.no) (Sl.nil _ _) (by simp only [List.length_take,List.length_nil];omega) λv1 o1 h1=> ?_)))))
   ·obtain ⟨V1,c1,rfl⟩:=h1.form
    refine zK [] 5 (kM 1 9 #[.string (mkS s)] λb=>zK [] 6 (qS (m:=1) (cp:=1) [⟨b, #[.string (mkS s)],9⟩] o1 [] 0 (⟨b, #[.string (mkS s)],9⟩::([]++o1++[])) [] (λw hO=>hO.cast (by simp)) (λo w hO=>hO.no) h1 (by simp only [List.length_take,List.length_nil];omega) λv2 o2 h2=> ?_))
    obtain ⟨V2,c2,rfl⟩:=h2.form
    refine zK [] 10 (v7 (g:=zW) (l.drop k) [⟨b, #[.string (mkS s)],9⟩] o2 [] ([⟨b, #[.string (mkS s)],9⟩]++o2++[]) [] (cp:=cap-k) (λw hO=>hO) (λo w hO=>hO.no) zN x9 (λw hO=>hDk k w hO.no) h2 (by simp only [List.length_take,List.length_drop,List.length_nil];omega) λv3 o3 h3=> ?_)
    have hs3:SlT v3 (l.take k++[s]++l.drop k) o3:=Sl.to (show Sl 9 1 v3 (0+(l.take k).length+1+(l.drop k).length) (([]++(l.take k).flatMap zW)++zW s++(l.drop k).flatMap zW) o3 from h3) (by first|(simp;done)|(simp;omega)) (by rw [yL];simp)
    exact z6 [] v3 λw hO=>⟨_,o3,rfl,.inr (by rw [hq];exact hs3),(hO.past 1 (o3++[])).cast (by simp)⟩
   ·obtain ⟨V1,c1,rfl⟩:=h1.form
    refine zK [] 6 (qS (m:=1) (cp:=1) [⟨b, #[.string (mkS s)],9⟩] o1 [] 0 ([⟨b, #[.string (mkS s)],9⟩]++o1++[]) [] (λw hO=>hO) (λo w hO=>hO.no) h1 (by simp only [List.length_take,List.length_nil];omega) λv2 o2 h2=> ?_)
    obtain ⟨V2,c2,rfl⟩:=h2.form
    refine zK [] 10 (v7 (g:=zW) (l.drop k) [⟨b, #[.string (mkS s)],9⟩] o2 [] ([⟨b, #[.string (mkS s)],9⟩]++o2++[]) [] (cp:=cap-k) (λw hO=>hO) (λo w hO=>hO.no) zN x9 (λw hO=>hDk k w hO.no) h2 (by simp only [List.length_take,List.length_drop,List.length_nil];omega) λv3 o3 h3=> ?_)
    have hs3:SlT v3 (l.take k++[s]++l.drop k) o3:=Sl.to (show Sl 9 1 v3 (0+(l.take k).length+1+(l.drop k).length) (([]++(l.take k).flatMap zW)++zW s++(l.drop k).flatMap zW) o3 from h3) (by first|(simp;done)|(simp;omega)) (by rw [yL];simp)
    exact z6 [] v3 λw hO=>⟨_,o3,rfl,.inr (by rw [hq];exact hs3),(hO.past 1 (o3++[])).cast (by simp)⟩
  ·have hq:y8 l s=l.take k++[s]++l.drop k:=put_new hk hno λq=>absurd q Om
   refine yJ 11 [] [] (λw hO=>hO.no) (xh_slhi 50035 [] 2 hA l.length cap 1 (k:Int) (by omega) (by omega) (.slice (some ⟨bp,off,none⟩) (l.take k).length cap) (by rw [hlt];rfl) (xh_sllo 50042 [] 9 hA l.length cap 1 (k:Int) (by omega) (by omega) (.slice (some ⟨bp,off+(if cap=k then 0 else k*1),none⟩) (l.drop k).length (cap-k)) (by rw [List.length_drop];rfl) (x_h2 [] 3 5 (v7 (g:=zW) (T:=9) (k:=0) (v:= .slice none 0 0) (xs:=[]) (l.take k) [] [] [] ([]) [] (cp:=cap) (λw hO=>hO) (λo w hO=>hO.no) zN x9 (λw hO=>hTk k w hO.no) (Sl.nil _ _) (by simp only [List.length_take,List.length_nil];omega) λv1 o1 h1=> ?_) (kM 1 9 #[.string (mkS s)] λb=>zK [] 3 (v7 (g:=zW) (T:=9) (k:=0) (v:= .slice none 0 0) (xs:=[]) (l.take k) [⟨b, #[.string (mkS s)],9⟩] [] [] ([⟨b, #[.string (mkS s)],9⟩]) [] (cp:=cap) (λw hO=>hO) (λo w hO=>hO.no) zN x9 (λw hO=>hTk k w hO.no) (Sl.nil _ _) (by simp only [List.length_take,List.length_nil];omega) λv1 o1 h1=> ?_)))))
   ·obtain ⟨V1,c1,rfl⟩:=h1.form
    refine zK [] 5 (kM 1 9 #[.string (mkS s)] λb=>zK [] 6 (qS (m:=1) (cp:=1) [⟨b, #[.string (mkS s)],9⟩] o1 [] 0 (⟨b, #[.string (mkS s)],9⟩::([]++o1++[])) [] (λw hO=>hO.cast (by simp)) (λo w hO=>hO.no) h1 (by simp only [List.length_take,List.length_nil];omega) λv2 o2 h2=> ?_))
    obtain ⟨V2,c2,rfl⟩:=h2.form
    refine zK [] 10 (v7 (g:=zW) (l.drop k) [⟨b, #[.string (mkS s)],9⟩] o2 [] ([⟨b, #[.string (mkS s)],9⟩]++o2++[]) [] (cp:=cap-k) (λw hO=>hO) (λo w hO=>hO.no) zN x9 (λw hO=>hDk k w hO.no) h2 (by simp only [List.length_take,List.length_drop,List.length_nil];omega) λv3 o3 h3=> ?_)
    have hs3:SlT v3 (l.take k++[s]++l.drop k) o3:=Sl.to (show Sl 9 1 v3 (0+(l.take k).length+1+(l.drop k).length) (([]++(l.take k).flatMap zW)++zW s++(l.drop k).flatMap zW) o3 from h3) (by first|(simp;done)|(simp;omega)) (by rw [yL];simp)
    exact z6 [] v3 λw hO=>⟨_,o3,rfl,.inr (by rw [hq];exact hs3),(hO.past 1 (o3++[])).cast (by simp)⟩
   ·obtain ⟨V1,c1,rfl⟩:=h1.form
    refine zK [] 6 (qS (m:=1) (cp:=1) [⟨b, #[.string (mkS s)],9⟩] o1 [] 0 ([⟨b, #[.string (mkS s)],9⟩]++o1++[]) [] (λw hO=>hO) (λo w hO=>hO.no) h1 (by simp only [List.length_take,List.length_nil];omega) λv2 o2 h2=> ?_)
    obtain ⟨V2,c2,rfl⟩:=h2.form
    refine zK [] 10 (v7 (g:=zW) (l.drop k) [⟨b, #[.string (mkS s)],9⟩] o2 [] ([⟨b, #[.string (mkS s)],9⟩]++o2++[]) [] (cp:=cap-k) (λw hO=>hO) (λo w hO=>hO.no) zN x9 (λw hO=>hDk k w hO.no) h2 (by simp only [List.length_take,List.length_drop,List.length_nil];omega) λv3 o3 h3=> ?_)
    have hs3:SlT v3 (l.take k++[s]++l.drop k) o3:=Sl.to (show Sl 9 1 v3 (0+(l.take k).length+1+(l.drop k).length) (([]++(l.take k).flatMap zW)++zW s++(l.drop k).flatMap zW) o3 from h3) (by first|(simp;done)|(simp;omega)) (by rw [yL];simp)
    exact z6 [] v3 λw hO=>⟨_,o3,rfl,.inr (by rw [hq];exact hs3),(hO.past 1 (o3++[])).cast (by simp)⟩
theorem g11put_nil (s:List UInt8)(W:World):YC 138 #[.slice none 0 0,.string (mkS s)] W λe w'=>∃ v' ob,e= .returned v'/\PutR (.slice none 0 0) [] s v' ob/\Own [] W w' ob:=by
 have hN:∀ w,Own [] W w []->Reads zW w w.heap.size none ([]:List (List UInt8)):=λw hO h0=>absurd h0 (Nat.lt_irrefl 0)
 have hq:y8 [] s=([]:List (List UInt8))++[s]++[]:=rfl
 refine z8 Tryz.func138 (q8 0 [] (yJ 11 [] [] (λw hO=>hO.no) (x_h2 [] 3 5 (v7 (g:=zW) (T:=9) (k:=0) (v:= .slice none 0 0) (xs:=[]) (([]:List (List UInt8))) [] [] [] ([]) [] (cp:=0) (λw hO=>hO) (λo w hO=>hO.no) zN x9 (λw hO=>hN w hO.no) (Sl.nil _ _) (by simp only [List.length_take,List.length_nil];omega) λv1 o1 h1=> ?_) (kM 1 9 #[.string (mkS s)] λb=>zK [] 3 (v7 (g:=zW) (T:=9) (k:=0) (v:= .slice none 0 0) (xs:=[]) (([]:List (List UInt8))) [⟨b, #[.string (mkS s)],9⟩] [] [] ([⟨b, #[.string (mkS s)],9⟩]) [] (cp:=0) (λw hO=>hO) (λo w hO=>hO.no) zN x9 (λw hO=>hN w hO.no) (Sl.nil _ _) (by simp only [List.length_take,List.length_nil];omega) λv1 o1 h1=> ?_)))))
 ·obtain ⟨V1,c1,rfl⟩:=h1.form
  refine zK [] 5 (kM 1 9 #[.string (mkS s)] λb=>zK [] 6 (qS (m:=1) (cp:=1) [⟨b, #[.string (mkS s)],9⟩] o1 [] 0 (⟨b, #[.string (mkS s)],9⟩::([]++o1++[])) [] (λw hO=>hO.cast (by simp)) (λo w hO=>hO.no) h1 (by simp only [List.length_take,List.length_nil];omega) λv2 o2 h2=> ?_))
  obtain ⟨V2,c2,rfl⟩:=h2.form
  refine zK [] 10 (v7 (g:=zW) (([]:List (List UInt8))) [⟨b, #[.string (mkS s)],9⟩] o2 [] ([⟨b, #[.string (mkS s)],9⟩]++o2++[]) [] (cp:=0) (λw hO=>hO) (λo w hO=>hO.no) zN x9 (λw hO=>hN w hO.no) h2 (by simp only [List.length_take,List.length_drop,List.length_nil];omega) λv3 o3 h3=> ?_)
  have hs3:SlT v3 (([]:List (List UInt8))++[s]++([]:List (List UInt8))) o3:=Sl.to (show Sl 9 1 v3 (0+(([]:List (List UInt8))).length+1+(([]:List (List UInt8))).length) (([]++(([]:List (List UInt8))).flatMap zW)++zW s++(([]:List (List UInt8))).flatMap zW) o3 from h3) (by first|(simp;done)|(simp;omega)) (by rw [yL];simp)
  exact z6 [] v3 λw hO=>⟨_,o3,rfl,.inr (by rw [hq];exact hs3),(hO.past 1 (o3++[])).cast (by simp)⟩
 ·obtain ⟨V1,c1,rfl⟩:=h1.form
  refine zK [] 6 (qS (m:=1) (cp:=1) [⟨b, #[.string (mkS s)],9⟩] o1 [] 0 ([⟨b, #[.string (mkS s)],9⟩]++o1++[]) [] (λw hO=>hO) (λo w hO=>hO.no) h1 (by simp only [List.length_take,List.length_nil];omega) λv2 o2 h2=> ?_)
  obtain ⟨V2,c2,rfl⟩:=h2.form
  refine zK [] 10 (v7 (g:=zW) (([]:List (List UInt8))) [⟨b, #[.string (mkS s)],9⟩] o2 [] ([⟨b, #[.string (mkS s)],9⟩]++o2++[]) [] (cp:=0) (λw hO=>hO) (λo w hO=>hO.no) zN x9 (λw hO=>hN w hO.no) h2 (by simp only [List.length_take,List.length_drop,List.length_nil];omega) λv3 o3 h3=> ?_)
  have hs3:SlT v3 (([]:List (List UInt8))++[s]++([]:List (List UInt8))) o3:=Sl.to (show Sl 9 1 v3 (0+(([]:List (List UInt8))).length+1+(([]:List (List UInt8))).length) (([]++(([]:List (List UInt8))).flatMap zW)++zW s++(([]:List (List UInt8))).flatMap zW) o3 from h3) (by first|(simp;done)|(simp;omega)) (by rw [yL];simp)
  exact z6 [] v3 λw hO=>⟨_,o3,rfl,.inr (by rw [hq];exact hs3),(hO.past 1 (o3++[])).cast (by simp)⟩
theorem gL {A:Option Addr}{cap:Nat}{l:List (List UInt8)}{ob L:List Blk}{M:List Nat}{W0:World}(s:List UInt8)(W:World)(hv:SlT (.slice A l.length cap) l ob)(h0:l=[]->A=none/\cap=0)(hO:Own M W0 W L)(hs:∀ x∈ob,x∈L)(hn:l.length<=900000):YC 138 #[.slice A l.length cap,.string (mkS s)] W λe w'=>∃ v' ob',e= .returned v'/\PutR (.slice A l.length cap) l s v' ob'/\Own [] W w' ob':=by
 by_cases hl:l=[]
 ·obtain ⟨rfl,rfl⟩:=h0 hl
  subst hl
  exact g11put_nil s W
 ·have h1:Reads zW W W.heap.size A l:=SlT.reads hv rfl hO hs
  rcases hv.2 with ⟨e,h0,_⟩|⟨g,c,cur,e,_,h2,_⟩
  ·exact absurd (List.eq_nil_of_length_eq_zero h0) hl
  ·injection e with e1 e2 e3
   subst e3
   exact g11put_cons A cap g 0 l s W e1 hl h2 h1 hn
end
section
def nmF (k:Nat):List UInt8:=if k=0 then dfl else if k=1 then [120] else if k=2 then [121] else [122]
def ItemG (needs:List Nv)(keep:Nat->Bool)(s:List UInt8):Prop:=
 (∃ m∈needs,¬ m.opt=[]/\s=[63]++m.opt)\/(∃ m∈needs,∃ w,m.any=[w]/\s=w.name++[47]++[120])∨∃ j,j<4/\keep j=true/\s=nmF j
structure OfG (needs:List Nv)(keep:Nat->Bool)(l:List (List UInt8))(b:Nat):Prop where
 rise:xY l=true
 len:l.length<=b
 all:∀ s∈l,ItemG needs keep s
theorem OfG.nil (needs:List Nv)(keep:Nat->Bool):OfG needs keep [] 0:=⟨rfl,Nat.le_refl _,λs h=>by simp at h⟩
theorem OfG.more {needs:List Nv}{keep:Nat->Bool}{l:List (List UInt8)}{b b':Nat}(h:OfG needs keep l b)(hb:b<=b'):OfG needs keep l b':=⟨h.rise,Nat.le_trans h.len hb,h.all⟩
theorem OfG.put {needs:List Nv}{keep:Nat->Bool}{l:List (List UInt8)}{b:Nat}(h:OfG needs keep l b){s:List UInt8}(hs:ItemG needs keep s):OfG needs keep (y8 l s) (b+1):=
 ⟨put_rise h.rise,Nat.le_trans put_len (Nat.add_le_add_right h.len 1),λx hx=>by
  rcases put_mem.1 hx with rfl|hx
  ·exact hs
  ·exact h.all x hx⟩
structure FeatsG (needs:List Nv)(keep:Nat->Bool)(k:Nat)(xs:List Fv):Prop where
 names:xs.map Fv.name=((List.range k).filter keep).map nmF
 each:∀ x∈xs,OfG needs keep x.of 5
theorem FeatsG.nil (needs:List Nv)(keep:Nat->Bool):FeatsG needs keep 0 []:=⟨rfl,λx h=>by simp at h⟩
theorem FeatsG.skip {needs:List Nv}{keep:Nat->Bool}{k:Nat}{xs:List Fv}(h:FeatsG needs keep k xs)(hk:keep k=false):FeatsG needs keep (k+1) xs:=
 ⟨by rw [List.range_succ,List.filter_append,List.map_append,←h.names];simp [hk],h.each⟩
theorem FeatsG.add {needs:List Nv}{keep:Nat->Bool}{k:Nat}{xs:List Fv}(h:FeatsG needs keep k xs)(hk:keep k=true){x:Fv}(hn:x.name=nmF k)(ho:OfG needs keep x.of 5):FeatsG needs keep (k+1) (xs++[x]):=
 ⟨by rw [List.range_succ,List.filter_append,List.map_append,List.map_append,←h.names];simp [hk,hn],λy hy=>by
  rcases List.mem_append.1 hy with hy|hy
  ·exact h.each y hy
  ·rw [List.mem_singleton.1 hy];exact ho⟩
structure OfS (A:Option Addr)(c:Nat)(l:List (List UInt8))(o3:List Blk):Prop where
 ex:∃ o,SlT (.slice A l.length c) l o∧∀ b∈o,b∈o3
 bare:l=[]->A=none/\c=0
theorem OfS.nil:OfS none 0 [] []:=⟨⟨[],Sl.nil _ _,λb h=>h⟩,λ_=>⟨rfl,rfl⟩⟩
theorem OfS.more {A:Option Addr}{c:Nat}{l:List (List UInt8)}{o o':List Blk}(h:OfS A c l o)(hs:∀ b∈o,b∈o'):OfS A c l o':=by
 obtain ⟨⟨q,h1,h2⟩,h3⟩:=h
 exact ⟨⟨q,h1,λb hb=>hs b (h2 b hb)⟩,h3⟩
theorem put_ne (l:List (List UInt8))(s:List UInt8):y8 l s≠[]:=λe=>by
 have:s∈y8 l s:=put_mem.2 (.inl rfl)
 rw [e] at this;simp at this
theorem OfS.put {A:Option Addr}{c:Nat}{l:List (List UInt8)}{o3 ob:List Blk}{s:List UInt8}{v:Value}(h:OfS A c l o3)(hp:PutR (.slice A l.length c) l s v ob):∃ A' c',v= .slice A' (y8 l s).length c'/\OfS A' c' (y8 l s) (o3++ob):=by
 rcases hp with ⟨rfl,e,rfl⟩|hp
 ·refine ⟨A,c,by rw [e], ?_⟩
  rw [e]
  exact h.more λb hb=>by simpa using hb
 ·obtain ⟨A',c',rfl⟩:=SlT.form hp
  exact ⟨A',c',rfl,⟨⟨ob,hp,λb hb=>List.mem_append_right _ hb⟩,λe=>absurd e (put_ne l s)⟩⟩
structure FtO (A:Option Addr)(c:Nat)(xs:List Fv)(o7 o2:List Blk):Prop where
 top:Sl 82 2 (.slice A xs.length c) xs.length (xs.flatMap fvC) o7
 each:∀ x∈xs,∃ o,SlT (.slice x.A x.of.length x.cap) x.of o∧∀ b∈o,b∈o2
theorem FtO.nil:FtO none 0 [] [] []:=⟨Sl.nil _ _,λx h=>by simp at h⟩
theorem FtO.more {A:Option Addr}{c:Nat}{xs:List Fv}{o7 o2 o2':List Blk}(h:FtO A c xs o7 o2)(hs:∀ b∈o2,b∈o2'):FtO A c xs o7 o2':=⟨h.top,λx hx=>by
 obtain ⟨o,h1,h2⟩:=h.each x hx
 exact ⟨o,h1,λb hb=>hs b (h2 b hb)⟩⟩
theorem FtO.add {A A':Option Addr}{c c':Nat}{xs:List Fv}{o7 o7' o2:List Blk}{x:Fv}(h:FtO A c xs o7 o2)(ht:Sl 82 2 (.slice A' (xs.length+1) c') (xs.length+1) (xs.flatMap fvC++fvC x) o7')(hx:∃ o,SlT (.slice x.A x.of.length x.cap) x.of o∧∀ b∈o,b∈o2):FtO A' c' (xs++[x]) o7' o2:=
 ⟨by rw [List.length_append,List.length_singleton,List.flatMap_append,List.flatMap_singleton];exact ht,λy hy=>by
  rcases List.mem_append.1 hy with hy|hy
  ·exact h.each y hy
  ·rw [List.mem_singleton.1 hy];exact hx⟩
end
section
theorem wD (x:Nv):(nvC x).length=3:=rfl
theorem v8 (x:Wv):(wvC x).length=4:=rfl
theorem nmF_rd:∀ k:Nat,k<4->yH Tryz.prog 9 #[.string (mkS dfl),.string (mkS [120]),.string (mkS [121]),.string (mkS [122])] (0+(k:Int).toNat*1)=some (.string (mkS (nmF k)))
 |0,_=>by kernel_rfl
 |1,_=>by kernel_rfl
 |2,_=>by kernel_rfl
 |3,_=>by kernel_rfl
theorem features_gen (v:Value)(l:List Int)(i:Nat)(nm pre bld:List UInt8)(a1 a2 a3:Int)(nA:Option Addr)(nc:Nat)(needs:List Nv)(vb vf:Value)(W:World)(hv:ReadsI W W.heap.size v l)(hl:l.length<=9223372036854775807)(hi:i<=5000)
  (hN:Reads nvC W W.heap.size nA needs) (hWs:∀ m∈needs,Reads wvC W W.heap.size m.A m.any) (hlen:needs.length<=1000) (hopt:∀ m∈needs,m.opt.length<=1000) (hnm:∀ m∈needs,∀ w∈m.any,w.name.length<=1000):
  YC 75 #[v,YI (i:Int),.agg #[.string (mkS nm),YI a1,YI a2,YI a3,.string (mkS pre),.string (mkS bld),.slice nA needs.length nc,vb,vf]] W λe w'=>∃ A c xs o7 o2,e= .returned (.slice A xs.length c)/\(FtO A c xs o7 o2/\FeatsG needs (λj=>decide (plc (atL l (i+j)) 3≠0)) 4 xs)/\Own [] W w' (o7++o2):=by
 have fa:∀ (j:Nat),j<=100→∀ w,Below W.heap.size W w->YC 86 #[v,YI ((i+j:Nat):Int)] w (YR (YI (atL l (i+j))) w):=λj hj w hb=>(at_any v l (i+j) w ((hv.below hb).more hb.size) hl Om).mono λ_ _ ⟨e1,e2⟩=>⟨e1,e2▸Below.refl _ _⟩
 have fp:∀ (z:Int) w,YC 26 #[YI z,YI 3] w (YR (YI (plc z 3)) w):=λz w=>(mW z 3 w (by decide) (by decide)).mono λ_ _ ⟨e1,e2⟩=>⟨e1,e2▸Below.refl _ _⟩
 generalize hkeep:(λj=>decide (plc (atL l (i+j)) 3≠0))=keep
 have hk1:∀ j,plc (atL l (i+j)) 3=0->keep j=false:=λj h=>by rw [←hkeep];simp [h]
 have hk2:∀ j,¬ plc (atL l (i+j)) 3=0->keep j=true:=λj h=>by rw [←hkeep];simp [h]
 refine z8 Tryz.func75 (zV [] (λb0=>zD [] λb8=> ?_))
 refine y4 (α:=Nat×List Fv×Option Addr×Nat×List Blk×List Blk) (λ(k,xs,A7,c7,_,_)=>[(0,v),(1,YI (i:Int)),(5,Zp b0 0),(7,.slice A7 xs.length c7),(8,Zp b8 0),(9,YI (k:Int))])
  (λ(_,_,_,_,o7,o2)=>[⟨b8, #[.string (mkS dfl),.string (mkS [120]),.string (mkS [121]),.string (mkS [122])],119⟩,⟨b0, #[.string (mkS nm),YI a1,YI a2,YI a3,.string (mkS pre),.string (mkS bld),.slice nA needs.length nc,vb,vf],28⟩]++(o7++o2)) (λ(k,xs,A7,c7,o7,o2) m=>k<=4/\m=4-k/\FtO A7 c7 xs o7 o2/\FeatsG needs keep k xs) (0,[],none,0,[],[]) 4 [0] ⟨by omega,rfl,FtO.nil,FeatsG.nil _ _⟩ ?_
 rintro ⟨k,xs,A7,c7,o7,o2⟩ mm g kk ⟨hk4,hmm,hO7,hG⟩ nx hkk
 subst hkk
 refine zE 16 [] ((k:Int)<4) (λh4=> ?_) (λh4=> ?_)
 rotate_left
 ·obtain rfl:k=4:=by omega
  exact z6 [] _ λw hO=>⟨A7,c7,xs,o7,o2,rfl,⟨hO7,hG⟩,hO.past 2 _⟩
 have hkl:k<4:=by omega
 refine x_i 22 [] ((i+k:Nat):Int) (z1 [] (λw hO=>fa k (by omega) w hO.below) (z1 [] (λw hO=>fp (atL l (i+k)) w) (zE 26 [] (plc (atL l (i+k)) 3=0) (λh3=> ?_) (λh3=> ?_))))
 ·refine x_i 18 [] ((k+1:Nat):Int) (nx (k+1,xs,A7,c7,o7,o2) (4-(k+1)) [] Om ⟨by omega,rfl,hO7,hG.skip (hk1 k h3)⟩ Kr Kr)
 have hxl:xs.length<=4:=by
  have e:=congrArg List.length hG.names
  rw [List.length_map,List.length_map] at e
  have:=List.length_filter_le keep (List.range k)
  rw [List.length_range] at this;omega
 refine x_ixa 28 [] 4 k 1 hkl (vN 29 [] 0 _ _ 9 _ (nmF_rd k hkl) (zD [] λb11=> ?_))
 refine zH [0] ([⟨b11, #[.string (mkS (nmF k)),.slice none 0 0],82⟩,⟨b8, #[.string (mkS dfl),.string (mkS [120]),.string (mkS [121]),.string (mkS [122])],119⟩,⟨b0, #[.string (mkS nm),YI a1,YI a2,YI a3,.string (mkS pre),.string (mkS bld),.slice nA needs.length nc,vb,vf],28⟩]++(o7++o2++[])) (λw hO=>(hO.past 0 ([⟨b11, #[.string (mkS (nmF k)),.slice none 0 0],82⟩,⟨b8, #[.string (mkS dfl),.string (mkS [120]),.string (mkS [121]),.string (mkS [122])],119⟩,⟨b0, #[.string (mkS nm),YI a1,YI a2,YI a3,.string (mkS pre),.string (mkS bld),.slice nA needs.length nc,vb,vf],28⟩]++(o7++o2))).cast (by simp)) ?_
 refine x_loopE (α:=Nat×List (List UInt8)×Option Addr×Nat×List Blk) (β:=List (List UInt8)×Option Addr×Nat×List Blk) (λ(j,_,_,_,_)=>[(0,v),(1,YI (i:Int)),(5,Zp b0 0),(7,.slice A7 xs.length c7),(8,Zp b8 0),(9,YI (k:Int)),(10,YI (atL l (i+k))),(11,Zp b11 0),(12,YI (j:Int))]) (λ(_,lst,A,c,o3)=>[⟨b11, #[.string (mkS (nmF k)),.slice A lst.length c],82⟩,⟨b8, #[.string (mkS dfl),.string (mkS [120]),.string (mkS [121]),.string (mkS [122])],119⟩,⟨b0, #[.string (mkS nm),YI a1,YI a2,YI a3,.string (mkS pre),.string (mkS bld),.slice nA needs.length nc,vb,vf],28⟩]++(o7++o2++o3)) (λ(j,lst,A,c,o3) m=>j<=2/\m=2-j/\OfS A c lst o3/\OfG needs keep lst (2*j)) (0,[],none,0,[]) 2
  (λ_=>[(0,v),(1,YI (i:Int)),(5,.pointer (some ⟨b0,0,none⟩)),(7,.slice A7 xs.length c7),(8,.pointer (some ⟨b8,0,none⟩)),(9,YI (k:Int)),(10,YI (atL l (i+k))),(11,.pointer (some ⟨b11,0,none⟩))]) (λ(lst,A,c,o3)=>[⟨b11, #[.string (mkS (nmF k)),.slice A lst.length c],82⟩,⟨b8, #[.string (mkS dfl),.string (mkS [120]),.string (mkS [121]),.string (mkS [122])],119⟩,⟨b0, #[.string (mkS nm),YI a1,YI a2,YI a3,.string (mkS pre),.string (mkS bld),.slice nA needs.length nc,vb,vf],28⟩]++(o7++o2++o3)) (λ(lst,A,c,o3)=>OfS A c lst o3/\OfG needs keep lst 4) [] ⟨by omega,rfl,OfS.nil,OfG.nil _ _⟩ ?_ ?_
 ·rintro ⟨j,lst,A,c,o3⟩ m2 g2 ⟨hj2,hm2,hf0,hg0⟩ nx2 nex
  refine zE 35 [2] ((j:Int)<needs.length) (λh35=>zE 38 [] ((j:Int)<2) (λh38=> ?_) (λh38=>nex (lst,A,c,o3) [] ⟨hf0,hg0.more Om⟩ Kr)) (λh35=>nex (lst,A,c,o3) [] ⟨hf0,hg0.more Om⟩ Kr)
  obtain rfl|rfl:j=0\/j=1:=by omega
  ·have hJ:0<needs.length:=by omega
   obtain ⟨nb,no,hnA,hnl⟩:=hN.elem wD 0 hJ
   have hmm:needs[0]∈needs:=List.getElem_mem hJ
   generalize needs[0]=md at hnl hmm
   have hol:=hopt md hmm
   refine zU 45 [2] hnA needs.length nc 0 3 hJ (zP 46 [] 74 nb (no+0*3+0) (nvV md) (λw hO=>hnl w hO.below _ 0 _ Kr) (zD [] λb13=>g8 49 [0,0] md.opt [] (λh49=> ?_) (λh49=>pS 57 [] ?_ ?_)))
   ·refine zE 69 [0] ((md.any.length:Int)=1) (λh69=>pS 77 [] ?_ ?_) (λh69=> ?_)
    ·obtain ⟨wd,hwd⟩:∃ w,md.any=[w]:=List.length_eq_one_iff.1 Om
     obtain ⟨wb,wo,hwA,hwl⟩:=(hWs md hmm).elem v8 0 Om
     obtain ⟨q0,hs0,hb0⟩:=hf0.ex
     have hwn:wd.name.length<=1000:=hnm md hmm wd (by simp [hwd])
     have hw0:md.any[0]'Om=wd:=by simp [hwd]
     refine dV 10 [] (fX 50083 [1,0] 4 hwA md.any.length md.cap 0 4 Om (dT 50085 [] 6 9 wb (wo+0*4+0) (.string (mkS wd.name)) (λw hO=>hwl w hO.below _ 0 _ (by rw [hw0];kernel_rfl)) (jU 50086 [] 7 wd.name [47] (jU 50087 [] 8 (wd.name++[47]) [120] (zK [] 9 (y9 (R:=PutR (.slice A lst.length c) lst (wd.name++[47]++[120])) (λw hO=>gL (ob:=q0) (wd.name++[47]++[120]) w hs0 hf0.bare (hO.past 4 (o7++o2++o3)) (λb hb=>by have:=hb0 b hb;simp only [List.mem_append] at this ⊢;grind) (by have:=hg0.len;omega)) ?_))))))
     rintro _ ob0b hp0b
     obtain ⟨A0b,c0b,rfl,hf0b⟩:=hf0.put hp0b
     have hg0b:=hg0.put (.inr (.inl ⟨md,hmm,wd,hwd,rfl⟩))
     exact zH [1] ([⟨b11, #[.string (mkS (nmF k)),.slice A0b (y8 lst (wd.name++[47]++[120])).length c0b],82⟩,⟨b8, #[.string (mkS dfl),.string (mkS [120]),.string (mkS [121]),.string (mkS [122])],119⟩,⟨b0, #[.string (mkS nm),YI a1,YI a2,YI a3,.string (mkS pre),.string (mkS bld),.slice nA needs.length nc,vb,vf],28⟩]++(o7++o2++(o3++ob0b))) (λw hO=>(hO.past 1 (([⟨b11, #[.string (mkS (nmF k)),.slice A0b (y8 lst (wd.name++[47]++[120])).length c0b],82⟩,⟨b8, #[.string (mkS dfl),.string (mkS [120]),.string (mkS [121]),.string (mkS [122])],119⟩,⟨b0, #[.string (mkS nm),YI a1,YI a2,YI a3,.string (mkS pre),.string (mkS bld),.slice nA needs.length nc,vb,vf],28⟩]++(o7++o2++o3))++ob0b)).cast (by simp only [List.append_assoc,List.cons_append,List.nil_append])) (nx2 (1,(y8 lst (wd.name++[47]++[120])),A0b,c0b,(o3++ob0b)) 1 [] Om ⟨by omega,rfl,hf0b,hg0b.more Om⟩ Kr Kr)
    ·exact zH [] ([⟨b11, #[.string (mkS (nmF k)),.slice A lst.length c],82⟩,⟨b8, #[.string (mkS dfl),.string (mkS [120]),.string (mkS [121]),.string (mkS [122])],119⟩,⟨b0, #[.string (mkS nm),YI a1,YI a2,YI a3,.string (mkS pre),.string (mkS bld),.slice nA needs.length nc,vb,vf],28⟩]++(o7++o2++o3)) (λw hO=>(hO.past 1 ([⟨b11, #[.string (mkS (nmF k)),.slice A lst.length c],82⟩,⟨b8, #[.string (mkS dfl),.string (mkS [120]),.string (mkS [121]),.string (mkS [122])],119⟩,⟨b0, #[.string (mkS nm),YI a1,YI a2,YI a3,.string (mkS pre),.string (mkS bld),.slice nA needs.length nc,vb,vf],28⟩]++(o7++o2++o3))).cast (by simp only [List.append_assoc,List.cons_append,List.nil_append])) (nx2 (1,lst,A,c,o3) 1 [] Om ⟨by omega,rfl,hf0,hg0.more Om⟩ Kr Kr)
    ·exact zH [] ([⟨b11, #[.string (mkS (nmF k)),.slice A lst.length c],82⟩,⟨b8, #[.string (mkS dfl),.string (mkS [120]),.string (mkS [121]),.string (mkS [122])],119⟩,⟨b0, #[.string (mkS nm),YI a1,YI a2,YI a3,.string (mkS pre),.string (mkS bld),.slice nA needs.length nc,vb,vf],28⟩]++(o7++o2++o3)) (λw hO=>(hO.past 1 ([⟨b11, #[.string (mkS (nmF k)),.slice A lst.length c],82⟩,⟨b8, #[.string (mkS dfl),.string (mkS [120]),.string (mkS [121]),.string (mkS [122])],119⟩,⟨b0, #[.string (mkS nm),YI a1,YI a2,YI a3,.string (mkS pre),.string (mkS bld),.slice nA needs.length nc,vb,vf],28⟩]++(o7++o2++o3))).cast (by simp only [List.append_assoc,List.cons_append,List.nil_append])) (nx2 (1,lst,A,c,o3) 1 [] Om ⟨by omega,rfl,hf0,hg0.more Om⟩ Kr Kr)
   ·obtain ⟨q0,hs0,hb0⟩:=hf0.ex
    refine gX 63 [1,0] [63] md.opt (yV (R:=PutR (.slice A lst.length c) lst ([63]++md.opt)) [] (λw hO=>gL (ob:=q0) ([63]++md.opt) w hs0 hf0.bare (hO.past 4 (o7++o2++o3)) (λb hb=>by have:=hb0 b hb;simp only [List.mem_append] at this ⊢;grind) (by have:=hg0.len;omega)) ?_)
    rintro _ oba hpa
    obtain ⟨Aa,ca,rfl,hfa⟩:=hf0.put hpa
    have hga:=hg0.put (.inl ⟨md,hmm,h49,rfl⟩)
    refine zE 69 [1,0] ((md.any.length:Int)=1) (λh69=>pS 77 [] ?_ ?_) (λh69=> ?_)
    ·obtain ⟨wd,hwd⟩:∃ w,md.any=[w]:=List.length_eq_one_iff.1 Om
     obtain ⟨wb,wo,hwA,hwl⟩:=(hWs md hmm).elem v8 0 Om
     obtain ⟨qa,hsa,hba⟩:=hfa.ex
     have hwn:wd.name.length<=1000:=hnm md hmm wd (by simp [hwd])
     have hw0:md.any[0]'Om=wd:=by simp [hwd]
     refine dV 10 [] (fX 50083 [1,0] 4 hwA md.any.length md.cap 0 4 Om (dT 50085 [] 6 9 wb (wo+0*4+0) (.string (mkS wd.name)) (λw hO=>hwl w hO.below _ 0 _ (by rw [hw0];kernel_rfl)) (jU 50086 [] 7 wd.name [47] (jU 50087 [] 8 (wd.name++[47]) [120] (zK [] 9 (y9 (R:=PutR (.slice Aa (y8 lst ([63]++md.opt)).length ca) (y8 lst ([63]++md.opt)) (wd.name++[47]++[120])) (λw hO=>gL (ob:=qa) (wd.name++[47]++[120]) w hsa hfa.bare (hO.past 4 ((o7++o2++o3)++oba)) (λb hb=>by have:=hba b hb;simp only [List.mem_append] at this ⊢;grind) (by have:=hga.len;omega)) ?_))))))
     rintro _ obab hpab
     obtain ⟨Aab,cab,rfl,hfab⟩:=hfa.put hpab
     have hgab:=hga.put (.inr (.inl ⟨md,hmm,wd,hwd,rfl⟩))
     exact zH [1] ([⟨b11, #[.string (mkS (nmF k)),.slice Aab (y8 (y8 lst ([63]++md.opt)) (wd.name++[47]++[120])).length cab],82⟩,⟨b8, #[.string (mkS dfl),.string (mkS [120]),.string (mkS [121]),.string (mkS [122])],119⟩,⟨b0, #[.string (mkS nm),YI a1,YI a2,YI a3,.string (mkS pre),.string (mkS bld),.slice nA needs.length nc,vb,vf],28⟩]++(o7++o2++((o3++oba)++obab))) (λw hO=>(hO.past 1 ((([⟨b11, #[.string (mkS (nmF k)),.slice Aab (y8 (y8 lst ([63]++md.opt)) (wd.name++[47]++[120])).length cab],82⟩,⟨b8, #[.string (mkS dfl),.string (mkS [120]),.string (mkS [121]),.string (mkS [122])],119⟩,⟨b0, #[.string (mkS nm),YI a1,YI a2,YI a3,.string (mkS pre),.string (mkS bld),.slice nA needs.length nc,vb,vf],28⟩]++(o7++o2++o3))++oba)++obab)).cast (by simp only [List.append_assoc,List.cons_append,List.nil_append])) (nx2 (1,(y8 (y8 lst ([63]++md.opt)) (wd.name++[47]++[120])),Aab,cab,((o3++oba)++obab)) 1 [] Om ⟨by omega,rfl,hfab,hgab.more Om⟩ Kr Kr)
    ·exact zH [] ([⟨b11, #[.string (mkS (nmF k)),.slice Aa (y8 lst ([63]++md.opt)).length ca],82⟩,⟨b8, #[.string (mkS dfl),.string (mkS [120]),.string (mkS [121]),.string (mkS [122])],119⟩,⟨b0, #[.string (mkS nm),YI a1,YI a2,YI a3,.string (mkS pre),.string (mkS bld),.slice nA needs.length nc,vb,vf],28⟩]++(o7++o2++(o3++oba))) (λw hO=>(hO.past 1 (([⟨b11, #[.string (mkS (nmF k)),.slice Aa (y8 lst ([63]++md.opt)).length ca],82⟩,⟨b8, #[.string (mkS dfl),.string (mkS [120]),.string (mkS [121]),.string (mkS [122])],119⟩,⟨b0, #[.string (mkS nm),YI a1,YI a2,YI a3,.string (mkS pre),.string (mkS bld),.slice nA needs.length nc,vb,vf],28⟩]++(o7++o2++o3))++oba)).cast (by simp only [List.append_assoc,List.cons_append,List.nil_append])) (nx2 (1,(y8 lst ([63]++md.opt)),Aa,ca,(o3++oba)) 1 [] Om ⟨by omega,rfl,hfa,hga.more Om⟩ Kr Kr)
    ·exact zH [] ([⟨b11, #[.string (mkS (nmF k)),.slice Aa (y8 lst ([63]++md.opt)).length ca],82⟩,⟨b8, #[.string (mkS dfl),.string (mkS [120]),.string (mkS [121]),.string (mkS [122])],119⟩,⟨b0, #[.string (mkS nm),YI a1,YI a2,YI a3,.string (mkS pre),.string (mkS bld),.slice nA needs.length nc,vb,vf],28⟩]++(o7++o2++(o3++oba))) (λw hO=>(hO.past 1 (([⟨b11, #[.string (mkS (nmF k)),.slice Aa (y8 lst ([63]++md.opt)).length ca],82⟩,⟨b8, #[.string (mkS dfl),.string (mkS [120]),.string (mkS [121]),.string (mkS [122])],119⟩,⟨b0, #[.string (mkS nm),YI a1,YI a2,YI a3,.string (mkS pre),.string (mkS bld),.slice nA needs.length nc,vb,vf],28⟩]++(o7++o2++o3))++oba)).cast (by simp only [List.append_assoc,List.cons_append,List.nil_append])) (nx2 (1,(y8 lst ([63]++md.opt)),Aa,ca,(o3++oba)) 1 [] Om ⟨by omega,rfl,hfa,hga.more Om⟩ Kr Kr)
   ·refine zE 69 [0] ((md.any.length:Int)=1) (λh69=>pS 77 [] ?_ ?_) (λh69=> ?_)
    ·obtain ⟨wd,hwd⟩:∃ w,md.any=[w]:=List.length_eq_one_iff.1 Om
     obtain ⟨wb,wo,hwA,hwl⟩:=(hWs md hmm).elem v8 0 Om
     obtain ⟨q0,hs0,hb0⟩:=hf0.ex
     have hwn:wd.name.length<=1000:=hnm md hmm wd (by simp [hwd])
     have hw0:md.any[0]'Om=wd:=by simp [hwd]
     refine dV 10 [] (fX 50083 [1,0] 4 hwA md.any.length md.cap 0 4 Om (dT 50085 [] 6 9 wb (wo+0*4+0) (.string (mkS wd.name)) (λw hO=>hwl w hO.below _ 0 _ (by rw [hw0];kernel_rfl)) (jU 50086 [] 7 wd.name [47] (jU 50087 [] 8 (wd.name++[47]) [120] (zK [] 9 (y9 (R:=PutR (.slice A lst.length c) lst (wd.name++[47]++[120])) (λw hO=>gL (ob:=q0) (wd.name++[47]++[120]) w hs0 hf0.bare (hO.past 4 (o7++o2++o3)) (λb hb=>by have:=hb0 b hb;simp only [List.mem_append] at this ⊢;grind) (by have:=hg0.len;omega)) ?_))))))
     rintro _ ob0b hp0b
     obtain ⟨A0b,c0b,rfl,hf0b⟩:=hf0.put hp0b
     have hg0b:=hg0.put (.inr (.inl ⟨md,hmm,wd,hwd,rfl⟩))
     exact zH [1] ([⟨b11, #[.string (mkS (nmF k)),.slice A0b (y8 lst (wd.name++[47]++[120])).length c0b],82⟩,⟨b8, #[.string (mkS dfl),.string (mkS [120]),.string (mkS [121]),.string (mkS [122])],119⟩,⟨b0, #[.string (mkS nm),YI a1,YI a2,YI a3,.string (mkS pre),.string (mkS bld),.slice nA needs.length nc,vb,vf],28⟩]++(o7++o2++(o3++ob0b))) (λw hO=>(hO.past 1 (([⟨b11, #[.string (mkS (nmF k)),.slice A0b (y8 lst (wd.name++[47]++[120])).length c0b],82⟩,⟨b8, #[.string (mkS dfl),.string (mkS [120]),.string (mkS [121]),.string (mkS [122])],119⟩,⟨b0, #[.string (mkS nm),YI a1,YI a2,YI a3,.string (mkS pre),.string (mkS bld),.slice nA needs.length nc,vb,vf],28⟩]++(o7++o2++o3))++ob0b)).cast (by simp only [List.append_assoc,List.cons_append,List.nil_append])) (nx2 (1,(y8 lst (wd.name++[47]++[120])),A0b,c0b,(o3++ob0b)) 1 [] Om ⟨by omega,rfl,hf0b,hg0b.more Om⟩ Kr Kr)
    ·exact zH [] ([⟨b11, #[.string (mkS (nmF k)),.slice A lst.length c],82⟩,⟨b8, #[.string (mkS dfl),.string (mkS [120]),.string (mkS [121]),.string (mkS [122])],119⟩,⟨b0, #[.string (mkS nm),YI a1,YI a2,YI a3,.string (mkS pre),.string (mkS bld),.slice nA needs.length nc,vb,vf],28⟩]++(o7++o2++o3)) (λw hO=>(hO.past 1 ([⟨b11, #[.string (mkS (nmF k)),.slice A lst.length c],82⟩,⟨b8, #[.string (mkS dfl),.string (mkS [120]),.string (mkS [121]),.string (mkS [122])],119⟩,⟨b0, #[.string (mkS nm),YI a1,YI a2,YI a3,.string (mkS pre),.string (mkS bld),.slice nA needs.length nc,vb,vf],28⟩]++(o7++o2++o3))).cast (by simp only [List.append_assoc,List.cons_append,List.nil_append])) (nx2 (1,lst,A,c,o3) 1 [] Om ⟨by omega,rfl,hf0,hg0.more Om⟩ Kr Kr)
    ·exact zH [] ([⟨b11, #[.string (mkS (nmF k)),.slice A lst.length c],82⟩,⟨b8, #[.string (mkS dfl),.string (mkS [120]),.string (mkS [121]),.string (mkS [122])],119⟩,⟨b0, #[.string (mkS nm),YI a1,YI a2,YI a3,.string (mkS pre),.string (mkS bld),.slice nA needs.length nc,vb,vf],28⟩]++(o7++o2++o3)) (λw hO=>(hO.past 1 ([⟨b11, #[.string (mkS (nmF k)),.slice A lst.length c],82⟩,⟨b8, #[.string (mkS dfl),.string (mkS [120]),.string (mkS [121]),.string (mkS [122])],119⟩,⟨b0, #[.string (mkS nm),YI a1,YI a2,YI a3,.string (mkS pre),.string (mkS bld),.slice nA needs.length nc,vb,vf],28⟩]++(o7++o2++o3))).cast (by simp only [List.append_assoc,List.cons_append,List.nil_append])) (nx2 (1,lst,A,c,o3) 1 [] Om ⟨by omega,rfl,hf0,hg0.more Om⟩ Kr Kr)
  ·have hJ:1<needs.length:=by omega
   obtain ⟨nb,no,hnA,hnl⟩:=hN.elem wD 1 hJ
   have hmm:needs[1]∈needs:=List.getElem_mem hJ
   generalize needs[1]=md at hnl hmm
   have hol:=hopt md hmm
   refine zU 45 [2] hnA needs.length nc 1 3 hJ (zP 46 [] 74 nb (no+1*3+0) (nvV md) (λw hO=>hnl w hO.below _ 0 _ Kr) (zD [] λb13=>g8 49 [0,0] md.opt [] (λh49=> ?_) (λh49=>pS 57 [] ?_ ?_)))
   ·refine zE 69 [0] ((md.any.length:Int)=1) (λh69=>pS 77 [] ?_ ?_) (λh69=> ?_)
    ·obtain ⟨wd,hwd⟩:∃ w,md.any=[w]:=List.length_eq_one_iff.1 Om
     obtain ⟨wb,wo,hwA,hwl⟩:=(hWs md hmm).elem v8 0 Om
     obtain ⟨q0,hs0,hb0⟩:=hf0.ex
     have hwn:wd.name.length<=1000:=hnm md hmm wd (by simp [hwd])
     have hw0:md.any[0]'Om=wd:=by simp [hwd]
     refine dV 10 [] (fX 50083 [1,0] 4 hwA md.any.length md.cap 0 4 Om (dT 50085 [] 6 9 wb (wo+0*4+0) (.string (mkS wd.name)) (λw hO=>hwl w hO.below _ 0 _ (by rw [hw0];kernel_rfl)) (jU 50086 [] 7 wd.name [47] (jU 50087 [] 8 (wd.name++[47]) [120] (zK [] 9 (y9 (R:=PutR (.slice A lst.length c) lst (wd.name++[47]++[120])) (λw hO=>gL (ob:=q0) (wd.name++[47]++[120]) w hs0 hf0.bare (hO.past 4 (o7++o2++o3)) (λb hb=>by have:=hb0 b hb;simp only [List.mem_append] at this ⊢;grind) (by have:=hg0.len;omega)) ?_))))))
     rintro _ ob0b hp0b
     obtain ⟨A0b,c0b,rfl,hf0b⟩:=hf0.put hp0b
     have hg0b:=hg0.put (.inr (.inl ⟨md,hmm,wd,hwd,rfl⟩))
     exact zH [1] ([⟨b11, #[.string (mkS (nmF k)),.slice A0b (y8 lst (wd.name++[47]++[120])).length c0b],82⟩,⟨b8, #[.string (mkS dfl),.string (mkS [120]),.string (mkS [121]),.string (mkS [122])],119⟩,⟨b0, #[.string (mkS nm),YI a1,YI a2,YI a3,.string (mkS pre),.string (mkS bld),.slice nA needs.length nc,vb,vf],28⟩]++(o7++o2++(o3++ob0b))) (λw hO=>(hO.past 1 (([⟨b11, #[.string (mkS (nmF k)),.slice A0b (y8 lst (wd.name++[47]++[120])).length c0b],82⟩,⟨b8, #[.string (mkS dfl),.string (mkS [120]),.string (mkS [121]),.string (mkS [122])],119⟩,⟨b0, #[.string (mkS nm),YI a1,YI a2,YI a3,.string (mkS pre),.string (mkS bld),.slice nA needs.length nc,vb,vf],28⟩]++(o7++o2++o3))++ob0b)).cast (by simp only [List.append_assoc,List.cons_append,List.nil_append])) (nx2 (2,(y8 lst (wd.name++[47]++[120])),A0b,c0b,(o3++ob0b)) 0 [] Om ⟨by omega,rfl,hf0b,hg0b.more Om⟩ Kr Kr)
    ·exact zH [] ([⟨b11, #[.string (mkS (nmF k)),.slice A lst.length c],82⟩,⟨b8, #[.string (mkS dfl),.string (mkS [120]),.string (mkS [121]),.string (mkS [122])],119⟩,⟨b0, #[.string (mkS nm),YI a1,YI a2,YI a3,.string (mkS pre),.string (mkS bld),.slice nA needs.length nc,vb,vf],28⟩]++(o7++o2++o3)) (λw hO=>(hO.past 1 ([⟨b11, #[.string (mkS (nmF k)),.slice A lst.length c],82⟩,⟨b8, #[.string (mkS dfl),.string (mkS [120]),.string (mkS [121]),.string (mkS [122])],119⟩,⟨b0, #[.string (mkS nm),YI a1,YI a2,YI a3,.string (mkS pre),.string (mkS bld),.slice nA needs.length nc,vb,vf],28⟩]++(o7++o2++o3))).cast (by simp only [List.append_assoc,List.cons_append,List.nil_append])) (nx2 (2,lst,A,c,o3) 0 [] Om ⟨by omega,rfl,hf0,hg0.more Om⟩ Kr Kr)
    ·exact zH [] ([⟨b11, #[.string (mkS (nmF k)),.slice A lst.length c],82⟩,⟨b8, #[.string (mkS dfl),.string (mkS [120]),.string (mkS [121]),.string (mkS [122])],119⟩,⟨b0, #[.string (mkS nm),YI a1,YI a2,YI a3,.string (mkS pre),.string (mkS bld),.slice nA needs.length nc,vb,vf],28⟩]++(o7++o2++o3)) (λw hO=>(hO.past 1 ([⟨b11, #[.string (mkS (nmF k)),.slice A lst.length c],82⟩,⟨b8, #[.string (mkS dfl),.string (mkS [120]),.string (mkS [121]),.string (mkS [122])],119⟩,⟨b0, #[.string (mkS nm),YI a1,YI a2,YI a3,.string (mkS pre),.string (mkS bld),.slice nA needs.length nc,vb,vf],28⟩]++(o7++o2++o3))).cast (by simp only [List.append_assoc,List.cons_append,List.nil_append])) (nx2 (2,lst,A,c,o3) 0 [] Om ⟨by omega,rfl,hf0,hg0.more Om⟩ Kr Kr)
   ·obtain ⟨q0,hs0,hb0⟩:=hf0.ex
    refine gX 63 [1,0] [63] md.opt (yV (R:=PutR (.slice A lst.length c) lst ([63]++md.opt)) [] (λw hO=>gL (ob:=q0) ([63]++md.opt) w hs0 hf0.bare (hO.past 4 (o7++o2++o3)) (λb hb=>by have:=hb0 b hb;simp only [List.mem_append] at this ⊢;grind) (by have:=hg0.len;omega)) ?_)
    rintro _ oba hpa
    obtain ⟨Aa,ca,rfl,hfa⟩:=hf0.put hpa
    have hga:=hg0.put (.inl ⟨md,hmm,h49,rfl⟩)
    refine zE 69 [1,0] ((md.any.length:Int)=1) (λh69=>pS 77 [] ?_ ?_) (λh69=> ?_)
    ·obtain ⟨wd,hwd⟩:∃ w,md.any=[w]:=List.length_eq_one_iff.1 Om
     obtain ⟨wb,wo,hwA,hwl⟩:=(hWs md hmm).elem v8 0 Om
     obtain ⟨qa,hsa,hba⟩:=hfa.ex
     have hwn:wd.name.length<=1000:=hnm md hmm wd (by simp [hwd])
     have hw0:md.any[0]'Om=wd:=by simp [hwd]
     refine dV 10 [] (fX 50083 [1,0] 4 hwA md.any.length md.cap 0 4 Om (dT 50085 [] 6 9 wb (wo+0*4+0) (.string (mkS wd.name)) (λw hO=>hwl w hO.below _ 0 _ (by rw [hw0];kernel_rfl)) (jU 50086 [] 7 wd.name [47] (jU 50087 [] 8 (wd.name++[47]) [120] (zK [] 9 (y9 (R:=PutR (.slice Aa (y8 lst ([63]++md.opt)).length ca) (y8 lst ([63]++md.opt)) (wd.name++[47]++[120])) (λw hO=>gL (ob:=qa) (wd.name++[47]++[120]) w hsa hfa.bare (hO.past 4 ((o7++o2++o3)++oba)) (λb hb=>by have:=hba b hb;simp only [List.mem_append] at this ⊢;grind) (by have:=hga.len;omega)) ?_))))))
     rintro _ obab hpab
     obtain ⟨Aab,cab,rfl,hfab⟩:=hfa.put hpab
     have hgab:=hga.put (.inr (.inl ⟨md,hmm,wd,hwd,rfl⟩))
     exact zH [1] ([⟨b11, #[.string (mkS (nmF k)),.slice Aab (y8 (y8 lst ([63]++md.opt)) (wd.name++[47]++[120])).length cab],82⟩,⟨b8, #[.string (mkS dfl),.string (mkS [120]),.string (mkS [121]),.string (mkS [122])],119⟩,⟨b0, #[.string (mkS nm),YI a1,YI a2,YI a3,.string (mkS pre),.string (mkS bld),.slice nA needs.length nc,vb,vf],28⟩]++(o7++o2++((o3++oba)++obab))) (λw hO=>(hO.past 1 ((([⟨b11, #[.string (mkS (nmF k)),.slice Aab (y8 (y8 lst ([63]++md.opt)) (wd.name++[47]++[120])).length cab],82⟩,⟨b8, #[.string (mkS dfl),.string (mkS [120]),.string (mkS [121]),.string (mkS [122])],119⟩,⟨b0, #[.string (mkS nm),YI a1,YI a2,YI a3,.string (mkS pre),.string (mkS bld),.slice nA needs.length nc,vb,vf],28⟩]++(o7++o2++o3))++oba)++obab)).cast (by simp only [List.append_assoc,List.cons_append,List.nil_append])) (nx2 (2,(y8 (y8 lst ([63]++md.opt)) (wd.name++[47]++[120])),Aab,cab,((o3++oba)++obab)) 0 [] Om ⟨by omega,rfl,hfab,hgab.more Om⟩ Kr Kr)
    ·exact zH [] ([⟨b11, #[.string (mkS (nmF k)),.slice Aa (y8 lst ([63]++md.opt)).length ca],82⟩,⟨b8, #[.string (mkS dfl),.string (mkS [120]),.string (mkS [121]),.string (mkS [122])],119⟩,⟨b0, #[.string (mkS nm),YI a1,YI a2,YI a3,.string (mkS pre),.string (mkS bld),.slice nA needs.length nc,vb,vf],28⟩]++(o7++o2++(o3++oba))) (λw hO=>(hO.past 1 (([⟨b11, #[.string (mkS (nmF k)),.slice Aa (y8 lst ([63]++md.opt)).length ca],82⟩,⟨b8, #[.string (mkS dfl),.string (mkS [120]),.string (mkS [121]),.string (mkS [122])],119⟩,⟨b0, #[.string (mkS nm),YI a1,YI a2,YI a3,.string (mkS pre),.string (mkS bld),.slice nA needs.length nc,vb,vf],28⟩]++(o7++o2++o3))++oba)).cast (by simp only [List.append_assoc,List.cons_append,List.nil_append])) (nx2 (2,(y8 lst ([63]++md.opt)),Aa,ca,(o3++oba)) 0 [] Om ⟨by omega,rfl,hfa,hga.more Om⟩ Kr Kr)
    ·exact zH [] ([⟨b11, #[.string (mkS (nmF k)),.slice Aa (y8 lst ([63]++md.opt)).length ca],82⟩,⟨b8, #[.string (mkS dfl),.string (mkS [120]),.string (mkS [121]),.string (mkS [122])],119⟩,⟨b0, #[.string (mkS nm),YI a1,YI a2,YI a3,.string (mkS pre),.string (mkS bld),.slice nA needs.length nc,vb,vf],28⟩]++(o7++o2++(o3++oba))) (λw hO=>(hO.past 1 (([⟨b11, #[.string (mkS (nmF k)),.slice Aa (y8 lst ([63]++md.opt)).length ca],82⟩,⟨b8, #[.string (mkS dfl),.string (mkS [120]),.string (mkS [121]),.string (mkS [122])],119⟩,⟨b0, #[.string (mkS nm),YI a1,YI a2,YI a3,.string (mkS pre),.string (mkS bld),.slice nA needs.length nc,vb,vf],28⟩]++(o7++o2++o3))++oba)).cast (by simp only [List.append_assoc,List.cons_append,List.nil_append])) (nx2 (2,(y8 lst ([63]++md.opt)),Aa,ca,(o3++oba)) 0 [] Om ⟨by omega,rfl,hfa,hga.more Om⟩ Kr Kr)
   ·refine zE 69 [0] ((md.any.length:Int)=1) (λh69=>pS 77 [] ?_ ?_) (λh69=> ?_)
    ·obtain ⟨wd,hwd⟩:∃ w,md.any=[w]:=List.length_eq_one_iff.1 Om
     obtain ⟨wb,wo,hwA,hwl⟩:=(hWs md hmm).elem v8 0 Om
     obtain ⟨q0,hs0,hb0⟩:=hf0.ex
     have hwn:wd.name.length<=1000:=hnm md hmm wd (by simp [hwd])
     have hw0:md.any[0]'Om=wd:=by simp [hwd]
     refine dV 10 [] (fX 50083 [1,0] 4 hwA md.any.length md.cap 0 4 Om (dT 50085 [] 6 9 wb (wo+0*4+0) (.string (mkS wd.name)) (λw hO=>hwl w hO.below _ 0 _ (by rw [hw0];kernel_rfl)) (jU 50086 [] 7 wd.name [47] (jU 50087 [] 8 (wd.name++[47]) [120] (zK [] 9 (y9 (R:=PutR (.slice A lst.length c) lst (wd.name++[47]++[120])) (λw hO=>gL (ob:=q0) (wd.name++[47]++[120]) w hs0 hf0.bare (hO.past 4 (o7++o2++o3)) (λb hb=>by have:=hb0 b hb;simp only [List.mem_append] at this ⊢;grind) (by have:=hg0.len;omega)) ?_))))))
     rintro _ ob0b hp0b
     obtain ⟨A0b,c0b,rfl,hf0b⟩:=hf0.put hp0b
     have hg0b:=hg0.put (.inr (.inl ⟨md,hmm,wd,hwd,rfl⟩))
     exact zH [1] ([⟨b11, #[.string (mkS (nmF k)),.slice A0b (y8 lst (wd.name++[47]++[120])).length c0b],82⟩,⟨b8, #[.string (mkS dfl),.string (mkS [120]),.string (mkS [121]),.string (mkS [122])],119⟩,⟨b0, #[.string (mkS nm),YI a1,YI a2,YI a3,.string (mkS pre),.string (mkS bld),.slice nA needs.length nc,vb,vf],28⟩]++(o7++o2++(o3++ob0b))) (λw hO=>(hO.past 1 (([⟨b11, #[.string (mkS (nmF k)),.slice A0b (y8 lst (wd.name++[47]++[120])).length c0b],82⟩,⟨b8, #[.string (mkS dfl),.string (mkS [120]),.string (mkS [121]),.string (mkS [122])],119⟩,⟨b0, #[.string (mkS nm),YI a1,YI a2,YI a3,.string (mkS pre),.string (mkS bld),.slice nA needs.length nc,vb,vf],28⟩]++(o7++o2++o3))++ob0b)).cast (by simp only [List.append_assoc,List.cons_append,List.nil_append])) (nx2 (2,(y8 lst (wd.name++[47]++[120])),A0b,c0b,(o3++ob0b)) 0 [] Om ⟨by omega,rfl,hf0b,hg0b.more Om⟩ Kr Kr)
    ·exact zH [] ([⟨b11, #[.string (mkS (nmF k)),.slice A lst.length c],82⟩,⟨b8, #[.string (mkS dfl),.string (mkS [120]),.string (mkS [121]),.string (mkS [122])],119⟩,⟨b0, #[.string (mkS nm),YI a1,YI a2,YI a3,.string (mkS pre),.string (mkS bld),.slice nA needs.length nc,vb,vf],28⟩]++(o7++o2++o3)) (λw hO=>(hO.past 1 ([⟨b11, #[.string (mkS (nmF k)),.slice A lst.length c],82⟩,⟨b8, #[.string (mkS dfl),.string (mkS [120]),.string (mkS [121]),.string (mkS [122])],119⟩,⟨b0, #[.string (mkS nm),YI a1,YI a2,YI a3,.string (mkS pre),.string (mkS bld),.slice nA needs.length nc,vb,vf],28⟩]++(o7++o2++o3))).cast (by simp only [List.append_assoc,List.cons_append,List.nil_append])) (nx2 (2,lst,A,c,o3) 0 [] Om ⟨by omega,rfl,hf0,hg0.more Om⟩ Kr Kr)
    ·exact zH [] ([⟨b11, #[.string (mkS (nmF k)),.slice A lst.length c],82⟩,⟨b8, #[.string (mkS dfl),.string (mkS [120]),.string (mkS [121]),.string (mkS [122])],119⟩,⟨b0, #[.string (mkS nm),YI a1,YI a2,YI a3,.string (mkS pre),.string (mkS bld),.slice nA needs.length nc,vb,vf],28⟩]++(o7++o2++o3)) (λw hO=>(hO.past 1 ([⟨b11, #[.string (mkS (nmF k)),.slice A lst.length c],82⟩,⟨b8, #[.string (mkS dfl),.string (mkS [120]),.string (mkS [121]),.string (mkS [122])],119⟩,⟨b0, #[.string (mkS nm),YI a1,YI a2,YI a3,.string (mkS pre),.string (mkS bld),.slice nA needs.length nc,vb,vf],28⟩]++(o7++o2++o3))).cast (by simp only [List.append_assoc,List.cons_append,List.nil_append])) (nx2 (2,lst,A,c,o3) 0 [] Om ⟨by omega,rfl,hf0,hg0.more Om⟩ Kr Kr)
 ·rintro ⟨lst,A,c,o3⟩ g2 ⟨hf0,hg0⟩
  refine zE 91 [] ((k:Int)<3) (λh91=>pS 96 [] (x_i 102 [] ((i+k:Nat):Int) (x_i 103 [] ((i+(k+1):Nat):Int) (z1 [] (λw hO=>fa (k+1) (by omega) w hO.below) (z1 [] (λw hO=>fp (atL l (i+(k+1))) w) (qT 106 [] (plc (atL l (i+(k+1))) 3=0) (λh5=> ?_) (λh5=> ?_)))))) ?_) (λh91=> ?_)
  ·refine kG [0] 1 82 #[.string (mkS (nmF k)),.slice A lst.length c] (λb12=>vJ [] [⟨b12, #[.string (mkS (nmF k)),.slice A lst.length c],82⟩,⟨b11, #[.string (mkS (nmF k)),.slice A lst.length c],82⟩,⟨b8, #[.string (mkS dfl),.string (mkS [120]),.string (mkS [121]),.string (mkS [122])],119⟩,⟨b0, #[.string (mkS nm),YI a1,YI a2,YI a3,.string (mkS pre),.string (mkS bld),.slice nA needs.length nc,vb,vf],28⟩] o7 (o2++o3) 0 (⟨b12, #[.string (mkS (nmF k)),.slice A lst.length c],82⟩::([⟨b11, #[.string (mkS (nmF k)),.slice A lst.length c],82⟩,⟨b8, #[.string (mkS dfl),.string (mkS [120]),.string (mkS [121]),.string (mkS [122])],119⟩,⟨b0, #[.string (mkS nm),YI a1,YI a2,YI a3,.string (mkS pre),.string (mkS bld),.slice nA needs.length nc,vb,vf],28⟩]++(o7++o2++o3))) (λw hO=>hO.cast (by simp only [List.append_assoc,List.cons_append,List.nil_append])) hO7.top (m:=1) (cp:=1) Om λv' o7' hS=> ?_)
   obtain ⟨A8,c8,rfl⟩:=Sl.form hS
   obtain ⟨q0,hs0,hb0⟩:=hf0.ex
   exact vV 7 [] (.slice A8 (xs.length+1) c8) (.slice A8 (xs++[(⟨nmF k,A,lst,c⟩:Fv)]).length c8) (by simp) (x_i 18 [] ((k+1:Nat):Int) (zH [] ([⟨b8, #[.string (mkS dfl),.string (mkS [120]),.string (mkS [121]),.string (mkS [122])],119⟩,⟨b0, #[.string (mkS nm),YI a1,YI a2,YI a3,.string (mkS pre),.string (mkS bld),.slice nA needs.length nc,vb,vf],28⟩]++(o7'++(o2++o3))) (λw hO=>(hO.past 2 ([⟨b8, #[.string (mkS dfl),.string (mkS [120]),.string (mkS [121]),.string (mkS [122])],119⟩,⟨b0, #[.string (mkS nm),YI a1,YI a2,YI a3,.string (mkS pre),.string (mkS bld),.slice nA needs.length nc,vb,vf],28⟩]++o7'++(o2++o3))).cast (by simp only [List.append_assoc,List.cons_append,List.nil_append])) (nx (k+1,xs++[⟨nmF k,A,lst,c⟩],A8,c8,o7',(o2++o3)) (4-(k+1)) [] Om ⟨by omega,rfl,(hO7.more (o2':=(o2++o3)) (λb hb=>by simp [hb])).add (x:=⟨nmF k,A,lst,c⟩) hS ⟨q0,hs0,λb hb=>by have:=hb0 b hb;simp only [List.mem_append] at this ⊢;grind⟩,hG.add (hk2 k h3) rfl (hg0.more Om)⟩ Kr Kr)))
  ·obtain ⟨q0,hs0,hb0⟩:=hf0.ex
   refine dV 7 [] (x_i 111 [0] ((k+1:Nat):Int) (xh_ixa 50112 [] 4 4 (k+1) 1 Om (xh_ldk 50113 [] 5 1 _ _ 9 _ (nmF_rd (k+1) Om) (zK [] 6 (y9 (R:=PutR (.slice A lst.length c) lst (nmF (k+1))) (λw hO=>gL (ob:=q0) (nmF (k+1)) w hs0 hf0.bare (hO.past 3 (o7++o2++o3)) (λb hb=>by have:=hb0 b hb;simp only [List.mem_append] at this ⊢;grind) (by have:=hg0.len;omega)) ?_)))))
   rintro _ oba hpa
   obtain ⟨Aa,ca,rfl,hfa⟩:=hf0.put hpa
   have hga:=hg0.put (.inr (.inr ⟨k+1,by omega,hk2 (k+1) h5,rfl⟩))
   refine kG [0,0] 1 82 #[.string (mkS (nmF k)),.slice Aa (y8 lst (nmF (k+1))).length ca] (λb12=>vJ [] [⟨b12, #[.string (mkS (nmF k)),.slice Aa (y8 lst (nmF (k+1))).length ca],82⟩,⟨b11, #[.string (mkS (nmF k)),.slice Aa (y8 lst (nmF (k+1))).length ca],82⟩,⟨b8, #[.string (mkS dfl),.string (mkS [120]),.string (mkS [121]),.string (mkS [122])],119⟩,⟨b0, #[.string (mkS nm),YI a1,YI a2,YI a3,.string (mkS pre),.string (mkS bld),.slice nA needs.length nc,vb,vf],28⟩] o7 (o2++o3++oba) 0 (⟨b12, #[.string (mkS (nmF k)),.slice Aa (y8 lst (nmF (k+1))).length ca],82⟩::(([⟨b11, #[.string (mkS (nmF k)),.slice Aa (y8 lst (nmF (k+1))).length ca],82⟩,⟨b8, #[.string (mkS dfl),.string (mkS [120]),.string (mkS [121]),.string (mkS [122])],119⟩,⟨b0, #[.string (mkS nm),YI a1,YI a2,YI a3,.string (mkS pre),.string (mkS bld),.slice nA needs.length nc,vb,vf],28⟩]++(o7++o2++o3))++oba)) (λw hO=>hO.cast (by simp only [List.append_assoc,List.cons_append,List.nil_append])) hO7.top (m:=1) (cp:=1) Om λv' o7' hS=> ?_)
   obtain ⟨A8,c8,rfl⟩:=Sl.form hS
   obtain ⟨qa,hsa,hba⟩:=hfa.ex
   exact vV 7 [] (.slice A8 (xs.length+1) c8) (.slice A8 (xs++[(⟨nmF k,Aa,(y8 lst (nmF (k+1))),ca⟩:Fv)]).length c8) (by simp) (x_i 18 [] ((k+1:Nat):Int) (zH [] ([⟨b8, #[.string (mkS dfl),.string (mkS [120]),.string (mkS [121]),.string (mkS [122])],119⟩,⟨b0, #[.string (mkS nm),YI a1,YI a2,YI a3,.string (mkS pre),.string (mkS bld),.slice nA needs.length nc,vb,vf],28⟩]++(o7'++(o2++o3++oba))) (λw hO=>(hO.past 2 ([⟨b8, #[.string (mkS dfl),.string (mkS [120]),.string (mkS [121]),.string (mkS [122])],119⟩,⟨b0, #[.string (mkS nm),YI a1,YI a2,YI a3,.string (mkS pre),.string (mkS bld),.slice nA needs.length nc,vb,vf],28⟩]++o7'++(o2++o3++oba))).cast (by simp only [List.append_assoc,List.cons_append,List.nil_append])) (nx (k+1,xs++[⟨nmF k,Aa,(y8 lst (nmF (k+1))),ca⟩],A8,c8,o7',(o2++o3++oba)) (4-(k+1)) [] Om ⟨by omega,rfl,(hO7.more (o2':=(o2++o3++oba)) (λb hb=>by simp [hb])).add (x:=⟨nmF k,Aa,(y8 lst (nmF (k+1))),ca⟩) hS ⟨qa,hsa,λb hb=>by have:=hba b hb;simp only [List.mem_append] at this ⊢;grind⟩,hG.add (hk2 k h3) rfl (hga.more Om)⟩ Kr Kr)))
  ·refine kG [0] 1 82 #[.string (mkS (nmF k)),.slice A lst.length c] (λb12=>vJ [] [⟨b12, #[.string (mkS (nmF k)),.slice A lst.length c],82⟩,⟨b11, #[.string (mkS (nmF k)),.slice A lst.length c],82⟩,⟨b8, #[.string (mkS dfl),.string (mkS [120]),.string (mkS [121]),.string (mkS [122])],119⟩,⟨b0, #[.string (mkS nm),YI a1,YI a2,YI a3,.string (mkS pre),.string (mkS bld),.slice nA needs.length nc,vb,vf],28⟩] o7 (o2++o3) 0 (⟨b12, #[.string (mkS (nmF k)),.slice A lst.length c],82⟩::([⟨b11, #[.string (mkS (nmF k)),.slice A lst.length c],82⟩,⟨b8, #[.string (mkS dfl),.string (mkS [120]),.string (mkS [121]),.string (mkS [122])],119⟩,⟨b0, #[.string (mkS nm),YI a1,YI a2,YI a3,.string (mkS pre),.string (mkS bld),.slice nA needs.length nc,vb,vf],28⟩]++(o7++o2++o3))) (λw hO=>hO.cast (by simp only [List.append_assoc,List.cons_append,List.nil_append])) hO7.top (m:=1) (cp:=1) Om λv' o7' hS=> ?_)
   obtain ⟨A8,c8,rfl⟩:=Sl.form hS
   obtain ⟨q0,hs0,hb0⟩:=hf0.ex
   exact vV 7 [] (.slice A8 (xs.length+1) c8) (.slice A8 (xs++[(⟨nmF k,A,lst,c⟩:Fv)]).length c8) (by simp) (x_i 18 [] ((k+1:Nat):Int) (zH [] ([⟨b8, #[.string (mkS dfl),.string (mkS [120]),.string (mkS [121]),.string (mkS [122])],119⟩,⟨b0, #[.string (mkS nm),YI a1,YI a2,YI a3,.string (mkS pre),.string (mkS bld),.slice nA needs.length nc,vb,vf],28⟩]++(o7'++(o2++o3))) (λw hO=>(hO.past 2 ([⟨b8, #[.string (mkS dfl),.string (mkS [120]),.string (mkS [121]),.string (mkS [122])],119⟩,⟨b0, #[.string (mkS nm),YI a1,YI a2,YI a3,.string (mkS pre),.string (mkS bld),.slice nA needs.length nc,vb,vf],28⟩]++o7'++(o2++o3))).cast (by simp only [List.append_assoc,List.cons_append,List.nil_append])) (nx (k+1,xs++[⟨nmF k,A,lst,c⟩],A8,c8,o7',(o2++o3)) (4-(k+1)) [] Om ⟨by omega,rfl,(hO7.more (o2':=(o2++o3)) (λb hb=>by simp [hb])).add (x:=⟨nmF k,A,lst,c⟩) hS ⟨q0,hs0,λb hb=>by have:=hb0 b hb;simp only [List.mem_append] at this ⊢;grind⟩,hG.add (hk2 k h3) rfl (hg0.more Om)⟩ Kr Kr)))
  ·refine kG [0] 1 82 #[.string (mkS (nmF k)),.slice A lst.length c] (λb12=>vJ [] [⟨b12, #[.string (mkS (nmF k)),.slice A lst.length c],82⟩,⟨b11, #[.string (mkS (nmF k)),.slice A lst.length c],82⟩,⟨b8, #[.string (mkS dfl),.string (mkS [120]),.string (mkS [121]),.string (mkS [122])],119⟩,⟨b0, #[.string (mkS nm),YI a1,YI a2,YI a3,.string (mkS pre),.string (mkS bld),.slice nA needs.length nc,vb,vf],28⟩] o7 (o2++o3) 0 (⟨b12, #[.string (mkS (nmF k)),.slice A lst.length c],82⟩::([⟨b11, #[.string (mkS (nmF k)),.slice A lst.length c],82⟩,⟨b8, #[.string (mkS dfl),.string (mkS [120]),.string (mkS [121]),.string (mkS [122])],119⟩,⟨b0, #[.string (mkS nm),YI a1,YI a2,YI a3,.string (mkS pre),.string (mkS bld),.slice nA needs.length nc,vb,vf],28⟩]++(o7++o2++o3))) (λw hO=>hO.cast (by simp only [List.append_assoc,List.cons_append,List.nil_append])) hO7.top (m:=1) (cp:=1) Om λv' o7' hS=> ?_)
   obtain ⟨A8,c8,rfl⟩:=Sl.form hS
   obtain ⟨q0,hs0,hb0⟩:=hf0.ex
   exact vV 7 [] (.slice A8 (xs.length+1) c8) (.slice A8 (xs++[(⟨nmF k,A,lst,c⟩:Fv)]).length c8) (by simp) (x_i 18 [] ((k+1:Nat):Int) (zH [] ([⟨b8, #[.string (mkS dfl),.string (mkS [120]),.string (mkS [121]),.string (mkS [122])],119⟩,⟨b0, #[.string (mkS nm),YI a1,YI a2,YI a3,.string (mkS pre),.string (mkS bld),.slice nA needs.length nc,vb,vf],28⟩]++(o7'++(o2++o3))) (λw hO=>(hO.past 2 ([⟨b8, #[.string (mkS dfl),.string (mkS [120]),.string (mkS [121]),.string (mkS [122])],119⟩,⟨b0, #[.string (mkS nm),YI a1,YI a2,YI a3,.string (mkS pre),.string (mkS bld),.slice nA needs.length nc,vb,vf],28⟩]++o7'++(o2++o3))).cast (by simp only [List.append_assoc,List.cons_append,List.nil_append])) (nx (k+1,xs++[⟨nmF k,A,lst,c⟩],A8,c8,o7',(o2++o3)) (4-(k+1)) [] Om ⟨by omega,rfl,(hO7.more (o2':=(o2++o3)) (λb hb=>by simp [hb])).add (x:=⟨nmF k,A,lst,c⟩) hS ⟨q0,hs0,λb hb=>by have:=hb0 b hb;simp only [List.mem_append] at this ⊢;grind⟩,hG.add (hk2 k h3) rfl (hg0.more Om)⟩ Kr Kr)))
end
section
structure Bv where
 name:List UInt8
 rng:List UInt8
 wh:List UInt8
def bvC (x:Bv):List Value:=[.string (mkS x.name),.string (mkS x.rng),.string (mkS x.wh)]
structure BarG (own:Nat)(x:Bv):Prop where
 name:∃ k,k<4/\x.name=yB ((own+1+k) % 5)
 rng:FewT x.rng
 wh:WhenT x.wh
structure NsO (A:Option Addr)(c:Nat)(xs:List Nv)(o1 o2:List Blk):Prop where
 top:Sl 74 3 (.slice A xs.length c) xs.length (xs.flatMap nvC) o1
 each:∀ x∈xs,∃ o,WsO x.A x.cap x.any o∧∀ b∈o,b∈o2
theorem NsO.nil:NsO none 0 [] [] []:=⟨Sl.nil _ _,λx h=>by simp at h⟩
theorem NsO.add {A A':Option Addr}{c c':Nat}{xs:List Nv}{o1 o1' o2 ob:List Blk}{x:Nv}(h:NsO A c xs o1 o2)(ht:Sl 74 3 (.slice A' (xs.length+1) c') (xs.length+1) (xs.flatMap nvC++nvC x) o1')(hx:WsO x.A x.cap x.any ob):NsO A' c' (xs++[x]) o1' (o2++ob):=
 ⟨by rw [List.length_append,List.length_singleton,List.flatMap_append,List.flatMap_singleton];exact ht,λy hy=>by
  rcases List.mem_append.1 hy with hy|hy
  ·obtain ⟨o,h1,h2⟩:=h.each y hy
   exact ⟨o,h1,λb hb=>List.mem_append_left _ (h2 b hb)⟩
  ·rw [List.mem_singleton.1 hy];exact ⟨ob,hx,λb hb=>List.mem_append_right _ hb⟩⟩
structure Rv where
 name:List UInt8
 maj:Int
 min:Int
 pat:Int
 pre:List UInt8
 bld:List UInt8
 nA:Option Addr
 nc:Nat
 needs:List Nv
 bA:Option Addr
 bc:Nat
 bars:List Bv
 fA:Option Addr
 fc:Nat
 fts:List Fv
def rvC (x:Rv):List Value:=[.string (mkS x.name),YI x.maj,YI x.min,YI x.pat,.string (mkS x.pre),.string (mkS x.bld),.slice x.nA x.needs.length x.nc,.slice x.bA x.bars.length x.bc,.slice x.fA x.fts.length x.fc]
def rvV (x:Rv):Value:= .agg #[.string (mkS x.name),YI x.maj,YI x.min,YI x.pat,.string (mkS x.pre),.string (mkS x.bld),.slice x.nA x.needs.length x.nc,.slice x.bA x.bars.length x.bc,.slice x.fA x.fts.length x.fc]
def PbG (pre bld:List UInt8):Prop:=(pre=[]/\bld=[])\/(pre=[114,99,46,49]/\bld=[])\/(pre=[]/\bld=[55])
structure RecG (own:Nat)(keep:Nat->Bool)(x:Rv):Prop where
 name:x.name=yB (own % 5)
 ver:∃ a b:Nat,a<3/\b<2/\x.maj=a/\x.min=b/\x.pat=0
 pb:PbG x.pre x.bld
 nlen:x.needs.length<=2
 needs:∀ m∈x.needs,NeedG own m
 blen:x.bars.length<=1
 bars:∀ b∈x.bars,BarG own b
 fts:FeatsG x.needs keep 4 x.fts
structure RecO (x:Rv)(ob:List Blk):Prop where
 ex:∃ o1 o2 o4 o7 o8,ob=o4++(o1++o2)++(o7++o8)/\NsO x.nA x.nc x.needs o1 o2/\Sl 80 3 (.slice x.bA x.bars.length x.bc) x.bars.length (x.bars.flatMap bvC) o4/\FtO x.fA x.fc x.fts o7 o8
theorem nameT_len (k:Nat):(yB k).length<=3:=by unfold yB;split<;>(try split)<;>(try split)<;>(try split)<;>simp
theorem NsO.reads {A:Option Addr}{c:Nat}{xs:List Nv}{o1 o2 L:List Blk}{M:List Nat}{W w:World}(h:NsO A c xs o1 o2)(hO:Own M W w L)(h1:∀ b∈o1,b∈L)(h2:∀ b∈o2,b∈L):Reads nvC w w.heap.size A xs∧∀ m∈xs,Reads wvC w w.heap.size m.A m.any:=
 ⟨Sl.reads h.top rfl hO h1,λm hm=>by
  obtain ⟨o,⟨⟨p1,p2,rfl,hp,_⟩⟩,ho⟩:=h.each m hm
  exact Sl.reads hp rfl hO λb hb=>h2 b (ho b (List.mem_append_left _ hb))⟩
theorem need_short {own:Nat}{x:Nv}(h:NeedG own x):x.opt.length<=1000∧∀ w∈x.any,w.name.length<=1000:=by
 refine ⟨?_,λw hw=> ?_⟩
 ·rcases h.opt with e|⟨j,_,e⟩
  ·rw [e];simp
  ·rw [e];have:=nZ j;omega
 ·have key:∀ (a:Bool) (u:Wv),nW own a u->u.name.length<=1000:=λa u hu=>by
   obtain ⟨k,_,e⟩:=hu.name
   rw [e];have:=nameT_len ((own+1+k) % 5);omega
  rcases h.any with ⟨u,e,hu⟩|⟨u,z,e,hu,hz⟩
  ·rw [e] at hw;rw [List.mem_singleton.1 hw];exact key _ _ hu
  ·rw [e] at hw
   rcases List.mem_cons.1 hw with rfl|hw
   ·exact key _ _ hu
   ·rw [List.mem_singleton.1 hw];exact key _ _ hz
def NeedR (own:Nat)(v:Value)(ob:List Blk):Prop:=∃ x,v=nvV x/\NeedG own x/\WsO x.A x.cap x.any ob
theorem record_gen (v:Value)(l:List Int)(i own:Nat)(W:World)(hv:ReadsI W W.heap.size v l)(hl:l.length<=9223372036854775807)(hi:i<=1000)(ho:own<=1000):YC 25 #[v,YI (i:Int),YI (own:Int)] W λe w'=>∃ x ob,e= .returned (rvV x)/\(RecG own (λj=>decide (plc (atL l (i+52+j)) 3≠0)) x/\RecO x ob)/\Own [] W w' ob:=by
 obtain ⟨a,ha,ha3⟩:=yM (atL l i) 3 (by decide)
 obtain ⟨b,hb,hb2⟩:=yM (atL l (i+1)) 2 (by decide)
 obtain ⟨p,hp,hp9⟩:=yM (atL l (i+2)) 9 (by decide)
 obtain ⟨n4,hn,hn4⟩:=yM (atL l (i+3)) 4 (by decide)
 obtain ⟨m5,hm,hm5⟩:=yM (atL l (i+45)) 5 (by decide)
 obtain ⟨q4,hq,hq4⟩:=yM (atL l (i+46)) 4 (by decide)
 have f1:=x8 hv hl i 3 Om (by decide) (by decide) ha
 have f2:=x8 hv hl (i+1) 2 Om (by decide) (by decide) hb
 have f3:=x8 hv hl (i+2) 9 Om (by decide) (by decide) hp
 have f4:=x8 hv hl (i+3) 4 Om (by decide) (by decide) hn
 have f5:=x8 hv hl (i+45) 5 Om (by decide) (by decide) hm
 have f6:=x8 hv hl (i+46) 4 Om (by decide) (by decide) hq
 refine z8 Tryz.func25 (zD [] λb1=>z1 [] (λw hO=>name_at own w) (z1 [] (λw hO=>f1 w hO.below) (x_i 16 [] ((i+1:Nat):Int) (z1 [] (λw hO=>f2 w hO.below) (zD [] λb2=>x_i 22 [0] ((i+2:Nat):Int) (z1 [] (λw hO=>f3 w hO.below) ?_))))))
 refine w8 (α:=List UInt8) 24 (λ_=>[(0,v),(1,YI (i:Int)),(2,YI (own:Int)),(6,Zp b1 0),(7,Zp b2 0)]) (λpre=>[⟨b2, #[.string (mkS (yB (own % 5))),YI a,YI b,YI 0,.string (mkS pre),.string (mkS []),.slice none 0 0,.slice none 0 0,.slice none 0 0],28⟩,⟨b1,ZE,28⟩]) (λpre=>(pre=[]∧¬ (p:Int)=1)\/(pre=[114,99,46,49]/\(p:Int)=1)) [] (λnj=>gW 24 ((p:Int)=1) (λh=>nj [114,99,46,49] [0] (.inr ⟨rfl,h⟩) Kr) (λh=>nj [] [] (.inl ⟨rfl,h⟩) Kr)) ?_
 rintro pre g hpre
 refine x_i 29 [] ((i+2:Nat):Int) (z1 [] (λw hO=>f3 w hO.below) ?_)
 refine w8 (α:=List UInt8) 31 (λ_=>[(0,v),(1,YI (i:Int)),(2,YI (own:Int)),(6,Zp b1 0),(7,Zp b2 0)]) (λbld=>[⟨b2, #[.string (mkS (yB (own % 5))),YI a,YI b,YI 0,.string (mkS pre),.string (mkS bld),.slice none 0 0,.slice none 0 0,.slice none 0 0],28⟩,⟨b1,ZE,28⟩]) (λbld=>PbG pre bld) [] (λnj=>gW 31 ((p:Int)=2) (λh=>nj [55] [0] (hpre.elim (λq=> .inr (.inr ⟨q.1,rfl⟩)) (λq=>absurd q.2 Om)) Kr) (λh=>nj [] [] (hpre.elim (λq=> .inl ⟨q.1,rfl⟩) (λq=> .inr (.inl ⟨q.1,rfl⟩))) Kr)) ?_
 rintro bld g2 hpb
 refine x_i 36 [] ((i+3:Nat):Int) (z1 [] (λw hO=>f4 w hO.below) (fR 38 [] (YI ((n4 % 3:Nat):Int)) Kr ?_))
 refine zH [] ([⟨b2, #[.string (mkS (yB (own % 5))),YI a,YI b,YI 0,.string (mkS pre),.string (mkS bld),.slice none 0 0,.slice none 0 0,.slice none 0 0],28⟩,⟨b1,ZE,28⟩]++([]++[])) (λw hO=>hO.past 0 _) ?_
 refine x_loopE (α:=Nat×List Nv×Option Addr×Nat×List Blk×List Blk) (β:=List Nv×Option Addr×Nat×List Blk×List Blk) (λ(k,_,_,_,_,_)=>[(0,v),(1,YI (i:Int)),(2,YI (own:Int)),(6,Zp b1 0),(7,Zp b2 0),(8,YI (k:Int))]) (λ(_,ns,A,c,o1,o2)=>[⟨b2, #[.string (mkS (yB (own % 5))),YI a,YI b,YI 0,.string (mkS pre),.string (mkS bld),.slice A ns.length c,.slice none 0 0,.slice none 0 0],28⟩,⟨b1,ZE,28⟩]++(o1++o2)) (λ(k,ns,A,c,o1,o2) m=>m=k/\ns.length+k<=2/\NsO A c ns o1 o2∧∀ x∈ns,NeedG own x) (n4 % 3,[],none,0,[],[]) (n4 % 3)
  (λ_=>[(0,v),(1,YI (i:Int)),(2,YI (own:Int)),(6,.pointer (some ⟨b1,0,none⟩)),(7,.pointer (some ⟨b2,0,none⟩))]) (λ(ns,A,c,o1,o2)=>[⟨b2, #[.string (mkS (yB (own % 5))),YI a,YI b,YI 0,.string (mkS pre),.string (mkS bld),.slice A ns.length c,.slice none 0 0,.slice none 0 0],28⟩,⟨b1,ZE,28⟩]++(o1++o2)) (λ(ns,A,c,o1,o2)=>ns.length<=2/\NsO A c ns o1 o2∧∀ x∈ns,NeedG own x) [] ⟨rfl,by simp;omega,NsO.nil,λx h=>by simp at h⟩ ?_ ?_
 ·rintro ⟨k,ns,A,c,o1,o2⟩ mk g3 ⟨rfl,hlen,hO1,hG⟩ nx nex
  refine zE 40 [] ((0:Int)<mk) (λh40=> ?_) (λh40=>nex (ns,A,c,o1,o2) [] ⟨by omega,hO1,hG⟩ Kr)
  obtain ⟨k,rfl⟩:∃ k,mk=k+1:=⟨mk-1,by omega⟩
  refine yJ 13 [] [⟨b2, #[.string (mkS (yB (own % 5))),YI a,YI b,YI 0,.string (mkS pre),.string (mkS bld),.slice A ns.length c,.slice none 0 0,.slice none 0 0],28⟩] (λw hO=>hO.nth 0 _) (x_i 47 [0] ((i+4:Nat):Int) (x_i 49 [] ((20*(k+1):Nat):Int) (x_i 50 [] ((i+4+20*(k+1):Nat):Int) (vV 51 [] (YI (IntKind.i64.wrap (((i+4+20*(k+1):Nat):Int) -20))) (YI ((i+4+20*k:Nat):Int)) (by rw [IntWalk.i64_in _ Om];congr 1;omega) (zK [] 10 (y9 (R:=NeedR own) (λw hO=>(need_gen v l (i+4+20*k) own w ((hv.below hO.below).more hO.size) hl Om Om).mono λe w' ⟨x,ob,h1,h2,h3⟩=>⟨_,ob,h1,⟨x,rfl,h2⟩,h3⟩) ?_))))))
  rintro _ ob ⟨x,rfl,hx,hxo⟩
  refine zK [] 11 (kM 1 74 (nvV x).cells λb3=>zK [] 12 (qS [⟨b3,(nvV x).cells,74⟩,⟨b2, #[.string (mkS (yB (own % 5))),YI a,YI b,YI 0,.string (mkS pre),.string (mkS bld),.slice A ns.length c,.slice none 0 0,.slice none 0 0],28⟩,⟨b1,ZE,28⟩] o1 (o2++ob) 0 (⟨b3,(nvV x).cells,74⟩::(([⟨b2, #[.string (mkS (yB (own % 5))),YI a,YI b,YI 0,.string (mkS pre),.string (mkS bld),.slice A ns.length c,.slice none 0 0,.slice none 0 0],28⟩,⟨b1,ZE,28⟩]++(o1++o2))++ob)) [⟨b2, #[.string (mkS (yB (own % 5))),YI a,YI b,YI 0,.string (mkS pre),.string (mkS bld),.slice A ns.length c,.slice none 0 0,.slice none 0 0],28⟩] (λw hO=>hO.cast (by simp only [List.append_assoc,List.cons_append,List.nil_append])) (λo w hO=>hO.nth 1 _) hO1.top (m:=1) (cp:=1) Om λv' o1' hS=> ?_))
  obtain ⟨A',c',rfl⟩:=Sl.form hS
  refine vV 42 [1] (YI (IntKind.i64.wrap (((k+1:Nat):Int) -1))) (YI (k:Int)) (by rw [IntWalk.i64_in _ Om];congr 1;omega) (zH [] ([⟨b2, #[.string (mkS (yB (own % 5))),YI a,YI b,YI 0,.string (mkS pre),.string (mkS bld),.slice A' (ns++[x]).length c',.slice none 0 0,.slice none 0 0],28⟩,⟨b1,ZE,28⟩]++(o1'++(o2++ob))) (λw hO=>(hO.past 1 ([⟨b2, #[.string (mkS (yB (own % 5))),YI a,YI b,YI 0,.string (mkS pre),.string (mkS bld),.slice A' (ns.length+1) c',.slice none 0 0,.slice none 0 0],28⟩,⟨b1,ZE,28⟩]++o1'++(o2++ob))).cast (by simp only [List.append_assoc,List.cons_append,List.nil_append,List.length_append,List.length_cons,List.length_nil])) ?_)
  exact nx (k,ns++[x],A',c',o1',o2++ob) k [] Om ⟨rfl,by simp;omega,hO1.add hS hxo,λy hy=>by
   rcases List.mem_append.1 hy with hy|hy
   ·exact hG y hy
   ·rw [List.mem_singleton.1 hy];exact hx⟩ Kr Kr
 ·rintro ⟨ns,A,c,o1,o2⟩ g3 ⟨hlen,hO1,hG⟩
  refine x_i 59 [] ((i+45:Nat):Int) (z1 [] (λw hO=>f5 w hO.below) ?_)
  refine w8 (α:=List Bv×Option Addr×Nat×List Blk) 61 (λ_=>[(0,v),(1,YI (i:Int)),(2,YI (own:Int)),(6,Zp b1 0),(7,Zp b2 0)]) (λ(bs,bA,bc,o4)=>[⟨b2, #[.string (mkS (yB (own % 5))),YI a,YI b,YI 0,.string (mkS pre),.string (mkS bld),.slice A ns.length c,.slice bA bs.length bc,.slice none 0 0],28⟩,⟨b1,ZE,28⟩]++(o4++(o1++o2))) (λ(bs,bA,bc,o4)=>bs.length<=1/\(∀ y∈bs,BarG own y)/\Sl 80 3 (.slice bA bs.length bc) bs.length (bs.flatMap bvC) o4) [] (λnj=>gW 61 ((m5:Int)=1) (λh61=> ?_) (λh61=>nj ([],none,0,[]) [] ⟨by simp,λy h=>by simp at h,Sl.nil _ _⟩ Kr)) ?_
  ·refine yJ 21 [] [⟨b2, #[.string (mkS (yB (own % 5))),YI a,YI b,YI 0,.string (mkS pre),.string (mkS bld),.slice A ns.length c,.slice none 0 0,.slice none 0 0],28⟩] (λw hO=>hO.nth 0 _) (x_i 65 [0] ((own+1:Nat):Int) (x_i 68 [] ((i+46:Nat):Int) (x_i 74 [] ((i+47:Nat):Int) (x_i 78 [] ((i+50:Nat):Int) (zK [] 7 (z1 [] (λw hO=>f6 w hO.below) (x_i 70 [] ((own+1+q4:Nat):Int) (zK [] 9 (z1 [] (λw hO=>name_at (own+1+q4) w) (zK [] 13 (bH (R:=λv=>∃ t,FewT t/\v= .string (mkS t)) [] (λw hO=>(few_gen v l (i+47) w ((hv.below hO.below).more hO.size) hl Om).mono λe w' ⟨t,h1,h2,h3⟩=>⟨_,h2,⟨t,h1,rfl⟩,h3⟩) ?_)))))))))))
   rintro _ ⟨t,ht,rfl⟩
   refine zK [] 17 (bH (R:=λv=>∃ t,WhenT t/\v= .string (mkS t)) [] (λw hO=>(when_gen v l (i+50) w ((hv.below hO.below).more hO.size) hl Om).mono λe w' ⟨t,h1,h2,h3⟩=>⟨_,h2,⟨t,h1,rfl⟩,h3⟩) ?_)
   rintro _ ⟨u,hu,rfl⟩
   refine zK [] 19 (kM 1 80 #[.string (mkS (yB ((own+1+q4) % 5))),.string (mkS t),.string (mkS u)] λb3=>zK [] 20 (qS [⟨b3, #[.string (mkS (yB ((own+1+q4) % 5))),.string (mkS t),.string (mkS u)],80⟩,⟨b2, #[.string (mkS (yB (own % 5))),YI a,YI b,YI 0,.string (mkS pre),.string (mkS bld),.slice A ns.length c,.slice none 0 0,.slice none 0 0],28⟩,⟨b1,ZE,28⟩] [] (o1++o2) 0 (⟨b3, #[.string (mkS (yB ((own+1+q4) % 5))),.string (mkS t),.string (mkS u)],80⟩::([⟨b2, #[.string (mkS (yB (own % 5))),YI a,YI b,YI 0,.string (mkS pre),.string (mkS bld),.slice A ns.length c,.slice none 0 0,.slice none 0 0],28⟩,⟨b1,ZE,28⟩]++(o1++o2))) [⟨b2, #[.string (mkS (yB (own % 5))),YI a,YI b,YI 0,.string (mkS pre),.string (mkS bld),.slice A ns.length c,.slice none 0 0,.slice none 0 0],28⟩] (λw hO=>hO.cast (by simp only [List.append_assoc,List.cons_append,List.nil_append])) (λo w hO=>hO.nth 1 _) (Sl.nil 80 3) (m:=1) (cp:=1) Om λv' o4 hS=> ?_))
   obtain ⟨bA,bc,rfl⟩:=Sl.form hS
   exact zH [1] ([⟨b2, #[.string (mkS (yB (own % 5))),YI a,YI b,YI 0,.string (mkS pre),.string (mkS bld),.slice A ns.length c,.slice bA (0+1) bc,.slice none 0 0],28⟩,⟨b1,ZE,28⟩]++(o4++(o1++o2))) (λw hO=>(hO.past 1 ([⟨b2, #[.string (mkS (yB (own % 5))),YI a,YI b,YI 0,.string (mkS pre),.string (mkS bld),.slice A ns.length c,.slice bA (0+1) bc,.slice none 0 0],28⟩,⟨b1,ZE,28⟩]++o4++(o1++o2))).cast (by simp only [List.append_assoc,List.cons_append,List.nil_append])) (nj ([⟨yB ((own+1+q4) % 5),t,u⟩],bA,bc,o4) [] ⟨by simp,λy hy=>by rw [List.mem_singleton.1 hy];exact ⟨⟨q4,hq4,rfl⟩,ht,hu⟩,hS⟩ Kr)
  rintro ⟨bs,bA,bc,o4⟩ g4 ⟨hbl,hbG,hbS⟩
  refine x_i 86 [] ((i+52:Nat):Int) (yV (R:=λv ob=>∃ Af cf xs o7 o8,v= .slice Af xs.length cf/\ob=o7++o8/\FtO Af cf xs o7 o8/\FeatsG ns (λj=>decide (plc (atL l (i+52+j)) 3≠0)) 4 xs) [0] (λw hO=>have hr:=hO1.reads (hO.past 2 (o4++(o1++o2))) (λb hb=>by simp [hb]) (λb hb=>by simp [hb]);(features_gen v l (i+52) (yB (own % 5)) pre bld a b 0 A c ns (.slice bA bs.length bc) (.slice none 0 0) w ((hv.below hO.below).more hO.size) hl Om hr.1 hr.2 Om (λm hm=>(need_short (hG m hm)).1) (λm hm=>(need_short (hG m hm)).2)).mono λe w' ⟨Af,cf,xs,o7,o8,h1,h2,h3⟩=>⟨_,_,h1,⟨Af,cf,xs,o7,o8,rfl,rfl,h2⟩,h3⟩) ?_)
  rintro _ _ ⟨Af,cf,xs,o7,o8,rfl,rfl,hF,hFG⟩
  exact gH [0,0,1] 1 (rvV ⟨yB (own % 5),a,b,0,pre,bld,A,c,ns,bA,bc,bs,Af,cf,xs⟩) λw hO=>⟨_,_,rfl,⟨⟨rfl,⟨a,b,ha3,hb2,rfl,rfl,rfl⟩,hpb,hlen,hG,hbl,hbG,hFG⟩,⟨o1,o2,o4,o7,o8,rfl,hO1,hbS,hF⟩⟩,hO.past 2 _⟩
end
section
def Wv.wt (x:Wv):Wt:=⟨x.name,x.rng,x.fs,x.bare⟩
def Nv.nt (x:Nv):Nt:=⟨x.any.map Wv.wt,x.wh,x.opt⟩
theorem tZ (x:Bv):(bvC x).length=3:=rfl
def bvV (x:Bv):Value:= .agg #[.string (mkS x.name),.string (mkS x.rng),.string (mkS x.wh)]
def Bv.bt (x:Bv):Bt:=⟨x.name,x.rng,x.wh⟩
def Rv.ver (x:Rv):Ver:=⟨x.maj,x.min,x.pat,x.pre,x.bld⟩
def Rv.rt (x:Rv):Rt:=⟨x.name,x.ver,x.needs.map Nv.nt,x.bars.map Bv.bt,x2 x.fts⟩
structure RcIn (w:World)(B:Nat)(x:Rv):Prop where
 needs:Reads nvC w B x.nA x.needs
 any:∀ n∈x.needs,Reads wvC w B n.A n.any
 wfs:∀ n∈x.needs,∀ u∈n.any,Reads zW w B u.A u.fs
 bars:Reads bvC w B x.bA x.bars
 fts:FtIn w B x.fA x.fts
 nn:x.needs.length<=5000
 na:∀ n∈x.needs,n.any.length<=5000
 nf:∀ n∈x.needs,∀ u∈n.any,u.fs.length<=5000
 nb:x.bars.length<=5000
 sn:x.name.length<=1000000/\x.pre.length<=1000000/\x.bld.length<=1000000
 sw:∀ n∈x.needs,n.wh.length<=1000000/\n.opt.length<=1000000
 su:∀ n∈x.needs,∀ u∈n.any,u.name.length<=1000000/\u.rng.length<=1000000∧∀ s∈u.fs,s.length<=1000000
 sb:∀ b∈x.bars,b.name.length<=1000000/\b.rng.length<=1000000/\b.wh.length<=1000000
theorem RcIn.on {w w':World}{B B':Nat}{x:Rv}(h:RcIn w B x)(hb:Below B w w')(hB:B<=B'):RcIn w' B' x:=
 ⟨h.needs.on hb hB,λn hn=>(h.any n hn).on hb hB,λn hn u hu=>(h.wfs n hn u hu).on hb hB,h.bars.on hb hB,h.fts.on hb hB,h.nn,h.na,h.nf,h.nb,h.sn,h.sw,h.su,h.sb⟩
structure RcSm (w:World)(B:Nat)(x:Rv):Prop where
 needs:Reads nvC w B x.nA x.needs
 any:∀ n∈x.needs,Reads wvC w B n.A n.any
 wfs:∀ n∈x.needs,∀ u∈n.any,Reads zW w B u.A u.fs
 bars:Reads bvC w B x.bA x.bars
 fts:FtIn w B x.fA x.fts
 nn:x.needs.length<=5000
 na:∀ n∈x.needs,n.any.length<=5000
 nf:∀ n∈x.needs,∀ u∈n.any,u.fs.length<=5000
 nb:x.bars.length<=5000
theorem RcIn.sm {w:World}{B:Nat}{x:Rv}(h:RcIn w B x):RcSm w B x:=⟨h.needs,h.any,h.wfs,h.bars,h.fts,h.nn,h.na,h.nf,h.nb⟩
theorem RcSm.on {w w':World}{B B':Nat}{x:Rv}(h:RcSm w B x)(hb:Below B w w')(hB:B<=B'):RcSm w' B' x:=
 ⟨h.needs.on hb hB,λn hn=>(h.any n hn).on hb hB,λn hn u hu=>(h.wfs n hn u hu).on hb hB,h.bars.on hb hB,h.fts.on hb hB,h.nn,h.na,h.nf,h.nb⟩
end
section
def vX (sep:List UInt8):List (List UInt8)->List UInt8
 | []=>[]
 | [x]=>x
 |x::y::l=>x++sep++vX sep (y::l)
theorem nD (sep x y:List UInt8)(l:List (List UInt8)):vX sep (x::y::l)=x++sep++vX sep (y::l):=rfl
theorem joinB_snoc (sep x:List UInt8):∀ (l:List (List UInt8)),vX sep (l++[x])=if l=[] then x else vX sep l++sep++x
 | []=>rfl
 | [y]=>rfl
 |y::z::l=>by
  rw [if_neg (by simp)]
  show y++sep++vX sep ((z::l)++[x])=y++sep++vX sep (z::l)++sep++x
  rw [joinB_snoc sep x (z::l),if_neg (by simp)]
  simp only [List.append_assoc]
def sumN:List Nat->Nat
 | []=>0
 |n::l=>n+sumN l
theorem joinB_len (sep:List UInt8):∀ (l:List (List UInt8)),(vX sep l).length=sumN (l.map (·.length))+(l.length-1)*sep.length
 | []=>by simp [vX,sumN]
 | [x]=>by simp [vX,sumN]
 |x::y::l=>by
  rw [nD,List.length_append,List.length_append,joinB_len sep (y::l)]
  show x.length+sep.length+(sumN ((y::l).map (·.length))+((y::l).length-1)*sep.length)=x.length+sumN ((y::l).map (·.length))+((y::l).length+1-1)*sep.length
  have e:((y::l).length+1-1)*sep.length=((y::l).length-1)*sep.length+sep.length:=by
   rw [show (y::l).length+1-1=((y::l).length-1)+1 from by simp,Nat.add_mul,Nat.one_mul]
  omega
def kL (a:List Co):List UInt8:=vX [44,32] (a.map Co.print)
def vE (r:List (List Co)):List UInt8:=vX [32,124,124,32] (r.map kL)
def fewA (a:List Co):Bool:=decide (1<=a.length/\a.length<=6) && a.all Co.may
def fewR (r:List (List Co)):Bool:=decide (1<=r.length/\r.length<=6) && r.all fewA
def rgMay (r:List (List Co)):Bool:=fewR r && decide ((vE r).length<=96)
def f9 (r:List (List Co)):List UInt8:=if rgMay r then vE r else []
theorem fewA.facts {a:List Co}(h:fewA a=true):(1<=a.length/\a.length<=6)∧∀ c∈a,c.may=true:=by
 unfold fewA at h
 rw [Bool.and_eq_true,decide_eq_true_eq] at h
 exact ⟨h.1,List.all_eq_true.1 h.2⟩
theorem fewR.facts {r:List (List Co)}(h:fewR r=true):(1<=r.length/\r.length<=6)∧∀ a∈r,fewA a=true:=by
 unfold fewR at h
 rw [Bool.and_eq_true,decide_eq_true_eq] at h
 exact ⟨h.1,List.all_eq_true.1 h.2⟩
theorem rgMay.facts {r:List (List Co)}(h:rgMay r=true):fewR r=true/\(vE r).length<=96:=by
 unfold rgMay at h
 rw [Bool.and_eq_true,decide_eq_true_eq] at h
 exact h
def yX:List UInt8->List UInt8
 | []=>[]
 |c::l=>if c=32 then yX l else c::l
def yO (s:List UInt8):List UInt8:=(yX (yX s).reverse).reverse
def xM:List UInt8->List UInt8->List (List UInt8)
 |acc,[]=>[acc]
 |acc,[c]=>[acc++[c]]
 |acc,c::d::r=>if c=124/\d=124 then acc::xM [] r else xM (acc++[c]) (d::r)
def wG {α β:Type}(f:α->Option β):List α->Option (List β)
 | []=>some []
 |x::l=>match f x,wG f l with
  |some y,some m=>some (y::m)
  |_,_=>none
theorem allO_cons {α β:Type}{f:α->Option β}{x:α}{l:List α}{y:β}{m:List β}(h1:f x=some y)(h2:wG f l=some m):wG f (x::l)=some (y::m):=by
 show (match f x,wG f l with|some y,some m=>some (y::m)|_,_=>none)=_
 rw [h1,h2]
theorem allO_inv {α β:Type}{f:α->Option β}{x:α}{l:List α}{m:List β}(h:wG f (x::l)=some m):∃ y m',m=y::m'/\f x=some y/\wG f l=some m':=by
 have h:(match f x,wG f l with|some y,some m=>some (y::m)|_,_=>none)=some m:=h
 cases h1:f x with
 |none=>rw [h1] at h;cases h
 |some y=>
  cases h2:wG f l with
  |none=>rw [h1,h2] at h;cases h
  |some m'=>rw [h1,h2] at h;injection h with h;exact ⟨y,m',h.symm,rfl,rfl⟩
theorem allO_none {α β:Type}{f:α->Option β}:∀ {l:List α} {x:α},x∈l->f x=none->wG f l=none
 |y::l,x,hx,h=>by
  show (match f y,wG f l with|some y,some m=>some (y::m)|_,_=>none)=_
  rcases List.mem_cons.1 hx with rfl|hx
  ·rw [h]
  ·rw [allO_none hx h];cases f y<;>rfl
theorem dR {α β:Type}{f:α->Option β}:∀ {l:List α} {m:List β},wG f l=some m->m.length=l.length
 | [],m,h=>by injection h with h;subst h;rfl
 |x::l,m,h=>by
  obtain ⟨y,m',rfl,_,h2⟩:=allO_inv h
  rw [List.length_cons,List.length_cons,dR h2]
theorem allO_app {α β:Type}{f:α->Option β}{b:List α}{n:List β}(hb:wG f b=some n):∀ {a:List α} {m:List β},wG f a=some m->wG f (a++b)=some (m++n)
 | [],m,h=>by injection h with h;subst h;exact hb
 |x::a,m,h=>by
  obtain ⟨y,m',rfl,h1,h2⟩:=allO_inv h
  exact allO_cons h1 (allO_app hb h2)
theorem allO_snoc {α β:Type}{f:α->Option β}{a:List α}{m:List β}{x:α}{y:β}(h:wG f a=some m)(h1:f x=some y):wG f (a++[x])=some (m++[y]):=allO_app (allO_cons h1 rfl) h
theorem allO_back {α β:Type}{f:α->Option β}:∀ {l:List α} {m:List β},wG f l=some m→∀ y∈m,∃ x∈l,f x=some y
 | [],m,h,y,hy=>by injection h with h;subst h;cases hy
 |z::l,m,h,y,hy=>by
  obtain ⟨w,m',rfl,h1,h2⟩:=allO_inv h
  rcases List.mem_cons.1 hy with rfl|hy
  ·exact ⟨z,List.mem_cons_self ..,h1⟩
  ·obtain ⟨x,hx,e⟩:=allO_back h2 y hy
   exact ⟨x,List.mem_cons_of_mem _ hx,e⟩
def parseP (s:List UInt8):Option Co:=kX (yO s)
def parseA (s:List UInt8):Option (List Co):=wG parseP (zF 44 [] s)
def gO (s:List UInt8):Option (List (List Co)):=wG parseA (xM [] s)
def kW (s:List UInt8):Option (List (List Co)):=if 96<s.length then none else (gO s).filter rgMay
def bF (s:List UInt8):Int:=if 96<s.length then 3 else match gO s with
 |none=>6
 |some r=>if fewR r then (if (vE r).length<=96 then 0 else 3) else 6
def blanks (n:Nat):List UInt8:=List.replicate n 32
theorem altsL_ne:∀ (s acc:List UInt8),xM acc s≠[]
 | [],acc=>by simp [xM]
 | [c],acc=>by simp [xM]
 |c::d::r,acc=>by
  rw [xM]
  split
  ·simp
  ·exact altsL_ne (d::r) _
theorem altsL_le:∀ (s acc:List UInt8),∀ x∈xM acc s,x.length<=acc.length+s.length
 | [],acc,x,hx=>by
  have:x=acc:=by simpa [xM] using hx
  subst this;simp
 | [c],acc,x,hx=>by
  have:x=acc++[c]:=by simpa [xM] using hx
  subst this;simp
 |c::d::r,acc,x,hx=>by
  rw [xM] at hx
  split at hx
  ·rcases List.mem_cons.1 hx with rfl|hx
   ·simp only [List.length_cons];omega
   ·have:=altsL_le r [] x hx
    simp only [List.length_cons,List.length_nil] at this ⊢;omega
  ·have:=altsL_le (d::r) (acc++[c]) x hx
   simp only [List.length_append,List.length_cons,List.length_nil] at this ⊢;omega
theorem pQ:∀ (s acc:List UInt8),(xM acc s).length<=s.length+1
 | [],acc=>by simp [xM]
 | [c],acc=>by simp [xM]
 |c::d::r,acc=>by
  rw [xM]
  split
  ·have:=pQ r [];simp only [List.length_cons];omega
  ·have:=pQ (d::r) (acc++[c]);simp only [List.length_cons] at this ⊢;omega
inductive Two {α β:Type} (R:α->β->Prop):List α->List β->Prop
 |nil:Two R [] []
 |cons {x:α} {y:β} {l:List α} {m:List β} (h:R x y) (t:Two R l m):Two R (x::l) (y::m)
def SpellC (s:List UInt8)(c:Co):Prop:=∃ n m,s=blanks n++c.text++blanks m
def SpellA (s:List UInt8)(a:List Co):Prop:=∃ ps,s=zB 44 ps/\Two SpellC ps a/\ps≠[]
def SpellR (s:List UInt8)(r:List (List Co)):Prop:=∃ l,s=vX [124,124] l/\Two SpellA l r/\l≠[]
theorem text_ne {c:Co}(h:c.may=true):c.text≠[]:=by
 intro e
 have:=(fC c.text c).2 ⟨h,.inl rfl⟩
 rw [e] at this
 revert this
 have:kX []=none:=by decide
 rw [this];simp
theorem err_some {s:List UInt8}{r:List (List Co)}(h:kW s=some r):bF s=0/\rgMay r=true/\gO s=some r/\s.length<=96:=by
 unfold kW at h
 split at h
 ·cases h
 ·rename_i hl
  cases hp:gO s with
  |none=>rw [hp] at h;cases h
  |some q=>
   rw [hp] at h
   unfold Option.filter at h
   simp only at h
   split at h
   ·rename_i hm
    injection h with h
    subst h
    obtain ⟨k1,k2⟩:=rgMay.facts hm
    refine ⟨?_,hm,rfl,by omega⟩
    unfold bF
    rw [if_neg hl,hp]
    simp only
    rw [if_pos k1,if_pos k2]
   ·cases h
theorem err_none {s:List UInt8}(h:kW s=none):bF s=3\/bF s=6:=by
 unfold kW at h
 unfold bF
 split at h
 ·rename_i hl;rw [if_pos hl];exact .inl rfl
 ·rename_i hl
  rw [if_neg hl]
  cases hp:gO s with
  |none=>exact .inr rfl
  |some q=>
   rw [hp] at h
   simp only
   cases h1:fewR q with
   |false=>exact .inr rfl
   |true=>
    rw [if_pos rfl]
    by_cases h2:(vE q).length<=96
    ·exfalso
     have:rgMay q=true:=by unfold rgMay;rw [h1,decide_eq_true h2];rfl
     simp [Option.filter,this] at h
    ·rw [if_neg h2];exact .inl rfl
end
section
def kT (s:List UInt8):Bool:=decide (bF s=0) && decide (f9 ((kW s).getD [])=s)
def yY (s:List UInt8):Bool:=decide (errM s=0) && decide (qU (wE s)=s)
def pZ (l:List (List UInt8))(alone:Bool):Bool:=l.all wdL && decide (l.length<=6) && xY l && (alone||decide (l=[]))
def qA (own:List UInt8)(x:Wt)(alone:Bool):Int:=
 if nmL x.name=false then 4 else if x.name=own then 8 else if kT x.rng=false then 6 else if pZ x.fs alone=false then 11 else 0
def yN {α:Type}(f:α->Int):List α->Int
 | []=>0
 |a::r=>if f a=0 then yN f r else f a
theorem jS {α:Type}{f:α->Int}:∀ {l:List α},(∀ x∈l,f x=0)->yN f l=0
 | [],_=>rfl
 |a::r,h=>by rw [yN,if_pos (h a (List.mem_cons_self ..)),jS λx hx=>h x (List.mem_cons_of_mem _ hx)]
theorem firstE_at {α:Type}{f:α->Int}:∀ {l:List α} {i:Nat} (hi:i<l.length),(∀ x∈l.take i,f x=0)->f l[i]≠0->yN f l=f l[i]
 |a::r,0,_,_,h=>by
  have h':f a≠0:=h
  rw [yN,if_neg h'];rfl
 |a::r,i+1,hi,h0,h=>by
  rw [yN,if_pos (h0 a (by simp))]
  exact firstE_at (l:=r) (i:=i) (by simpa using hi) (λx hx=>h0 x (by rw [List.take_succ_cons];exact List.mem_cons_of_mem _ hx)) h
theorem firstE_map {α β:Type}(f:β->Int)(g:α->β):∀ l:List α,yN f (l.map g)=yN (λx=>f (g x)) l
 | []=>rfl
 |a::r=>by rw [List.map_cons,yN,yN,firstE_map f g r]
def xF {α:Type}(f:α->Int):Nat->List α->Int×Int
 |_,[]=>(0,0)
 |k,a::r=>if f a=0 then xF f (k+1) r else (f a,(k:Int))
theorem qK {α:Type}{f:α->Int}:∀ {l:List α} {k:Nat},(∀ x∈l,f x=0)->xF f k l=(0,0)
 | [],_,_=>rfl
 |a::r,k,h=>by rw [xF,if_pos (h a (List.mem_cons_self ..)),qK λx hx=>h x (List.mem_cons_of_mem _ hx)]
theorem nH {α:Type}{f:α->Int}:∀ {l:List α} {i:Nat} (k:Nat) (hi:i<l.length),(∀ x∈l.take i,f x=0)->f l[i]≠0->xF f k l=(f l[i],((k+i:Nat):Int))
 |a::r,0,k,_,_,h=>by
  have h':f a≠0:=h
  rw [xF,if_neg h'];rfl
 |a::r,i+1,k,hi,h0,h=>by
  rw [xF,if_pos (h0 a (by simp)),nH (l:=r) (i:=i) (k+1) (by simpa using hi) (λx hx=>h0 x (by rw [List.take_succ_cons];exact List.mem_cons_of_mem _ hx)) h,show k+1+i=k+(i+1) by omega];rfl
theorem fM {α β:Type}(f:β->Int)(g:α->β):∀ (l:List α) (k:Nat),xF f k (l.map g)=xF (λx=>f (g x)) k l
 | [],_=>rfl
 |a::r,k=>by rw [List.map_cons,xF,xF,fM f g r]
def gE (own:List UInt8)(n:Nt):Int:=
 if n.any=[] then 9 else if 3<n.any.length then 3 else if yN (λx=>qA own x (decide (n.any.length=1))) n.any≠0 then yN (λx=>qA own x (decide (n.any.length=1))) n.any
 else if yY n.wh=false then 7 else if n.opt≠[]/\wdL n.opt=false then 14 else 0
def jZ (own:List UInt8)(b:Bt):Int:=
 if nmL b.name=false then 4 else if b.name=own then 8 else if kT b.rng=false then 6 else if yY b.wh=false then 7 else 0
def optR (l:List Nt)(s:List UInt8):Bool:=l.any λn=>decide (n.opt=s)
def pulN (s:List UInt8)(n:Nt):Bool:=match n.any with
 | [x]=>decide (x.name=s)
 |_=>false
def pulR (l:List Nt)(s:List UInt8):Bool:=l.any (pulN s)
def kJ (l:List Nt)(s:List UInt8):Int:=
 if (zR s).1=2/\optR l (wordOf s)=false then 14 else if (zR s).1=3/\pulR l (wordOf s)=false then 16 else 0
def vF (r:Rt):Int×Int:=
 if (xF (gE r.name) 0 r.needs).1≠0 then xF (gE r.name) 0 r.needs
 else if (xF (jZ r.name) 0 r.bars).1≠0 then xF (jZ r.name) 0 r.bars
 else if bZ r.fts=false then (11,0)
 else xF (λf:Ft=>yN (kJ r.needs) f.of) 0 r.fts
def zX (r:Rt):Int×Int:=
 if nmL r.name=false then (4,0) else if r.ver.may=false then (5,0) else if 8<r.needs.length\/8<r.bars.length then (3,0)
 else if (vF r).1≠0 then vF r else if 4096<(g6 r).length then (3,0) else (0,0)
end
section
theorem firstE_zero {α:Type}{f:α->Int}:∀ {l:List α},yN f l=0→∀ x∈l,f x=0
 | [],_,x,h=>by cases h
 |a::r,h,x,hx=>by
  by_cases h0:f a=0
  ·rw [yN,if_pos h0] at h
   rcases List.mem_cons.1 hx with rfl|hx
   ·exact h0
   ·exact firstE_zero h x hx
  ·rw [yN,if_neg h0] at h;exact absurd h h0
theorem bR {α:Type}{f:α->Int}:∀ {l:List α} {k:Nat},(xF f k l).1=0→∀ x∈l,f x=0
 | [],_,_,x,h=>by cases h
 |a::r,k,h,x,hx=>by
  by_cases h0:f a=0
  ·rw [xF,if_pos h0] at h
   rcases List.mem_cons.1 hx with rfl|hx
   ·exact h0
   ·exact bR h x hx
  ·rw [xF,if_neg h0] at h;exact absurd h h0
theorem bQ {α:Type}(f:α->List UInt8)(k:Nat):∀ {l:List α},(∀ x∈l,(f x).length<=k)->(l.flatMap f).length<=l.length*k
 | [],_=>by simp
 |a::r,h=>by
  have h1:=h a (List.mem_cons_self ..)
  have h2:=bQ f k (l:=r) λx hx=>h x (List.mem_cons_of_mem _ hx)
  rw [List.flatMap_cons,List.length_append,List.length_cons,Nat.add_mul];omega
theorem jn_most (b:UInt8)(k:Nat):∀ {l:List (List UInt8)},(∀ x∈l,x.length<=k)->(zB b l).length<=l.length*(k+1)
 | [],_=>by simp [zB]
 | [a],h=>by
  have h1:=h a (List.mem_cons_self ..)
  rw [zB];simp only [List.length_cons,List.length_nil];omega
 |a::c::r,h=>by
  have h1:=h a (List.mem_cons_self ..)
  have h2:=jn_most b k (l:=c::r) λx hx=>h x (List.mem_cons_of_mem _ hx)
  rw [zB,List.length_append,List.length_cons,List.length_cons,Nat.add_mul];omega
theorem wT {s:List UInt8}(h:nmL s=true):s.length<=16:=by
 unfold nmL tH at h
 simp only [Bool.and_eq_true,decide_eq_true_eq] at h
 have:=h.1
 rwa [jP] at this
theorem fZ {s:List UInt8}(h:wdL s=true):s.length<=12:=by unfold wdL at h;simp only [Bool.and_eq_true,decide_eq_true_eq] at h;omega
theorem tC {s:List UInt8}(h:kT s=true):s.length<=96:=by
 unfold kT bF at h
 simp only [Bool.and_eq_true,decide_eq_true_eq] at h
 have h1:=h.1
 split at h1
 ·exact absurd h1 (by decide)
 ·omega
theorem pm_short {s:List UInt8}(h:yY s=true):s.length<=96:=by
 unfold yY errM at h
 simp only [Bool.and_eq_true,decide_eq_true_eq] at h
 have h1:=h.1
 split at h1
 ·exact absurd h1 (by decide)
 ·omega
theorem whenT_short {s:List UInt8}(h:yY s=true):(pY s).length<=102:=by
 have:=pm_short h
 unfold pY
 split
 ·simp
 ·simp only [List.length_append,txWhen,List.length_cons,List.length_nil];omega
theorem wish_fine {own:List UInt8}{x:Wt}{al:Bool}(h:qA own x al=0):nmL x.name=true/\kT x.rng=true/\pZ x.fs al=true:=by
 unfold qA at h
 cases h1:nmL x.name
 ·rw [if_pos h1] at h;simp at h
 ·rw [if_neg (by simp [h1])] at h
  split at h
  ·simp at h
  ·cases h2:kT x.rng
   ·rw [if_pos h2] at h;simp at h
   ·rw [if_neg (by simp [h2])] at h
    cases h3:pZ x.fs al
    ·rw [if_pos h3] at h;simp at h
    ·exact ⟨rfl,rfl,rfl⟩
theorem wishT_short {own:List UInt8}{x:Wt}{al:Bool}(h:qA own x al=0):(vW x).length<=250:=by
 obtain ⟨h1,h2,h3⟩:=wish_fine h
 have k1:=wT h1
 have k2:=tC h2
 have k3:(dX x.fs).length<=79:=by
  unfold pZ at h3
  simp only [Bool.and_eq_true,decide_eq_true_eq,List.all_eq_true] at h3
  unfold dX
  split
  ·simp
  ·have:=jn_most 44 12 (l:=x.fs) λs hs=>fZ (h3.1.1.1 s hs)
   have:=h3.1.1.2;omega
 have k4:(fU x.bare).length=4:=by unfold fU;cases x.bare<;>rfl
 unfold vW
 simp only [List.length_append,txAny,List.length_cons,List.length_nil];omega
theorem n7 {own:List UInt8}{n:Nt}(h:gE own n=0):n.any≠[]/\n.any.length<=3/\(∀ x∈n.any,qA own x (decide (n.any.length=1))=0)/\yY n.wh=true/\(n.opt=[]\/wdL n.opt=true):=by
 unfold gE at h
 by_cases h1:n.any=[]
 ·rw [if_pos h1] at h;simp at h
 ·rw [if_neg h1] at h
  by_cases h2:3<n.any.length
  ·rw [if_pos h2] at h;simp at h
  ·rw [if_neg h2] at h
   by_cases h3:yN (λx=>qA own x (decide (n.any.length=1))) n.any=0
   ·rw [if_neg (by simp [h3])] at h
    cases h4:yY n.wh
    ·rw [if_pos h4] at h;simp at h
    ·rw [if_neg (by simp [h4])] at h
     refine ⟨h1,by omega,firstE_zero h3,rfl, ?_⟩
     by_cases h5:n.opt=[]
     ·exact .inl h5
     ·cases h6:wdL n.opt
      ·rw [if_pos ⟨h5,h6⟩] at h;simp at h
      ·exact .inr rfl
   ·rw [if_pos h3] at h;exact absurd h h3
theorem needT_short {own:List UInt8}{n:Nt}(h:gE own n=0):(gP n).length<=900:=by
 obtain ⟨_,h2,h3,h4,h5⟩:=n7 h
 have k1:=bQ vW 250 (l:=n.any) λx hx=>wishT_short (h3 x hx)
 have k2:=whenT_short h4
 have k3:(optnT n.opt).length<=20:=by
  unfold optnT
  split
  ·simp
  ·rcases h5 with e|e
   ·contradiction
   ·have:=fZ e
    simp only [List.length_append,txOpt,List.length_cons,List.length_nil];omega
 unfold gP
 simp only [List.length_append,txNeed,List.length_cons,List.length_nil];omega
theorem bar_fine {own:List UInt8}{b:Bt}(h:jZ own b=0):nmL b.name=true/\kT b.rng=true/\yY b.wh=true:=by
 unfold jZ at h
 cases h1:nmL b.name
 ·rw [if_pos h1] at h;simp at h
 ·rw [if_neg (by simp [h1])] at h
  split at h
  ·simp at h
  ·cases h2:kT b.rng
   ·rw [if_pos h2] at h;simp at h
   ·rw [if_neg (by simp [h2])] at h
    cases h3:yY b.wh
    ·rw [if_pos h3] at h;simp at h
    ·exact ⟨rfl,rfl,rfl⟩
theorem barT_short {own:List UInt8}{b:Bt}(h:jZ own b=0):(bG b).length<=300:=by
 obtain ⟨h1,h2,h3⟩:=bar_fine h
 have k1:=wT h1
 have k2:=tC h2
 have k3:=whenT_short h3
 unfold bG
 simp only [List.length_append,txBar,List.length_cons,List.length_nil];omega
theorem pD {r:Rt}(h:(vF r).1=0):(∀ n∈r.needs,gE r.name n=0)/\(∀ b∈r.bars,jZ r.name b=0)/\bZ r.fts=true∧∀ f∈r.fts,yN (kJ r.needs) f.of=0:=by
 unfold vF at h
 by_cases h1:(xF (gE r.name) 0 r.needs).1=0
 ·rw [if_neg (by simp [h1])] at h
  by_cases h2:(xF (jZ r.name) 0 r.bars).1=0
  ·rw [if_neg (by simp [h2])] at h
   cases h3:bZ r.fts
   ·rw [if_pos h3] at h;simp at h
   ·rw [if_neg (by simp [h3])] at h
    exact ⟨bR h1,bR h2,rfl,bR h⟩
  ·rw [if_pos h2] at h;exact absurd h h2
 ·rw [if_pos h1] at h;exact absurd h h1
theorem rec_small {r:Rt}(hn:r.name.length<=1000000)(hv:r.ver.print.length<=3000000)(h8:r.needs.length<=8)(hb8:r.bars.length<=8)(hp:(vF r).1=0)(hf:∀ f∈r.fts,∀ s∈f.of,s.length<=1000000):(g6 r).length<=100000000:=by
 obtain ⟨h1,h2,h3,_⟩:=pD hp
 unfold bZ at h3
 simp only [Bool.and_eq_true,decide_eq_true_eq,List.all_eq_true] at h3
 have k1:=bQ gP 900 (l:=r.needs) λn hx=>needT_short (h1 n hx)
 have k2:=bQ bG 300 (l:=r.bars) λn hx=>barT_short (h2 n hx)
 have k3:=bQ gR 9000000 (l:=r.fts) λf hx=>by
  have e1:=h3.2 f hx
  unfold gV at e1
  simp only [Bool.and_eq_true,decide_eq_true_eq] at e1
  have e2:=jn_most 32 1000000 (l:=qB::f.name::f.of) λs hs=>by
   rcases List.mem_cons.1 hs with rfl|hs
   ·decide
   ·rcases List.mem_cons.1 hs with rfl|hs
    ·have:=fZ (h3.1.1.2 f hx);omega
    ·exact hf f hx s hs
  unfold gR
  simp only [List.length_append,List.length_cons,List.length_nil] at e2 ⊢
  have:=e1.1.1;omega
 have k4:=h3.1.1.1
 unfold g6 jR
 simp only [List.length_append,txPack,List.length_cons,List.length_nil];omega
theorem qN {r:Rt}(h:(zX r).1=0):nmL r.name=true/\r.ver.may=true/\r.needs.length<=8/\r.bars.length<=8/\(vF r).1=0/\(g6 r).length<=4096:=by
 unfold zX at h
 cases h1:nmL r.name
 ·rw [if_pos h1] at h;simp at h
 ·rw [if_neg (by simp [h1])] at h
  cases h2:r.ver.may
  ·rw [if_pos h2] at h;simp at h
  ·rw [if_neg (by simp [h2])] at h
   by_cases h3:8<r.needs.length\/8<r.bars.length
   ·rw [if_pos h3] at h;simp at h
   ·rw [if_neg h3] at h
    by_cases h4:(vF r).1=0
    ·rw [if_neg (by simp [h4])] at h
     by_cases h5:4096<(g6 r).length
     ·rw [if_pos h5] at h;simp at h
     ·exact ⟨rfl,rfl,by omega,by omega,h4,by omega⟩
    ·rw [if_pos h4] at h;exact absurd h h4
def printR (r:Rt):List UInt8:=if (zX r).1=0 then g6 r else []
end
section
def dK:UInt64:=0xFF51AFD7ED558CCD
def dI:UInt64:=0x9E3779B97F4A7C15
def rot13 (x:UInt64):UInt64:=x<<<13|||x>>>51
def dStep (h:UInt64)(b:UInt8):UInt64:=rot13 (h^^^b.toUInt64)*dK
def dMix (l:List UInt8):UInt64:=l.foldl dStep dI
def dEnd (h:UInt64):UInt64:=h^^^h>>>29
def dSum (l:List UInt8):UInt64:=dEnd (dMix l)
def dBytes (n:UInt64):List UInt8:=([56,48,40,32,24,16,8,0]:List UInt64).map λk=>(n>>>k).toUInt8
def dPair (a b:UInt64):UInt64:=dSum (dBytes a++dBytes b)
def dRoot (l:List UInt64):UInt64:=l.foldl dPair (dSum [])
end
section
def d8 (r:Rt):Int:=if (zX r).1=0 then ((dSum (g6 r)).toNat:Int) else 0
structure Et where
 rc:Rt
 sum:Int
 yk:Bool
deriving DecidableEq
structure Sh where
 name:List UInt8
 es:List Et
deriving DecidableEq
def wU:Sh:=⟨[],[]⟩
def oneV (a v:Ver):Bool:=a.may && v.may && decide (vI a v=0)
def fK (n:List UInt8)(v:Ver)(e:Et):Bool:=decide (e.rc.name=n) && oneV e.rc.ver v
def zO (l:List Et)(n:List UInt8)(v:Ver):Int:=match l.findIdx? (fK n v) with
 |some i=>(i:Int)
 |none=> -1
theorem place_none {l:List Et}{n:List UInt8}{v:Ver}:zO l n v= -1↔∀ e∈l,fK n v e=false:=by
 unfold zO
 rw [←List.findIdx?_eq_none_iff]
 cases h:l.findIdx? (fK n v) with
 |none=>simp
 |some i=>simp
theorem place_at {l:List Et}{n:List UInt8}{v:Ver}{i:Nat}(hi:i<l.length)(h0:∀ e∈l.take i,fK n v e=false)(h1:fK n v l[i]=true):zO l n v=(i:Int):=by
 unfold zO
 have:l.findIdx? (fK n v)=some i:=List.findIdx?_eq_some_iff_getElem.2 ⟨hi,h1,λj hj=>by
  have:=h0 l[j] (List.mem_take_iff_getElem.2 ⟨j,by omega,rfl⟩)
  simp [this]⟩
 rw [this]
theorem place_some {l:List Et}{n:List UInt8}{v:Ver}(h:zO l n v≠ -1):∃ i,∃ hi:i<l.length,zO l n v=(i:Int)/\fK n v l[i]=true∧∀ e∈l.take i,fK n v e=false:=by
 unfold zO at h ⊢
 cases hq:l.findIdx? (fK n v) with
 |none=>rw [hq] at h;exact absurd rfl h
 |some i=>
  obtain ⟨hi,h1,h2⟩:=List.findIdx?_eq_some_iff_getElem.1 hq
  refine ⟨i,hi,rfl,h1,λe he=> ?_⟩
  obtain ⟨j,hj,rfl⟩:=List.mem_take_iff_getElem.1 he
  have:=h2 j Om
  simpa using this
theorem mA (l:List Et)(n:List UInt8)(v:Ver):zO l n v= -1\/0<=zO l n v:=by
 by_cases h:zO l n v= -1
 ·exact .inl h
 ·obtain ⟨i,_,e,_⟩:=place_some h
  exact .inr Om
def okE (e:Et):Prop:=(zX e.rc).1=0/\d8 e.rc=e.sum
structure yR (s:Sh):Prop where
 name:nmL s.name=true
 few:s.es.length<=64
 ok:∀ e∈s.es,okE e
 apart:s.es.Pairwise λa b=>fK b.rc.name b.rc.ver a=false
instance:DecidablePred okE:=λe=>by unfold okE;infer_instance
instance:DecidablePred yR:=λs=>decidable_of_iff (nmL s.name=true/\s.es.length<=64/\(∀ e∈s.es,okE e)/\s.es.Pairwise λa b=>fK b.rc.name b.rc.ver a=false) ⟨λ⟨a,b,c,d⟩=>⟨a,b,c,d⟩,λh=>⟨h.name,h.few,h.ok,h.apart⟩⟩
def vL:List Et->Nat->Bool->List Et
 | [],_,_=>[]
 |e::r,0,on=>{e with yk:=on}::r
 |e::r,i+1,on=>e::vL r i on
theorem mark_is:∀ (l:List Et) (i:Nat) (hi:i<l.length) (on:Bool),vL l i on=l.take i++{l[i] with yk:=on}::l.drop (i+1)
 |e::r,0,_,on=>rfl
 |e::r,i+1,hi,on=>by
  have hi':i<r.length:=by simpa using hi
  show e::vL r i on=_
  rw [mark_is r i hi' on];rfl
def coreE (e:Et):Rt×Int:=(e.rc,e.sum)
theorem n9:∀ (l:List Et) (i:Nat) (on:Bool),(vL l i on).map coreE=l.map coreE
 | [],_,_=>rfl
 |e::r,0,on=>rfl
 |e::r,i+1,on=>by rw [vL,List.map_cons,n9 r i on];rfl
theorem may_core {s t:Sh}(hn:s.name=t.name)(he:s.es.map coreE=t.es.map coreE)(h:yR s):yR t:=by
 have hl:s.es.length=t.es.length:=by have:=congrArg List.length he;simpa using this
 refine ⟨hn▸h.name,by have:=h.few;omega,λe he'=> ?_, ?_⟩
 ·have:coreE e∈s.es.map coreE:=he▸List.mem_map_of_mem he'
  obtain ⟨a,ha,q⟩:=List.mem_map.1 this
  have h1:=h.ok a ha
  have e1:a.rc=e.rc:=congrArg Prod.fst q
  have e2:a.sum=e.sum:=congrArg Prod.snd q
  unfold okE at h1 ⊢
  rw [e1,e2] at h1;exact h1
 ·have key:∀ l:List Et,(l.Pairwise λa b=>fK b.rc.name b.rc.ver a=false)↔(l.map coreE).Pairwise λa b=>(decide (a.1.name=b.1.name) && oneV a.1.ver b.1.ver)=false:=λl=>by
   rw [List.pairwise_map];rfl
  rw [key,←he,←key];exact h.apart
theorem mark_may {s:Sh}{i:Nat}{on:Bool}(h:yR s):yR ⟨s.name,vL s.es i on⟩:=may_core (s:=s) rfl (n9 s.es i on).symm h
theorem put_may {s:Sh}{r:Rt}(h:yR s)(hr:(zX r).1=0)(hp:zO s.es r.name r.ver= -1)(hl:s.es.length<64):yR ⟨s.name,s.es++[⟨r,d8 r,false⟩]⟩:=by
 refine ⟨h.name,by rw [List.length_append,List.length_singleton];omega,λe he=> ?_, ?_⟩
 ·rcases List.mem_append.1 he with he|he
  ·exact h.ok e he
  ·rw [List.mem_singleton.1 he];exact ⟨hr,rfl⟩
 ·rw [List.pairwise_append]
  refine ⟨h.apart,List.pairwise_singleton _ _,λa ha b hb=> ?_⟩
  rw [List.mem_singleton.1 hb]
  exact place_none.1 hp a ha
def putS (s:Sh)(r:Rt):Sh×Int:=
 if yR s then if (zX r).1=0 then if zO s.es r.name r.ver= -1 then if s.es.length=64 then (wU,10) else (⟨s.name,s.es++[⟨r,d8 r,false⟩]⟩,0) else (wU,8) else (wU,(zX r).1) else (wU,1)
def yankS (s:Sh)(n:List UInt8)(v:Ver)(on:Bool):Sh×Int:=
 if yR s then if zO s.es n v= -1 then (wU,9) else (⟨s.name,vL s.es (zO s.es n v).toNat on⟩,0) else (wU,1)
def findS (s:Sh)(n:List UInt8)(v:Ver):Int:=if yR s then zO s.es n v else-1
def qO (a b:Sh):Prop:=yR a/\yR b/\a.name=b.name/\a.es.length<=b.es.length/\a.es.map Et.rc=(b.es.take a.es.length).map Et.rc
instance (a b:Sh):Decidable (qO a b):=by unfold qO;infer_instance
theorem mark_rc (l:List Et)(i:Nat)(on:Bool):(vL l i on).map Et.rc=l.map Et.rc:=by
 have:=congrArg (List.map Prod.fst) (n9 l i on)
 rw [List.map_map,List.map_map] at this;exact this
theorem mE (l:List Et)(i:Nat)(on:Bool):(vL l i on).length=l.length:=by
 have:=congrArg List.length (n9 l i on)
 simpa using this
theorem grown_mark {s:Sh}{i:Nat}{on:Bool}(h:yR s):qO s ⟨s.name,vL s.es i on⟩/\qO ⟨s.name,vL s.es i on⟩ s:=by
 refine ⟨⟨h,mark_may h,rfl,by rw [mE];exact Nat.le_refl _, ?_⟩,mark_may h,h,rfl,by rw [mE];exact Nat.le_refl _, ?_⟩
 ·show _=((vL s.es i on).take s.es.length).map Et.rc
  rw [←mE s.es i on,List.take_length,mark_rc]
 ·show (vL s.es i on).map Et.rc=(s.es.take (vL s.es i on).length).map Et.rc
  rw [mE,List.take_length,mark_rc]
theorem grown_put {s:Sh}{r:Rt}(h:yR s)(hr:(zX r).1=0)(hp:zO s.es r.name r.ver= -1)(hl:s.es.length<64):qO s ⟨s.name,s.es++[⟨r,d8 r,false⟩]⟩:=
 ⟨h,put_may h hr hp hl,rfl,by simp,by show _=((s.es++[_]).take s.es.length).map Et.rc;rw [List.take_left'];rfl⟩
theorem grown_nil {s:Sh}{t:Sh}(h:yR s)(h0:s.es=[])(ht:yR t)(hn:s.name=t.name):qO s t:=
 ⟨h,ht,hn,by rw [h0];exact Nat.zero_le _,by rw [h0];rfl⟩
end
section
structure LsO {α:Type}(T:TypeId)(k:Nat)(C:α->List Value)(O:α->List Blk->Prop)(A:Option Addr)(c:Nat)(xs:List α)(o1 o2:List Blk):Prop where
 top:Sl T k (.slice A xs.length c) xs.length (xs.flatMap C) o1
 each:∀ x∈xs,∃ o,O x o∧∀ b∈o,b∈o2
section
variable {α:Type}{T:TypeId}{k:Nat}{C:α->List Value}{O:α->List Blk->Prop}
theorem LsO.nil:LsO T k C O none 0 [] [] []:=⟨Sl.nil _ _,λx h=>by simp at h⟩
theorem LsO.add {A A':Option Addr}{c c':Nat}{xs:List α}{o1 o1' o2 ob:List Blk}{x:α}(h:LsO T k C O A c xs o1 o2)(ht:Sl T k (.slice A' (xs.length+1) c') (xs.length+1) (xs.flatMap C++C x) o1')(hx:O x ob):LsO T k C O A' c' (xs++[x]) o1' (o2++ob):=
 ⟨by rw [List.length_append,List.length_singleton,List.flatMap_append,List.flatMap_singleton];exact ht,λy hy=>by
  rcases List.mem_append.1 hy with hy|hy
  ·obtain ⟨o,h1,h2⟩:=h.each y hy
   exact ⟨o,h1,λb hb=>List.mem_append_left _ (h2 b hb)⟩
  ·rw [List.mem_singleton.1 hy];exact ⟨ob,hx,λb hb=>List.mem_append_right _ hb⟩⟩
end
structure Ev where
 rec':Rv
 sum:Int
 yk:Bool
def evC (x:Ev):List Value:=rvC x.rec'++[.int .u64 x.sum,.bool x.yk]
theorem jE (x:Ev):(evC x).length=11:=rfl
def evV (x:Ev):Value:= .agg #[.string (mkS x.rec'.name),YI x.rec'.maj,YI x.rec'.min,YI x.rec'.pat,.string (mkS x.rec'.pre),.string (mkS x.rec'.bld),.slice x.rec'.nA x.rec'.needs.length x.rec'.nc,.slice x.rec'.bA x.rec'.bars.length x.rec'.bc,.slice x.rec'.fA x.rec'.fts.length x.rec'.fc,.int .u64 x.sum,.bool x.yk]
def Ev.et (x:Ev):Et:=⟨x.rec'.rt,x.sum,x.yk⟩
structure Hv where
 name:List UInt8
 A:Option Addr
 cap:Nat
 es:List Ev
def hvV (x:Hv):Value:= .agg #[.string (mkS x.name),.slice x.A x.es.length x.cap]
def Hv.sh (x:Hv):Sh:=⟨x.name,x.es.map Ev.et⟩
structure EsIn (w:World)(B:Nat)(A:Option Addr)(es:List Ev):Prop where
 top:Reads evC w B A es
 each:∀ e∈es,RcIn w B e.rec'
 n:es.length<=5000
theorem EsIn.on {w w':World}{B B':Nat}{A:Option Addr}{es:List Ev}(h:EsIn w B A es)(hb:Below B w w')(hB:B<=B'):EsIn w' B' A es:=⟨h.top.on hb hB,λe he=>(h.each e he).on hb hB,h.n⟩
structure ShIn (w:World)(B:Nat)(x:Hv):Prop where
 es:EsIn w B x.A x.es
 le:x.es.length<=x.cap
 sn:x.name.length<=1000000
theorem ShIn.on {w w':World}{B B':Nat}{x:Hv}(h:ShIn w B x)(hb:Below B w w')(hB:B<=B'):ShIn w' B' x:=⟨h.es.on hb hB,h.le,h.sn⟩
def ShO (x:Hv)(ob:List Blk):Prop:=∃ o1 o2,ob=o1++o2/\LsO 57 11 evC (λe o=>RecO e.rec' o) x.A x.cap x.es o1 o2
end
section
structure Rs where
 rc:Rt
 st:Int
def nilT:Rt:=⟨[],Ver.zero,[],[],[]⟩
def hD:List UInt8:=[112,97,99,107,97,103,101]
def t6:List UInt8:=[110,101,101,100]
def wAny:List UInt8:=[97,110,121]
def t1:List UInt8:=[119,104,101,110]
def wOpt:List UInt8:=[111,112,116,105,111,110]
def wBar:List UInt8:=[98,97,114]
def noE (l:List (List UInt8)):Bool:=l.all λs=>decide (s≠[])
def restW (s:List UInt8)(k:Nat):Option (List (List UInt8)×List UInt8):=
 if (zF 32 [] s).length<=k then none else if noE ((zF 32 [] s).take k)=false then none else if zB 32 ((zF 32 [] s).drop k)=[] then none else some ((zF 32 [] s).take k,zB 32 ((zF 32 [] s).drop k))
def wB {α:Type}(f:α->α):List α->List α
 | []=>[]
 | [a]=>[f a]
 |a::b::r=>a::wB f (b::r)
def headS (l:List (List UInt8)):Option Rs:=
 if l.length=3/\l.getD 0 []=hD/\l.getD 1 []≠[]/\parE (l.getD 2 [])=0 then some ⟨⟨l.getD 1 [],parV (l.getD 2 []),[],[],[]⟩,1⟩ else none
def anyW (w:List (List UInt8))(t:List UInt8):Wt:=⟨w.getD 1 [],t,if w.getD 2 []=[45] then [] else zF 44 [] (w.getD 2 []),decide (w.getD 3 []=txBare)⟩
def anyS (x:Rs)(s:List UInt8):Option Rs:=match restW s 4 with
 |none=>none
 |some (w,t)=>if x.st=2/\(w.getD 3 []=txBare\/w.getD 3 []=txFull) then some ⟨{x.rc with needs:=wB (λn=>{n with any:=n.any++[anyW w t]}) x.rc.needs},2⟩ else none
def whenS (x:Rs)(s:List UInt8):Option Rs:=match restW s 1 with
 |none=>none
 |some (_,t)=>if x.st=2 then some ⟨{x.rc with needs:=wB (λn=>{n with wh:=t}) x.rc.needs},3⟩ else if x.st=5 then some ⟨{x.rc with bars:=wB (λb=>{b with wh:=t}) x.rc.bars},6⟩ else none
def optS (x:Rs)(l:List (List UInt8)):Option Rs:=
 if l.length=2/\noE l=true/\(x.st=2\/x.st=3) then some ⟨{x.rc with needs:=wB (λn=>{n with opt:=l.getD 1 []}) x.rc.needs},4⟩ else none
def barS (x:Rs)(s:List UInt8):Option Rs:=match restW s 2 with
 |none=>none
 |some (w,t)=>if x.st<=6 then some ⟨{x.rc with bars:=x.rc.bars++[⟨w.getD 1 [],t,[]⟩]},5⟩ else none
def featS (x:Rs)(l:List (List UInt8)):Option Rs:=
 if 2<=l.length/\noE l=true then some ⟨{x.rc with fts:=x.rc.fts++[⟨l.getD 1 [],l.drop 2⟩]},7⟩ else none
def needS (x:Rs)(l:List (List UInt8)):Option Rs:=if l.length=1/\x.st<5 then some ⟨{x.rc with needs:=x.rc.needs++[⟨[],[],[]⟩]},2⟩ else none
def lineS (x:Rs)(s:List UInt8):Option Rs:=
 if x.st=0 then headS (zF 32 [] s)
 else if (zF 32 [] s).getD 0 []=t6 then needS x (zF 32 [] s)
 else if (zF 32 [] s).getD 0 []=wAny then anyS x s
 else if (zF 32 [] s).getD 0 []=t1 then whenS x s
 else if (zF 32 [] s).getD 0 []=wOpt then optS x (zF 32 [] s)
 else if (zF 32 [] s).getD 0 []=wBar then barS x s
 else if (zF 32 [] s).getD 0 []=qB then featS x (zF 32 [] s)
 else none
def runS:Rs->List (List UInt8)->Option Rs
 |x,[]=>some x
 |x,s::r=>match lineS x s with
  |some y=>runS y r
  |none=>none
def badS:Rs->Nat->List (List UInt8)->Int
 |_,_,[]=>0
 |x,k,s::r=>match lineS x s with
  |some y=>badS y (k+1) r
  |none=>((k+1:Nat):Int)
def linesOf (s:List UInt8):List (List UInt8)×Bool:=if (zF 10 [] s).getLast?=some [] then ((zF 10 [] s).dropLast,true) else (zF 10 [] s,false)
def doneS (x:Rs):Rt×Int×Int:=if x.st=0 then (nilT,2,1) else if (zX x.rc).1≠0 then (nilT,(zX x.rc).1,0) else (x.rc,0,0)
def readT (s:List UInt8):Rt×Int×Int:=
 if 4096<s.length then (nilT,3,0)
 else match runS ⟨nilT,0⟩ (zF 10 [] s).dropLast with
  |none=>(nilT,2,badS ⟨nilT,0⟩ 0 (zF 10 [] s).dropLast)
  |some x=>if (zF 10 [] s).getLast?=some [] then doneS x else (nilT,2,((zF 10 [] s).length:Int))
def headL (r:Rt):List UInt8:=zB 32 [hD,r.name,r.ver.print]
def wishL (x:Wt):List UInt8:=zB 32 [wAny,x.name,dX x.fs,fU x.bare,x.rng]
def whenL (s:List UInt8):List (List UInt8):=if s=[] then [] else [zB 32 [t1,s]]
def optnL (s:List UInt8):List (List UInt8):=if s=[] then [] else [zB 32 [wOpt,s]]
def needLs (n:Nt):List (List UInt8):=t6::(n.any.map wishL++whenL n.wh++optnL n.opt)
def barLs (b:Bt):List (List UInt8):=zB 32 [wBar,b.name,b.rng]::whenL b.wh
def featL (f:Ft):List UInt8:=zB 32 (qB::f.name::f.of)
def recLs (r:Rt):List (List UInt8):=headL r::(r.needs.flatMap needLs++r.bars.flatMap barLs++r.fts.map featL)
def unL (l:List (List UInt8)):List UInt8:=l.flatMap λs=>s++[10]
theorem wishL_text (x:Wt):wishL x++[10]=vW x:=by
 unfold wishL vW
 simp only [zB,wAny,txAny,List.append_assoc,List.cons_append,List.nil_append]
end
section
end
section
end
section
def pcsB (b:UInt8):Nat->List UInt8->List (List UInt8)
 |0,s=>[s]
 |k+1,s=>if (z7 b s).2.2 then (z7 b s).1::pcsB b k (z7 b s).2.1 else [s]
structure La where
 kind:Nat
 word:List UInt8
 lo:Nat
 hi:Nat
 parts:Nat
 opn:Bool
 more:Bool
deriving DecidableEq
def lays:List La:=[⟨1,hD,0,0,3,false,false⟩,⟨2,t6,1,5,1,false,false⟩,⟨3,wAny,2,3,5,true,false⟩,⟨4,t1,2,3,2,true,false⟩,⟨5,wOpt,2,4,2,false,false⟩,⟨6,wBar,1,7,3,true,false⟩,⟨7,t1,6,6,2,true,false⟩,⟨8,qB,1,8,2,false,true⟩]
def laPs (l:La)(s:List UInt8):List (List UInt8):=if l.opn then pcsB 32 (l.parts-1) s else zF 32 [] s
def laOk (l:La)(s:List UInt8):Bool:=(decide ((laPs l s).length=l.parts)||(l.more && decide (l.parts<(laPs l s).length))) && decide ((laPs l s).getD 0 []=l.word) && noE (laPs l s)
def addA (x:Rt)(kind:Nat)(p:List (List UInt8)):Rt×Bool:=
 match kind with
 |1=>({x with name:=p.getD 1 [],ver:=parV (p.getD 2 [])},decide (parE (p.getD 2 [])=0))
 |2=>({x with needs:=x.needs++[⟨[],[],[]⟩]},true)
 |3=>({x with needs:=wB (λn=>{n with any:=n.any++[anyW p (p.getD 4 [])]}) x.needs},decide (p.getD 3 []=txBare)||decide (p.getD 3 []=txFull))
 |4=>({x with needs:=wB (λn=>{n with wh:=p.getD 1 []}) x.needs},true)
 |5=>({x with needs:=wB (λn=>{n with opt:=p.getD 1 []}) x.needs},true)
 |6=>({x with bars:=x.bars++[⟨p.getD 1 [],p.getD 2 [],[]⟩]},true)
 |7=>({x with bars:=wB (λb=>{b with wh:=p.getD 1 []}) x.bars},true)
 |8=>({x with fts:=x.fts++[⟨p.getD 1 [],p.drop 2⟩]},true)
 |_=>(x,true)
def takeIn (x:Rt)(last:Nat)(s:List UInt8):List La->Option (Rt×Nat)
 | []=>none
 |l::r=>if l.lo<=last/\last<=l.hi/\laOk l s=true then (if (addA x l.kind (laPs l s)).2 then some ((addA x l.kind (laPs l s)).1,l.kind) else none) else takeIn x last s r
def stg:Nat->Int
 |0=>0|1=>1|2=>2|3=>2|4=>3|5=>4|6=>5|7=>6|_=>7
structure InvA (x:Rt)(k:Nat):Prop where
 le:k<=8
 z:k=0->x=nilT
 n:2<=k->k<=5->x.needs≠[]
 b:6<=k->k<=7->x.bars≠[]
abbrev fitA (l:La)(last:Nat)(s:List UInt8):Prop:=l.lo<=last/\last<=l.hi/\laOk l s=true
def outA (x:Rt)(s:List UInt8)(l:La):Option (Rt×Nat):=if (addA x l.kind (laPs l s)).2 then some ((addA x l.kind (laPs l s)).1,l.kind) else none
def SameA (a:Option (Rt×Nat))(b:Option Rs):Prop:=match a,b with
 |none,none=>True
 |some (x,k),some y=>y=⟨x,stg k⟩/\InvA x k
 |_,_=>False
end
section
def flatC:List Sp->List Cu
 | []=>[]
 |s::l=>s.lo::s.hi::flatC l
def altRel (a:List Co):List Sp:=a.foldl (λl c=>andL l c.region) wholeL
def altZone (a:List Co):List Sp:=a.foldl (λl c=>orL l c.zone) []
def altSet (a:List Co):St:=⟨makeRel (altRel a),andL (altRel a) (altZone a)⟩
def orAll (r:List (List Co)):St:=r.foldl (λs a=>orT s (altSet a)) noneT
def rgSet (r:List (List Co)):St:=if rgMay r then orAll r else noneT
end
end Go.Proofs.YteghandhpbmpgaaGreatDoor
