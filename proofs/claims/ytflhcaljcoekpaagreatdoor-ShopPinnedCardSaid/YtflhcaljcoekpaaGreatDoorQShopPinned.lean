/-
 ShopPinned: for every input the call returns true, and each argument reads afterwards as it read before. Conditions: none but the row's own, that the listed package-level variables read as the program's text lays them.
-/
import Derived.Test.YtflhcaljcoekpaaGreatDoorCards
import Derived.Test.YtflhcaljcoekpaaGreatDoorTie
import Derived.Test.YtflhcaljcoekpaaGreatDoorSH6

section
/-
 Chapter 15: a shelf more at the end (ShopLater), a pin to where a package comes from anyway (ShopPinned). Condition: what the package leans on lies as the text lays it.
-/
namespace Go.Proofs.YtflhcaljcoekpaaGreatDoor
open Go.RowKit
set_option maxRecDepth 100000
set_option linter.unusedVariables false
set_option linter.unusedSimpArgs false
set_option linter.unnecessarySimpa false
set_option maxHeartbeats 8000000

/-- What List returns, in one form. -/
theorem kB {xs:List Hv}{ps:List Pn}{n:YL}{v:Value}{ob:List Blk}(h:wG xs ps n v ob):∃ (a:Int) (z:Int) (t:List Nat) (A:Option Addr) (c:Nat),v= .tuple #[YI a,.slice A t.length c,YI z]/\Sl 3 1 (.slice A t.length c) t.length (t.map qW) ob/\((z≠0/\z=(x1 (shs xs) ps n).2/\t=[])∨∃ i,∃ hi:i<xs.length,x1 (shs xs) ps n=((i:Int),0)/\a=(i:Int)/\z=0/\wF xs[i].sh n t):=by
 rcases h with ⟨h0,rfl,rfl⟩|⟨i,hi,e,u,t,rfl,hS,hL⟩
 ·exact ⟨0,_,[],none,0,rfl,Sl.nil _ _,.inl ⟨h0,rfl,rfl⟩⟩
 ·obtain ⟨A,c,rfl⟩:=Sl.form hS
  exact ⟨(i:Int),0,t,A,c,rfl,hS,.inr ⟨i,hi,e,rfl,rfl,hL⟩⟩
theorem fC {s:Sh}(hM:yT s){n:YL}{t:List Nat}(h:wF s n t):t.length<=5000:=by
 have h1:=h.1.length_eq
 have h2:=pN (l:=s.es) (n:=n) s.es.length
 have h3:=hM.few
 omega
theorem qP {v:Option Addr}{c:Nat}{t:List Nat}{ob L:List Blk}{M:List Nat}{W w:World}(h:Sl 3 1 (.slice v t.length c) t.length (t.map qW) ob)(hO:Own M W w L)(hs:∀ b∈ob,b∈L):Reads (λi=>[qW i]) w w.heap.size v t:=
 Sl.reads (g:=λi=>[qW i]) (by rw [←List.map_eq_flatMap];exact h) rfl hO hs
theorem shs_app (xs:List Hv)(z:Hv):shs (xs++[z])=shs xs++[z.sh]:=by simp [shs]
/-- One more at the end. -/
theorem may_more {xs:List Hv}{z:Hv}(h:qS (shs xs)=true)(hl:xs.length<4)(hz:yT z.sh)(hd:xs.Pairwise λa b=>a.name≠b.name)(hn:∀ x∈xs,x.name≠z.name):qS (shs (xs++[z]))=true:=
 may_of (by rw [List.length_append,List.length_singleton];omega) (λx hx=>by
  rcases List.mem_append.1 hx with hx|hx
  ·exact fU h x hx
  ·rw [List.mem_singleton.1 hx];exact hz) (by
  rw [List.pairwise_append]
  exact ⟨hd,List.pairwise_singleton _ _,λa ha b hb=>by rw [List.mem_singleton.1 hb];exact hn a ha⟩)
theorem shopLater.law (v:Value)(l:List Int)(vm:Value)(m:List Int)(own:Int)(W:World)(hv:ReadsI W W.heap.size v l)(hl:l.length<=9223372036854775807)(hvm:ReadsI W W.heap.size vm m)(hlm:m.length<=9223372036854775807)(hK:RecLib W):YC 9 #[v,vm,YI own] W (YR (.bool true) W):=by
 obtain ⟨k,hk5,cN⟩:=fT own
 refine z8 Tryz.func9 (y8 (k:=30) (args:= #[v,YI 0]) (R:=λv' ob=>∃ A c xs o1 o2,v'= .slice A xs.length c/\ob=o1++o2/\ShopG A c xs o1 o2) [] (λw hO=>p3 v l w ((hv.below hO.below).more hO.below.size) hl) ?_)
 rintro _ _ ⟨A,c,xs,o1,o2,rfl,rfl,hG⟩
 obtain ⟨hGo,hGm,hG2,hGn,hGd⟩:=hG
 have hMx:=fU hGm
 have hin:∀ w L,Own [] W w L->(∀ b∈o1++o2,b∈L)->HsIn w w.heap.size A xs:=λw L hO hs=>ls_in hGo hMx Om hO hs
 have each2:∀ x∈xs,∃ o,ShO x o∧∀ b∈o,b∈o1++o2:=λx hx=>by
  obtain ⟨o,h1,h2⟩:=hGo.each x hx
  exact ⟨o,h1,λb hb=>List.mem_append_right _ (h2 b hb)⟩
 generalize o1++o2=ob at*
 clear hGo
 generalize zW k=nm at*
 refine z6 (v:= .string (mkS nm)) [] (λw hO=>cN w) (y8 (k:=25) (args:= #[.slice A xs.length c,.slice none 0 0,.string (mkS nm)]) (R:=wG xs [] nm) [] (λw hO=>by
  have h1:=hO.past 0 ob
  clear hO
  exact kJ A none c 0 xs [] nm w (hin w ob h1 λb h=>h) (mV w) (hK.on h1.below)) ?_)
 rintro _ ob1 hL1
 obtain ⟨a1,z1,t1,A1,c1,rfl,hS1,hP1⟩:=kB hL1
 clear hL1
 refine x_appR (g:=hvC) (T:=24) (k:=0) (v:= .slice none 0 0) (xs:=[]) [] xs [] [] (ob++ob1) (ob++ob1) (cp:=c) (λw hO=>hO) wC hvC_one (λw hO=>(hin w _ hO λb hb=>List.mem_append_right _ (List.mem_append_left _ hb)).top) (Sl.nil _ _) Om λv2 ob2 hS2=>(y8 (k:=15) (args:= #[vm,YI ((0:Nat):Int),.string (mkS jM),YI ((4:Nat):Int)]) (R:=λv ob=>∃ y o1 o2,v=hvV y/\ob=o1++o2/\MadeN jM y o1 o2/\y.es.length<=4) [] (λw hO=>bP vm m 0 jM 4 w ((hvm.below hO.below).more hO.below.size) hlm (by decide) (by decide) zooN_ok) ?_)
 rintro _ _ ⟨z,p1,p2,rfl,rfl,hZ,_⟩
 have hzO:=hZ.sho
 have hzM:=hZ.may
 have hzN:=hZ.name
 clear hZ
 generalize p1++p2=p at*
 refine kP [] 1 24 #[.string (mkS z.name),.slice z.A z.es.length z.cap] λbz=>(x_app (T:=24) (sz:=2) (m:=1) (cp:=1) [] [hvB bz z] ob2 ((ob++ob1)++p) 0 (hvB bz z::(ob2++(ob++ob1)++p)) (λw hO=>hO.cast (by simp)) hS2 Om λv3 ob3 hS3=> ?_)
 obtain ⟨A3,c3,rfl⟩:=Sl.form hS3
 have hlen:0+xs.length+1=(xs++[z]).length:=by rw [List.length_append,List.length_singleton];omega
 have hTop:Sl 24 2 (.slice A3 (xs++[z]).length c3) (xs++[z]).length ((xs++[z]).flatMap hvC) ob3:=by
  rw [hlen] at hS3
  exact Sl.to hS3 rfl (by rw [List.flatMap_append,List.flatMap_singleton,List.nil_append];rfl)
 have hM2:qS (shs (xs++[z]))=true:=may_more hGm Om hzM hGd λx hx=>by
  rw [hzN]
  rcases hGn x hx with h|h<;>rw [h]<;>decide
 have hin2:∀ w,Own [] W w (ob3++((ob++ob1)++p))->HsIn w w.heap.size A3 (xs++[z]):=λw hO=>⟨Sl.reads hTop rfl hO λb hb=>List.mem_append_left _ hb,λx hx=>by
  rcases List.mem_append.1 hx with hx|hx
  ·obtain ⟨o,h1,h2⟩:=each2 x hx
   exact h1.inn hO (λb hb=>List.mem_append_right _ (List.mem_append_left _ (List.mem_append_left _ (h2 b hb)))) (hMx x hx)
  ·rw [List.mem_singleton.1 hx]
   exact hzO.inn hO (λb hb=>List.mem_append_right _ (List.mem_append_right _ hb)) hzM,by rw [List.length_append,List.length_singleton];omega⟩
 refine vR 12 [] (.slice A3 (0+xs.length+1) c3) (.slice A3 (xs++[z]).length c3) (by rw [hlen]) ?_
 refine y8 (k:=25) (args:= #[.slice A3 (xs++[z]).length c3,.slice none 0 0,.string (mkS nm)]) (R:=wG (xs++[z]) [] nm) [] (λw hO=>by
  have h1:=hO.past 1 (ob3++((ob++ob1)++p))
  clear hO
  exact kJ A3 none c3 0 (xs++[z]) [] nm w (hin2 w h1) (mV w) (hK.on h1.below)) ?_
 rintro _ ob4 hL4
 obtain ⟨a4,z4,t4,A4,c4,rfl,hS4,hP4⟩:=kB hL4
 clear hL4
 rw [vV hGm] at hP1
 rw [vV hM2,shs_app] at hP4
 rcases hP1 with ⟨h0,rfl,rfl⟩|⟨i,hi,e1,rfl,rfl,hLS1⟩
 ·have e1:dG (shs xs) nm=(0,9):=by
   rcases tL (l:=shs xs) (n:=nm) with ⟨e,_⟩|⟨j,_,e,_⟩
   ·exact e
   ·rw [e] at h0;exact absurd rfl h0
  rw [e1]
  refine z6 (v:= .bool true) [] (λw hO=>kW w (hK.on hO.below)) ?_
  rcases has_more z.sh e1 with e4|e4
  ·rw [e4] at hP4
   rcases hP4 with ⟨_,rfl,rfl⟩|⟨j,_,e,_⟩
   ·exact z7 [] Z4 λw hO=>⟨rfl,hO.below⟩
   ·exact absurd (congrArg Prod.snd e) (by show ¬ (9:Int)=0;decide)
  ·rw [e4,List.length_map] at hP4
   rcases hP4 with ⟨h,rfl,_⟩|⟨j,_,e,rfl,rfl,_⟩
   ·exact absurd rfl h
   ·have ej:(xs.length:Int)=(j:Int):=congrArg Prod.fst e
    refine tZ 57 [] ((j:Int)=(xs.length:Int)) ej.symm (z7 [] Z4 λw hO=>⟨rfl,hO.below⟩)
 ·have e4:=has_add z.sh e1
  rw [e4] at hP4
  rcases hP4 with ⟨h,rfl,_⟩|⟨j,hj,e,rfl,rfl,hLS4⟩
  ·exact absurd rfl h
  obtain rfl:i=j:=by have:(i:Int)=(j:Int):=congrArg Prod.fst e;omega
  have hLS4':wF xs[i].sh nm t4:=by rw [List.getElem_append_left hi] at hLS4;exact hLS4
  obtain rfl:=bC (hMx _ (List.getElem_mem hi)) hLS1 hLS4'
  have hn:=fC (hMx _ (List.getElem_mem hi)) hLS1
  refine z6 (v:= .bool true) [] (λw hO=>kW w (hK.on hO.below)) (tZ 69 [] ((i:Int)=(i:Int)) rfl ?_)
  exact z6 (v:= .bool true) [] (λw hO=>by
   have hO':=hO.past 1 (ob3++((ob++ob1)++p)++ob4)
   clear hO
   exact vD A1 A4 c1 c4 t1 w (qP hS1 hO' λb hb=>List.mem_append_left _ (List.mem_append_right _ (List.mem_append_left _ (List.mem_append_right _ hb)))) (qP hS4 hO' λb hb=>List.mem_append_right _ hb) hn) (z7 [] Z4 λw hO=>⟨rfl,hO.below⟩)
theorem less_mk {s:YL}(h:nmL s=true):Op.bytesLess [] s=true:=fD λe=>by
 rw [e,show nmL []=false from by kernel_rfl] at h;cases h
theorem pE {a b:YL}(ha:nmL a=true)(hb:nmL b=true):mayP [⟨a,b⟩]=true:=by
 refine pB λj hj=> ?_
 obtain rfl:j=0:=by have:j<1:=hj;omega
 show (nmL a && nmL b && Op.bytesLess (yW [a] 0) a)=true
 rw [ha,hb,show yW [a] 0=[] from rfl,less_mk ha];rfl
theorem shopPinned.law (v:Value)(l:List Int)(own:Int)(W:World)(hv:ReadsI W W.heap.size v l)(hl:l.length<=9223372036854775807)(hK:RecLib W):YC 10 #[v,YI own] W (YR (.bool true) W):=by
 obtain ⟨k,hk5,cN⟩:=fT own
 refine z8 Tryz.func10 (y8 (k:=30) (args:= #[v,YI 0]) (R:=λv' ob=>∃ A c xs o1 o2,v'= .slice A xs.length c/\ob=o1++o2/\ShopG A c xs o1 o2) [] (λw hO=>p3 v l w ((hv.below hO.below).more hO.below.size) hl) ?_)
 rintro _ _ ⟨A,c,xs,o1,o2,rfl,rfl,hG⟩
 obtain ⟨hGo,hGm,hG2,hGn,hGd⟩:=hG
 have hMx:=fU hGm
 have hin:∀ w L,Own [] W w L->(∀ b∈o1++o2,b∈L)->HsIn w w.heap.size A xs:=λw L hO hs=>ls_in hGo hMx Om hO hs
 generalize o1++o2=ob at*
 have hGt:=hGo.top
 clear hGo
 have hnm:=f7 k
 have hzoo:zW k≠jM:=by
  rcases k with _|_|_|_|_|k
  iterate 5 decide
  omega
 generalize zW k=nm at*
 refine z6 (v:= .string (mkS nm)) [] (λw hO=>cN w) (y8 (k:=25) (args:= #[.slice A xs.length c,.slice none 0 0,.string (mkS nm)]) (R:=wG xs [] nm) [] (λw hO=>by
  have h1:=hO.past 0 ob
  clear hO
  exact kJ A none c 0 xs [] nm w (hin w ob h1 λb h=>h) (mV w) (hK.on h1.below)) ?_)
 rintro _ ob1 hL1
 obtain ⟨a1,z1,t1,A1,c1,rfl,hS1,hP1⟩:=kB hL1
 clear hL1
 rw [vV hGm] at hP1
 rcases hP1 with ⟨h0,rfl,rfl⟩|⟨i,hi,e1,rfl,rfl,hLS1⟩
 ·have e1:dG (shs xs) nm=(0,9):=by
   rcases tL (l:=shs xs) (n:=nm) with ⟨e,_⟩|⟨j,_,e,_⟩
   ·exact e
   ·rw [e] at h0;exact absurd rfl h0
  rw [e1]
  exact z6 (v:= .bool true) [] (λw hO=>kW w (hK.on hO.below)) (z7 [] Z4 λw hO=>⟨rfl,hO.below⟩)
 have hMi:=hMx _ (List.getElem_mem hi)
 have hni:nmL xs[i].name=true:=hMi.name
 have hle:∃ b off,A=some ⟨b,off,none⟩∧∀ w,Own [] W w (ob++ob1)->(loadVar 9 ⟨b,off+i*2+0,none⟩).run YP w= .ok (.string (mkS xs[i].name)) w:=by
  obtain ⟨g,cur,q1,_⟩:=Sl.block hGt Om
  refine ⟨g,0,q1,λw hO=> ?_⟩
  obtain ⟨b,off,e,hel⟩:=(hin w _ hO λb hb=>List.mem_append_left _ hb).top.elem wC i hi
  rw [q1] at e
  simp only [Option.some.injEq,Addr.mk.injEq] at e
  obtain ⟨rfl,rfl,_⟩:=e
  exact hel w (Below.refl _ _) _ 0 _ Kr
 obtain ⟨eb,eo,hA,hel⟩:=hle
 have hn:=fC hMi hLS1
 have h1:x1 (shs xs) [⟨nm,xs[i].name⟩] nm=((i:Int),0):=by
  unfold x1
  rw [if_pos hGm,if_pos (pE hnm hni),show pinI [⟨nm,xs[i].name⟩] nm=(((0:Nat):Int),0) from jW (i:=0) (by simp) (λx hx=>by simp at hx) (by simp),if_pos rfl]
  have:=(pL hGm (i:=i) (by rw [List.length_map];exact hi)).2
  rw [List.getElem_map] at this;exact this
 have h2:x1 (shs xs) [⟨jM,[110,111,110,101]⟩] nm=((i:Int),0):=by
  unfold x1
  rw [if_pos hGm,if_pos (pE zooN_ok Kr),show pinI [⟨jM,[110,111,110,101]⟩] nm=(0,9) from jV λx hx=>by rw [List.mem_singleton.1 hx];exact decide_eq_false λq=>hzoo q.symm,if_neg (by decide)]
  exact e1
 have hsh:=kQ hni
 obtain ⟨sn,hsn⟩:∃ sn,xs[i].name=sn:=⟨_,rfl⟩
 rw [hsn] at hel h1
 have hsh:sn.length<=1000000:=by rw [←hsn];exact Nat.le_trans hsh (by decide)
 have hnl:nm.length<=1000000:=Nat.le_trans (kQ hnm) (by decide)
 refine zD 31 [] ((i:Int)<0) (λh=>absurd h Om) (λ_=>zD 37 [] ((i:Int)>=(xs.length:Int)) (λh=>absurd h Om) (λ_=> ?_))
 refine zN 49 [] hA xs.length c i 2 hi (zJ 51 [] 9 eb (eo+i*2+0) (.string (mkS sn)) (λw hO=>by
  have h1:=hO.past 0 (ob++ob1)
  clear hO
  exact hel w h1) (kP [] 1 66 #[.string (mkS nm),.string (mkS sn)] λbp=> ?_))
 refine y8 (k:=25) (args:= #[.slice A xs.length c,.slice (some ⟨bp,0,none⟩) 1 1,.string (mkS nm)]) (R:=wG xs [⟨nm,sn⟩] nm) [] (λw hO=>by
  have h1:=hO.past 1 (ob++ob1)
  have h2:=(hO.nth 0 ⟨bp, #[.string (mkS nm),.string (mkS sn)],66⟩).get (i:=0) rfl
  clear hO
  exact kJ A (some ⟨bp,0,none⟩) c 1 xs [⟨nm,sn⟩] nm w (hin w _ h1 λb hb=>List.mem_append_left _ hb) (ps_one ⟨nm,sn⟩ hnl hsh h2) (hK.on h1.below)) ?_
 rintro _ ob2 hL2
 obtain ⟨a2,z2,t2,A2,c2,rfl,hS2,hP2⟩:=kB hL2
 clear hL2
 rw [h1] at hP2
 rcases hP2 with ⟨h,rfl,_⟩|⟨j,hj,e,rfl,rfl,hLS2⟩
 ·exact absurd rfl h
 obtain rfl:i=j:=by have:(i:Int)=(j:Int):=congrArg Prod.fst e;omega
 obtain rfl:=bC hMi hLS1 hLS2
 refine kP [] 1 66 #[.string (mkS jM),.string (mkS [110,111,110,101])] λbq=> ?_
 refine y8 (k:=25) (args:= #[.slice A xs.length c,.slice (some ⟨bq,0,none⟩) 1 1,.string (mkS nm)]) (R:=wG xs [⟨jM,[110,111,110,101]⟩] nm) [] (λw hO=>by
  have h1:=hO.past 2 ((ob++ob1)++ob2)
  have h2:=(hO.nth 0 ⟨bq, #[.string (mkS jM),.string (mkS [110,111,110,101])],66⟩).get (i:=0) rfl
  clear hO
  exact kJ A (some ⟨bq,0,none⟩) c 1 xs [⟨jM,[110,111,110,101]⟩] nm w (hin w _ h1 λb hb=>List.mem_append_left _ (List.mem_append_left _ hb)) (ps_one ⟨jM,[110,111,110,101]⟩ (by decide) (by decide) h2) (hK.on h1.below)) ?_
 rintro _ ob3 hL3
 obtain ⟨a3,z3,t3,A3,c3,rfl,hS3,hP3⟩:=kB hL3
 clear hL3
 rw [h2] at hP3
 rcases hP3 with ⟨h,rfl,_⟩|⟨j,hj,e,rfl,rfl,hLS3⟩
 ·exact absurd rfl h
 obtain rfl:i=j:=by have:(i:Int)=(j:Int):=congrArg Prod.fst e;omega
 obtain rfl:=bC hMi hLS1 hLS3
 refine z6 (v:= .bool true) [] (λw hO=>kW w (hK.on hO.below)) (tZ 80 [] ((i:Int)=(i:Int)) rfl (tZ 85 [] ((i:Int)=(i:Int)) rfl ?_))
 have hsub:∀ w,Own [] W w (((ob++ob1)++ob2)++ob3)->Reads (λi=>[qW i]) w w.heap.size A1 t1/\Reads (λi=>[qW i]) w w.heap.size A2 t1/\Reads (λi=>[qW i]) w w.heap.size A3 t1:=λw hO=>⟨qP hS1 hO λb hb=>List.mem_append_left _ (List.mem_append_left _ (List.mem_append_right _ hb)),qP hS2 hO λb hb=>List.mem_append_left _ (List.mem_append_right _ hb),qP hS3 hO λb hb=>List.mem_append_right _ hb⟩
 refine z6 (v:= .bool true) [] (λw hO=>by
  have hO':=hO.past 2 (((ob++ob1)++ob2)++ob3)
  clear hO
  exact vD A1 A2 c1 c2 t1 w (hsub w hO').1 (hsub w hO').2.1 hn) ?_
 exact z6 (v:= .bool true) [] (λw hO=>by
  have hO':=hO.past 2 (((ob++ob1)++ob2)++ob3)
  clear hO
  exact vD A1 A3 c1 c3 t1 w (hsub w hO').1 (hsub w hO').2.2 hn) (z7 [] Z4 λw hO=>⟨rfl,hO.below⟩)
end Go.Proofs.YtflhcaljcoekpaaGreatDoor
end

section
/-
 ShopPinned: for every input the call returns true, and each argument reads afterwards as it read before. Conditions: none but the row's own, that the listed package-level variables read as the program's text lays them.
-/
namespace Go.Proofs.YtflhcaljcoekpaaGreatDoor.shopPinned
open Go.ChangeShapes Go.WideShapes Go.ChangeAt Go.RowKit
open Go.ChangeMaps (open_string shut_string)
set_option linter.unusedVariables false

set_option maxRecDepth 100000 in
theorem contract (H:Type)(enc:TypeId×Value->H)(W:World)(base:Nat)(args:Array Value)(ds gs:List (DataW H))(before:List MemPlace)
  (hval:∀ (j:Nat) t v,Tryz.f10.params[j]?=some t->args[j]?=some v->Value.okWide YP W .any base t v)
  (hW:DataW.Whole enc YP Tryz.f10.params.toList Rows.shopPinnedSpec.vars false W args.toList ds gs before) (hL:laidMetH YP Rows.shopPinnedRow.laid W) (hS:W.ShapedOpen YP):
  YC 10 args W λe W'=>∃ v,e= .returned v/\Rows.shopPinnedSpec.post enc YP Tryz.f10 false true false false W args v W':=by
 have ht:HasLib W:=hasLib_of (hasTab_of hL (by rfl)) hS
 have hW':=hW
 obtain ⟨p,q,hA0,hV,rfl,hfz,hnd⟩:=hW
 have hA:DataW.TrodAll enc YP W 0 (λ_=>true) true Tryz.f10.params.toList args.toList ds p:=hA0
 rw [Tryz.params10] at hA hval
 obtain ⟨v0,vs0,d0,ds0,p0,q0,hargs,rfl,rfl,h0,r0⟩:=trodAll_cons hA
 obtain ⟨v1,vs1,d1,ds1,p1,q1,rfl,rfl,rfl,h1,r1⟩:=trodAll_cons r0
 obtain ⟨rfl,rfl,rfl⟩:=trodAll_nil r1
 obtain rfl:args= #[v0,v1]:=by cases args;simp_all
 obtain ⟨rfl,rfl⟩:=trodVars_none hV
 obtain ⟨own,rfl,rfl,rfl,w1⟩:=open_int Tryz.underlying3 (hval 1 3 v1 rfl rfl) h1
 clear hA0
 obtain ⟨l,l_reads,l_len⟩:=tE (hval 0 30 v0 rfl rfl) h0
 refine (shopPinned.law v0 l own W l_reads l_len ⟨ht,mkLib_of hL (by rfl)⟩).mono λe W' ⟨he,hb⟩=> ?_
 subst he
 exact ⟨_,rfl,law_end laidOut (λt ht=>by rw [Tryz.params10] at ht;simp at ht;rcases ht with rfl|rfl<;>exact ⟨by kernel_rfl,of_decide_eq_true Kr⟩) rfl rfl Tryz.underlying4 hW' (by rfl) hb⟩

noncomputable def vI (os:Os):World:=
 {World.holding YP os ⟨#[], #[],[]⟩ with heap:=d9 (d9 (d9 (d9 (d9 (d9 ((World.holding YP os ⟨#[], #[],[]⟩).heap) 6 Rows.laid_math_bits_deBruijn32tab) 7 Rows.laid_math_bits_deBruijn64tab) 3 Rows.laid_internal_strconv_uint64pow10) 5 Rows.laid_unicode_utf8_acceptRanges) 2 Rows.laid_linchpin_mark_keys) 4 Rows.laid_unicode_utf8_first}
theorem laid_met (os:Os):laidMet YP Rows.shopPinnedRow.laid ((vI os).forCall (λ_ _=>0) ⟨#[], #[.slice none 0 0,YI 0],[]⟩).memory:=
 laidMet_of_run' 8 Kr Kr
theorem reads (os:Os){H:Type}(enc:TypeId×Value->H):∃ places,DataW.whole enc YP ((vI os).forCall (λ_ _=>0) ⟨#[], #[.slice none 0 0,.int .i64 0],[]⟩).memory Tryz.f10.params.toList Rows.shopPinnedSpec.vars false (#[.slice none 0 0,.int .i64 0]:Array Value).toList 8=some ([.nil,.lit (.int .i64 0)],[],places):=
 ⟨[],by kernel_rfl⟩

set_option maxRecDepth 100000 in
theorem lifted (os:Os)(started:os.Started)(H:Type)(enc:TypeId×Value->H)(F:Stop.Interp):
  ReturnsInHanded {} Tryz.checked os 10 .any ((OpenSpec.ofChange Rows.shopPinnedSpec).preRow enc YP Tryz.f10 Rows.shopPinnedRow.domain false Rows.shopPinnedRow.laid) (((OpenSpec.ofChange Rows.shopPinnedSpec).at F).post enc YP Tryz.f10 false true false false):=by
 obtain ⟨places,hx⟩:=reads os enc
 refine returnsInHanded_of_row (C:=Tryz.checked) (s:=OpenSpec.ofChange Rows.shopPinnedSpec) own started Kr Tryz.func10
  (witness_row_at (enc:=enc) (C:=Tryz.checked) false (vI os) #[.slice none 0 0,YI 0] rfl Kr Kr Kr
   (OpenSpec.preRow_of_cond 8 hx Kr (λk hk=>by cases hk) Kr (laid_met os))) ?_
 intro W base args ds gs before hval hW _ _ _ hL hS _
 exact contract H enc W base args ds gs before hval hW hL hS

theorem j1:(Rows.shopPinnedRow.inPlace==Tryz.pinned.checked.prog.inPlace 10)=true:=by kernel_rfl
theorem j2:(Rows.shopPinnedRow.unfollowed==Tryz.pinned.checked.prog.unfollowed 10)=true:=by kernel_rfl
theorem j3:(Rows.shopPinnedRow.recurses==Tryz.pinned.checked.prog.recurses 10)=true:=by kernel_rfl
theorem j4:(Rows.shopPinnedRow.named==Tryz.pinned.checked.prog.varsNamed 10)=true:=by kernel_rfl
theorem j5:(Rows.shopPinnedRow.lifted==Tryz.pinned.checked.prog.liftsFinal)=true:=by kernel_rfl
theorem closed:joinedFacts Tryz.pinned.checked.prog 10 Tryz.f10 (OpenSpec.ofChange Rows.shopPinnedSpec).bare Rows.shopPinnedRow=true:=by
 unfold joinedFacts
 rw [jfLaid,jfMaps,j1,j2,j3,j4,jfHeard,jfEnter,j5]
 kernel_rfl

theorem said:Rows.ShopPinnedSaid:=
 OpenClaim.holds_of_cond 10 Tryz.f10 rfl rfl rfl rfl rfl rfl rfl ⟨rfl,rfl,rfl,rfl,rfl⟩ rfl rfl rfl rfl rfl Kr Tryz.func10 closed
  (of_decide_eq_true Kr) (by unfold Func.isWrapper;first|(rw [if_pos (by decide+kernel)];kernel_rfl)|(rw [if_neg (by decide+kernel)];exact ⟨rfl,rfl⟩))
  (λos started H enc _ F=>by rw [OpenClaim.pre_eq_preRow];exact lifted os started H enc F)

theorem pD (f : FuncId) (fn : Func) (hf : Tryz.pinned.checked.prog.funcNamed "linchpin/linchpinlaw15.ShopPinned" = some f) (hfn : Tryz.pinned.checked.prog.funcs[f]? = some fn) :
  false=Tryz.pinned.checked.prog.looks []∧∀ (j:Nat) t,fn.params[j]?=some t->Tryz.pinned.checked.prog.wantsStandIn t=false:=by
 obtain rfl : f = 10 := Option.some.inj ((show Tryz.prog.funcNamed "linchpin/linchpinlaw15.ShopPinned" = some 10 by kernel_rfl).symm.trans hf) |>.symm
 obtain rfl:fn=Tryz.f10:=(Option.some.inj (Tryz.func10.symm.trans hfn)).symm
 refine ⟨by kernel_rfl,λj t ht=> ?_⟩
 rw [Tryz.params10] at ht
 have hm:=Array.mem_of_getElem? ht
 simp at hm
 rcases hm with rfl|rfl
 ·exact (show Tryz.prog.wantsStandIn 30=false by kernel_rfl)
 ·exact (show Tryz.prog.wantsStandIn 3=false by kernel_rfl)

theorem goes:false=Rows.shopPinnedRow.goesBy Tryz.pinned.checked.prog:=by kernel_rfl
theorem card:Rows.ShopPinnedCardSaid:=
 Claim7.holds_tied_plain_at .later [] _ _ _ _ said (λ_ h=>by cases h) Kr (λ_ h=>by cases h) shopPinned_row_tie rfl ⟨rfl,rfl⟩ Kr rfl pD goes

#print axioms card
end Go.Proofs.YtflhcaljcoekpaaGreatDoor.shopPinned
end
