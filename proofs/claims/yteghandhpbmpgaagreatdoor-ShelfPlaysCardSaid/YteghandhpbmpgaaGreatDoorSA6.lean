/-
 What the statement's proof leans on: the ways of walking, plain mathematics, and what the program's functions return; each theorem says on what conditions.
-/
import Derived.Below
import Derived.ChangeSame
import Derived.ProofKit
import Derived.OpenShut
import Derived.LaidSub
import Derived.Carry
import Derived.SliceStrings
import Derived.Lib.LaidTab
import Derived.Deep.DeepHandedRow
import Derived.ChangeSlices
import Derived.Test.YteghandhpbmpgaaGreatDoorSA5
set_option maxRecDepth 1000000
set_option maxHeartbeats 8000000
set_option linter.unusedVariables false
set_option linter.unusedSimpArgs false
set_option linter.unnecessarySimpa false
namespace Go.Proofs.YteghandhpbmpgaaGreatDoor
open Go.RowKit

section
set_option linter.unnecessarySimpa false
theorem d7 {α β:Type}{f:α->β}{ys xs:List α}{y:α}{i:Nat}(hi:i<xs.length)(h:ys.map f=(xs.map f).take i)(hy:f y=f xs[i]):(ys++[y]).map f=(xs.map f).take (i+1):=by
 rw [List.map_append,h,List.take_succ_eq_append_getElem (by simpa using hi),List.map_singleton,hy,List.getElem_map]
theorem frS_any (A:Option Addr)(cap:Nat)(xs:List (List UInt8))(W:World)(hx:Reads zW W W.heap.size A xs)(hn:xs.length<=5000)(hs:∀ x∈xs,x.length<=1000000):YC 328 #[.slice A xs.length cap,.func (.func 66) #[] #[]] W λe w'=>∃ v ob,e= .returned v/\(∃ A' c',v= .slice A' xs.length c'/\SlT (.slice A' xs.length c') xs ob)/\Own [] W w' ob:=by
 refine z8 Tryz.func328 (zH [] ([]++[]) (λw hO=>hO.past 0 _) ?_)
 refine y4 (α:=Nat×Option Addr×Nat×List (List UInt8)×List Blk) (λ(i,A',c',ys,o1)=>[(1,.func (.func 66) #[] #[]),(5,.slice A' ys.length c'),(8,.slice A xs.length cap),(9,YI (xs.length:Int)),(10,YI (i:Int))]) (λ(i,A',c',ys,o1)=>o1++[]) (λ(i,A',c',ys,o1) m=>(i<=xs.length/\ys.length=i/\ys=xs.take i/\SlT (.slice A' ys.length c') ys o1)/\m=xs.length-i) (0,none,0,[],[]) xs.length [] ⟨⟨Nat.zero_le _,rfl,rfl,Sl.nil _ _⟩,rfl⟩ ?_
 rintro ⟨i,A',c',ys,o1⟩ mm g kk ⟨⟨hi,hyl,hys,hL⟩,hmm⟩ nx hkk
 subst hkk
 refine zE 11 [] ((i:Int)<(xs.length:Int)) (λh11=> ?_) (λh11=> ?_)
 rotate_left
 ·have e:ys=xs:=by rw [hys,show i=xs.length by omega,List.take_length]
  subst e
  exact z6 [] (.slice A' ys.length c') λw hO=>⟨_,_,rfl,⟨A',c',rfl,hL⟩,(hO.past 0 (o1++[])).cast (by simp)⟩
 have hj:i<xs.length:=by omega
 have hsj:=hs _ (List.getElem_mem hj)
 have hst:ys++[xs[i]]=xs.take (i+1):=by rw [hys,List.take_succ_eq_append_getElem hj]
 obtain ⟨eb,eo,hA,hel⟩:=hx.elem zN i hj
 have h1':∀ w,Below W.heap.size W w->(loadVar 9 ⟨eb,eo+i*1+0,none⟩).run Tryz.prog w= .ok (.string (mkS xs[i])) w:=λw hw=>hel w hw _ 0 _ Kr
 clear hs hys
 generalize xs[i]=u at*
 have hcl:∀ w,YC 66 #[.string (mkS u)] w (YR (.string (mkS u)) w):=λw=>y5 u w Om
 refine zU 12 [] hA xs.length cap i 1 hj (zP 13 [] 9 eb (eo+i*1+0) (.string (mkS u)) (λw hO=>h1' w hO.below) (z1 (v:= .string (mkS u)) [] (λw hO=>hcl w) ?_))
 have hL':Sl 9 1 (.slice A' ys.length c') ys.length (vD ys) o1:=hL
 refine kG [] 1 9 #[.string (mkS u)] λb18=>vJ [] [⟨b18, #[.string (mkS u)],9⟩] o1 [] 0 (⟨b18, #[.string (mkS u)],9⟩::(o1++[])) (λw hO=>hO.cast (by simp only [List.append_assoc,List.cons_append,List.nil_append])) hL' (m:=1) (cp:=1) Om λv' o1' hS=> ?_
 obtain ⟨A2,c2,rfl⟩:=Sl.form hS
 refine vV 5 [] (.slice A2 (ys.length+1) c2) (.slice A2 (ys++[u]).length c2) (by simp) (x_i 10 [] ((i+1:Nat):Int) (zH [] (o1'++[]) (λw hO=>hO.past 1 _) ?_))
 exact nx (i+1,A2,c2,ys++[u],o1') (xs.length-(i+1)) [] Om ⟨⟨hj,by simp [hyl],hst,by rw [List.length_append,List.length_singleton];exact SlT.add hS⟩,rfl⟩ Kr Kr
def wsO (x:Wv)(o:List Blk):Prop:=SlT (.slice x.A x.fs.length x.cap) x.fs o
def fsO (x:Fv)(o:List Blk):Prop:=SlT (.slice x.A x.of.length x.cap) x.of o
def nsO (x:Nv)(o:List Blk):Prop:=WsO x.A x.cap x.any o
def bsO (x:Bv)(o:List Blk):Prop:=o=[]
def esO (x:Ev)(o:List Blk):Prop:=RecO x.rec' o
theorem frW_any (A:Option Addr)(cap:Nat)(xs:List Wv)(W:World)(hx:Reads wvC W W.heap.size A xs)(hn:xs.length<=5000)(hp:∀ x∈xs,∀ w,Below W.heap.size W w->YC 327 #[wvV x] w λe w'=>∃ v ob,e= .returned v/\(∃ y,v=wvV y/\Wv.wt y=Wv.wt x/\wsO y ob)/\Own [] w w' ob):YC 326 #[.slice A xs.length cap,.func (.func 327) #[] #[]] W λe w'=>∃ v ob,e= .returned v/\(∃ A' c' ys o1 o2,v= .slice A' ys.length c'/\ob=o1++o2/\ys.map Wv.wt=xs.map Wv.wt/\LsO 77 4 wvC wsO A' c' ys o1 o2)/\Own [] W w' ob:=by
 refine z8 Tryz.func326 (zH [] ([]++[]) (λw hO=>hO.past 0 _) ?_)
 refine y4 (α:=Nat×Option Addr×Nat×List Wv×List Blk×List Blk) (λ(i,A',c',ys,o1,o2)=>[(1,.func (.func 327) #[] #[]),(5,.slice A' ys.length c'),(8,.slice A xs.length cap),(9,YI (xs.length:Int)),(10,YI (i:Int))]) (λ(i,A',c',ys,o1,o2)=>o1++o2) (λ(i,A',c',ys,o1,o2) m=>(i<=xs.length/\ys.length=i/\ys.map Wv.wt=(xs.map Wv.wt).take i/\LsO 77 4 wvC wsO A' c' ys o1 o2)/\m=xs.length-i) (0,none,0,[],[],[]) xs.length [] ⟨⟨Nat.zero_le _,rfl,rfl,LsO.nil⟩,rfl⟩ ?_
 rintro ⟨i,A',c',ys,o1,o2⟩ mm g kk ⟨⟨hi,hyl,hys,hL⟩,hmm⟩ nx hkk
 subst hkk
 refine zE 11 [] ((i:Int)<(xs.length:Int)) (λh11=> ?_) (λh11=> ?_)
 rotate_left
 ·exact z6 [] (.slice A' ys.length c') λw hO=>⟨_,_,rfl,⟨A',c',ys,o1,o2,rfl,rfl,by rw [hys,show i=xs.length by omega,←List.length_map (f:=Wv.wt),List.take_length],hL⟩,hO.past 0 _⟩
 have hj:i<xs.length:=by omega
 have hc:=hp _ (List.getElem_mem hj)
 have hst:=λy (hy:Wv.wt y=Wv.wt xs[i])=>d7 (y:=y) hj hys hy
 obtain ⟨eb,eo,hA,hel⟩:=hx.elem v8 i hj
 have h1':∀ w,Below W.heap.size W w->(loadVar 77 ⟨eb,eo+i*4+0,none⟩).run Tryz.prog w= .ok (wvV xs[i]) w:=λw hw=>hel w hw _ 0 _ Kr
 clear hp
 generalize xs[i]=u at*
 refine zU 12 [] hA xs.length cap i 4 hj (zP 13 [] 77 eb (eo+i*4+0) (wvV u) (λw hO=>h1' w hO.below) (zD [] λb7=>yV (R:=λv ob=>∃ y,v=wvV y/\Wv.wt y=Wv.wt u/\wsO y ob) [0,0] (λw hO=>hc w hO.below) ?_))
 rintro _ ob ⟨y,rfl,hy,hyo⟩
 refine kG [] 1 77 (wvV y).cells λb18=>vJ [] [⟨b18,(wvV y).cells,77⟩,⟨b7,(wvV u).cells,77⟩] o1 (o2++ob) 0 (⟨b18,(wvV y).cells,77⟩::((⟨b7,(wvV u).cells,77⟩::(o1++o2))++ob)) (λw hO=>hO.cast (by simp only [List.append_assoc,List.cons_append,List.nil_append])) hL.top (m:=1) (cp:=1) Om λv' o1' hS=> ?_
 obtain ⟨A2,c2,rfl⟩:=Sl.form hS
 refine vV 5 [] (.slice A2 (ys.length+1) c2) (.slice A2 (ys++[y]).length c2) (by simp) (x_i 10 [] ((i+1:Nat):Int) (zH [] (o1'++(o2++ob)) (λw hO=>hO.past 2 _) ?_))
 exact nx (i+1,A2,c2,ys++[y],o1',o2++ob) (xs.length-(i+1)) [] Om ⟨⟨hj,by simp [hyl],hst y hy,hL.add hS hyo⟩,rfl⟩ Kr Kr
theorem frN_any (A:Option Addr)(cap:Nat)(xs:List Nv)(W:World)(hx:Reads nvC W W.heap.size A xs)(hn:xs.length<=5000)(hp:∀ x∈xs,∀ w,Below W.heap.size W w->YC 288 #[nvV x] w λe w'=>∃ v ob,e= .returned v/\(∃ y,v=nvV y/\Nv.nt y=Nv.nt x/\nsO y ob)/\Own [] w w' ob):YC 287 #[.slice A xs.length cap,.func (.func 288) #[] #[]] W λe w'=>∃ v ob,e= .returned v/\(∃ A' c' ys o1 o2,v= .slice A' ys.length c'/\ob=o1++o2/\ys.map Nv.nt=xs.map Nv.nt/\LsO 74 3 nvC nsO A' c' ys o1 o2)/\Own [] W w' ob:=by
 refine z8 Tryz.func287 (zH [] ([]++[]) (λw hO=>hO.past 0 _) ?_)
 refine y4 (α:=Nat×Option Addr×Nat×List Nv×List Blk×List Blk) (λ(i,A',c',ys,o1,o2)=>[(1,.func (.func 288) #[] #[]),(5,.slice A' ys.length c'),(8,.slice A xs.length cap),(9,YI (xs.length:Int)),(10,YI (i:Int))]) (λ(i,A',c',ys,o1,o2)=>o1++o2) (λ(i,A',c',ys,o1,o2) m=>(i<=xs.length/\ys.length=i/\ys.map Nv.nt=(xs.map Nv.nt).take i/\LsO 74 3 nvC nsO A' c' ys o1 o2)/\m=xs.length-i) (0,none,0,[],[],[]) xs.length [] ⟨⟨Nat.zero_le _,rfl,rfl,LsO.nil⟩,rfl⟩ ?_
 rintro ⟨i,A',c',ys,o1,o2⟩ mm g kk ⟨⟨hi,hyl,hys,hL⟩,hmm⟩ nx hkk
 subst hkk
 refine zE 11 [] ((i:Int)<(xs.length:Int)) (λh11=> ?_) (λh11=> ?_)
 rotate_left
 ·exact z6 [] (.slice A' ys.length c') λw hO=>⟨_,_,rfl,⟨A',c',ys,o1,o2,rfl,rfl,by rw [hys,show i=xs.length by omega,←List.length_map (f:=Nv.nt),List.take_length],hL⟩,hO.past 0 _⟩
 have hj:i<xs.length:=by omega
 have hc:=hp _ (List.getElem_mem hj)
 have hst:=λy (hy:Nv.nt y=Nv.nt xs[i])=>d7 (y:=y) hj hys hy
 obtain ⟨eb,eo,hA,hel⟩:=hx.elem wD i hj
 have h1':∀ w,Below W.heap.size W w->(loadVar 74 ⟨eb,eo+i*3+0,none⟩).run Tryz.prog w= .ok (nvV xs[i]) w:=λw hw=>hel w hw _ 0 _ Kr
 clear hp
 generalize xs[i]=u at*
 refine zU 12 [] hA xs.length cap i 3 hj (zP 13 [] 74 eb (eo+i*3+0) (nvV u) (λw hO=>h1' w hO.below) (zD [] λb7=>yV (R:=λv ob=>∃ y,v=nvV y/\Nv.nt y=Nv.nt u/\nsO y ob) [0,0] (λw hO=>hc w hO.below) ?_))
 rintro _ ob ⟨y,rfl,hy,hyo⟩
 refine kG [] 1 74 (nvV y).cells λb18=>vJ [] [⟨b18,(nvV y).cells,74⟩,⟨b7,(nvV u).cells,74⟩] o1 (o2++ob) 0 (⟨b18,(nvV y).cells,74⟩::((⟨b7,(nvV u).cells,74⟩::(o1++o2))++ob)) (λw hO=>hO.cast (by simp only [List.append_assoc,List.cons_append,List.nil_append])) hL.top (m:=1) (cp:=1) Om λv' o1' hS=> ?_
 obtain ⟨A2,c2,rfl⟩:=Sl.form hS
 refine vV 5 [] (.slice A2 (ys.length+1) c2) (.slice A2 (ys++[y]).length c2) (by simp) (x_i 10 [] ((i+1:Nat):Int) (zH [] (o1'++(o2++ob)) (λw hO=>hO.past 2 _) ?_))
 exact nx (i+1,A2,c2,ys++[y],o1',o2++ob) (xs.length-(i+1)) [] Om ⟨⟨hj,by simp [hyl],hst y hy,hL.add hS hyo⟩,rfl⟩ Kr Kr
theorem frB_any (A:Option Addr)(cap:Nat)(xs:List Bv)(W:World)(hx:Reads bvC W W.heap.size A xs)(hn:xs.length<=5000)(hp:∀ x∈xs,∀ w,Below W.heap.size W w->YC 290 #[bvV x] w λe w'=>∃ v ob,e= .returned v/\(∃ y,v=bvV y/\Bv.bt y=Bv.bt x/\bsO y ob)/\Own [] w w' ob):YC 289 #[.slice A xs.length cap,.func (.func 290) #[] #[]] W λe w'=>∃ v ob,e= .returned v/\(∃ A' c' ys o1 o2,v= .slice A' ys.length c'/\ob=o1++o2/\ys.map Bv.bt=xs.map Bv.bt/\LsO 80 3 bvC bsO A' c' ys o1 o2)/\Own [] W w' ob:=by
 refine z8 Tryz.func289 (zH [] ([]++[]) (λw hO=>hO.past 0 _) ?_)
 refine y4 (α:=Nat×Option Addr×Nat×List Bv×List Blk×List Blk) (λ(i,A',c',ys,o1,o2)=>[(1,.func (.func 290) #[] #[]),(5,.slice A' ys.length c'),(8,.slice A xs.length cap),(9,YI (xs.length:Int)),(10,YI (i:Int))]) (λ(i,A',c',ys,o1,o2)=>o1++o2) (λ(i,A',c',ys,o1,o2) m=>(i<=xs.length/\ys.length=i/\ys.map Bv.bt=(xs.map Bv.bt).take i/\LsO 80 3 bvC bsO A' c' ys o1 o2)/\m=xs.length-i) (0,none,0,[],[],[]) xs.length [] ⟨⟨Nat.zero_le _,rfl,rfl,LsO.nil⟩,rfl⟩ ?_
 rintro ⟨i,A',c',ys,o1,o2⟩ mm g kk ⟨⟨hi,hyl,hys,hL⟩,hmm⟩ nx hkk
 subst hkk
 refine zE 11 [] ((i:Int)<(xs.length:Int)) (λh11=> ?_) (λh11=> ?_)
 rotate_left
 ·exact z6 [] (.slice A' ys.length c') λw hO=>⟨_,_,rfl,⟨A',c',ys,o1,o2,rfl,rfl,by rw [hys,show i=xs.length by omega,←List.length_map (f:=Bv.bt),List.take_length],hL⟩,hO.past 0 _⟩
 have hj:i<xs.length:=by omega
 have hc:=hp _ (List.getElem_mem hj)
 have hst:=λy (hy:Bv.bt y=Bv.bt xs[i])=>d7 (y:=y) hj hys hy
 obtain ⟨eb,eo,hA,hel⟩:=hx.elem tZ i hj
 have h1':∀ w,Below W.heap.size W w->(loadVar 80 ⟨eb,eo+i*3+0,none⟩).run Tryz.prog w= .ok (bvV xs[i]) w:=λw hw=>hel w hw _ 0 _ Kr
 clear hp
 generalize xs[i]=u at*
 refine zU 12 [] hA xs.length cap i 3 hj (zP 13 [] 80 eb (eo+i*3+0) (bvV u) (λw hO=>h1' w hO.below) (zD [] λb7=>yV (R:=λv ob=>∃ y,v=bvV y/\Bv.bt y=Bv.bt u/\bsO y ob) [0,0] (λw hO=>hc w hO.below) ?_))
 rintro _ ob ⟨y,rfl,hy,hyo⟩
 refine kG [] 1 80 (bvV y).cells λb18=>vJ [] [⟨b18,(bvV y).cells,80⟩,⟨b7,(bvV u).cells,80⟩] o1 (o2++ob) 0 (⟨b18,(bvV y).cells,80⟩::((⟨b7,(bvV u).cells,80⟩::(o1++o2))++ob)) (λw hO=>hO.cast (by simp only [List.append_assoc,List.cons_append,List.nil_append])) hL.top (m:=1) (cp:=1) Om λv' o1' hS=> ?_
 obtain ⟨A2,c2,rfl⟩:=Sl.form hS
 refine vV 5 [] (.slice A2 (ys.length+1) c2) (.slice A2 (ys++[y]).length c2) (by simp) (x_i 10 [] ((i+1:Nat):Int) (zH [] (o1'++(o2++ob)) (λw hO=>hO.past 2 _) ?_))
 exact nx (i+1,A2,c2,ys++[y],o1',o2++ob) (xs.length-(i+1)) [] Om ⟨⟨hj,by simp [hyl],hst y hy,hL.add hS hyo⟩,rfl⟩ Kr Kr
theorem frF_any (A:Option Addr)(cap:Nat)(xs:List Fv)(W:World)(hx:Reads fvC W W.heap.size A xs)(hn:xs.length<=5000)(hp:∀ x∈xs,∀ w,Below W.heap.size W w->YC 292 #[fvV x] w λe w'=>∃ v ob,e= .returned v/\(∃ y,v=fvV y/\Fv.ft y=Fv.ft x/\fsO y ob)/\Own [] w w' ob):YC 291 #[.slice A xs.length cap,.func (.func 292) #[] #[]] W λe w'=>∃ v ob,e= .returned v/\(∃ A' c' ys o1 o2,v= .slice A' ys.length c'/\ob=o1++o2/\ys.map Fv.ft=xs.map Fv.ft/\LsO 82 2 fvC fsO A' c' ys o1 o2)/\Own [] W w' ob:=by
 refine z8 Tryz.func291 (zH [] ([]++[]) (λw hO=>hO.past 0 _) ?_)
 refine y4 (α:=Nat×Option Addr×Nat×List Fv×List Blk×List Blk) (λ(i,A',c',ys,o1,o2)=>[(1,.func (.func 292) #[] #[]),(5,.slice A' ys.length c'),(8,.slice A xs.length cap),(9,YI (xs.length:Int)),(10,YI (i:Int))]) (λ(i,A',c',ys,o1,o2)=>o1++o2) (λ(i,A',c',ys,o1,o2) m=>(i<=xs.length/\ys.length=i/\ys.map Fv.ft=(xs.map Fv.ft).take i/\LsO 82 2 fvC fsO A' c' ys o1 o2)/\m=xs.length-i) (0,none,0,[],[],[]) xs.length [] ⟨⟨Nat.zero_le _,rfl,rfl,LsO.nil⟩,rfl⟩ ?_
 rintro ⟨i,A',c',ys,o1,o2⟩ mm g kk ⟨⟨hi,hyl,hys,hL⟩,hmm⟩ nx hkk
 subst hkk
 refine zE 11 [] ((i:Int)<(xs.length:Int)) (λh11=> ?_) (λh11=> ?_)
 rotate_left
 ·exact z6 [] (.slice A' ys.length c') λw hO=>⟨_,_,rfl,⟨A',c',ys,o1,o2,rfl,rfl,by rw [hys,show i=xs.length by omega,←List.length_map (f:=Fv.ft),List.take_length],hL⟩,hO.past 0 _⟩
 have hj:i<xs.length:=by omega
 have hc:=hp _ (List.getElem_mem hj)
 have hst:=λy (hy:Fv.ft y=Fv.ft xs[i])=>d7 (y:=y) hj hys hy
 obtain ⟨eb,eo,hA,hel⟩:=hx.elem fL i hj
 have h1':∀ w,Below W.heap.size W w->(loadVar 82 ⟨eb,eo+i*2+0,none⟩).run Tryz.prog w= .ok (fvV xs[i]) w:=λw hw=>hel w hw _ 0 _ Kr
 clear hp
 generalize xs[i]=u at*
 refine zU 12 [] hA xs.length cap i 2 hj (zP 13 [] 82 eb (eo+i*2+0) (fvV u) (λw hO=>h1' w hO.below) (zD [] λb7=>yV (R:=λv ob=>∃ y,v=fvV y/\Fv.ft y=Fv.ft u/\fsO y ob) [0,0] (λw hO=>hc w hO.below) ?_))
 rintro _ ob ⟨y,rfl,hy,hyo⟩
 refine kG [] 1 82 (fvV y).cells λb18=>vJ [] [⟨b18,(fvV y).cells,82⟩,⟨b7,(fvV u).cells,82⟩] o1 (o2++ob) 0 (⟨b18,(fvV y).cells,82⟩::((⟨b7,(fvV u).cells,82⟩::(o1++o2))++ob)) (λw hO=>hO.cast (by simp only [List.append_assoc,List.cons_append,List.nil_append])) hL.top (m:=1) (cp:=1) Om λv' o1' hS=> ?_
 obtain ⟨A2,c2,rfl⟩:=Sl.form hS
 refine vV 5 [] (.slice A2 (ys.length+1) c2) (.slice A2 (ys++[y]).length c2) (by simp) (x_i 10 [] ((i+1:Nat):Int) (zH [] (o1'++(o2++ob)) (λw hO=>hO.past 2 _) ?_))
 exact nx (i+1,A2,c2,ys++[y],o1',o2++ob) (xs.length-(i+1)) [] Om ⟨⟨hj,by simp [hyl],hst y hy,hL.add hS hyo⟩,rfl⟩ Kr Kr
theorem frE_any (A:Option Addr)(cap:Nat)(xs:List Ev)(W:World)(hx:Reads evC W W.heap.size A xs)(hn:xs.length<=5000)(hp:∀ x∈xs,∀ w,Below W.heap.size W w->YC 207 #[evV x] w λe w'=>∃ v ob,e= .returned v/\(∃ y,v=evV y/\Ev.et y=Ev.et x/\esO y ob)/\Own [] w w' ob):YC 206 #[.slice A xs.length cap,.func (.func 207) #[] #[]] W λe w'=>∃ v ob,e= .returned v/\(∃ A' c' ys o1 o2,v= .slice A' ys.length c'/\ob=o1++o2/\ys.map Ev.et=xs.map Ev.et/\LsO 57 11 evC esO A' c' ys o1 o2)/\Own [] W w' ob:=by
 refine z8 Tryz.func206 (zH [] ([]++[]) (λw hO=>hO.past 0 _) ?_)
 refine y4 (α:=Nat×Option Addr×Nat×List Ev×List Blk×List Blk) (λ(i,A',c',ys,o1,o2)=>[(1,.func (.func 207) #[] #[]),(5,.slice A' ys.length c'),(8,.slice A xs.length cap),(9,YI (xs.length:Int)),(10,YI (i:Int))]) (λ(i,A',c',ys,o1,o2)=>o1++o2) (λ(i,A',c',ys,o1,o2) m=>(i<=xs.length/\ys.length=i/\ys.map Ev.et=(xs.map Ev.et).take i/\LsO 57 11 evC esO A' c' ys o1 o2)/\m=xs.length-i) (0,none,0,[],[],[]) xs.length [] ⟨⟨Nat.zero_le _,rfl,rfl,LsO.nil⟩,rfl⟩ ?_
 rintro ⟨i,A',c',ys,o1,o2⟩ mm g kk ⟨⟨hi,hyl,hys,hL⟩,hmm⟩ nx hkk
 subst hkk
 refine zE 11 [] ((i:Int)<(xs.length:Int)) (λh11=> ?_) (λh11=> ?_)
 rotate_left
 ·exact z6 [] (.slice A' ys.length c') λw hO=>⟨_,_,rfl,⟨A',c',ys,o1,o2,rfl,rfl,by rw [hys,show i=xs.length by omega,←List.length_map (f:=Ev.et),List.take_length],hL⟩,hO.past 0 _⟩
 have hj:i<xs.length:=by omega
 have hc:=hp _ (List.getElem_mem hj)
 have hst:=λy (hy:Ev.et y=Ev.et xs[i])=>d7 (y:=y) hj hys hy
 obtain ⟨eb,eo,hA,hel⟩:=hx.elem jE i hj
 have h1':∀ w,Below W.heap.size W w->(loadVar 57 ⟨eb,eo+i*11+0,none⟩).run Tryz.prog w= .ok (evV xs[i]) w:=λw hw=>hel w hw _ 0 _ Kr
 clear hp
 generalize xs[i]=u at*
 refine zU 12 [] hA xs.length cap i 11 hj (zP 13 [] 57 eb (eo+i*11+0) (evV u) (λw hO=>h1' w hO.below) (zD [] λb7=>yV (R:=λv ob=>∃ y,v=evV y/\Ev.et y=Ev.et u/\esO y ob) [0,0] (λw hO=>hc w hO.below) ?_))
 rintro _ ob ⟨y,rfl,hy,hyo⟩
 refine kG [] 1 57 (evV y).cells λb18=>vJ [] [⟨b18,(evV y).cells,57⟩,⟨b7,(evV u).cells,57⟩] o1 (o2++ob) 0 (⟨b18,(evV y).cells,57⟩::((⟨b7,(evV u).cells,57⟩::(o1++o2))++ob)) (λw hO=>hO.cast (by simp only [List.append_assoc,List.cons_append,List.nil_append])) hL.top (m:=1) (cp:=1) Om λv' o1' hS=> ?_
 obtain ⟨A2,c2,rfl⟩:=Sl.form hS
 refine vV 5 [] (.slice A2 (ys.length+1) c2) (.slice A2 (ys++[y]).length c2) (by simp) (x_i 10 [] ((i+1:Nat):Int) (zH [] (o1'++(o2++ob)) (λw hO=>hO.past 2 _) ?_))
 exact nx (i+1,A2,c2,ys++[y],o1',o2++ob) (xs.length-(i+1)) [] Om ⟨⟨hj,by simp [hyl],hst y hy,hL.add hS hyo⟩,rfl⟩ Kr Kr
end
section
set_option linter.unnecessarySimpa false
theorem frVer_any (a b c:Int)(p q:List UInt8)(W:World)(hp:p.length<=1000000)(hq:q.length<=1000000):YC 286 #[.agg #[YI a,YI b,YI c,.string (mkS p),.string (mkS q)]] W (YR (.agg #[YI a,YI b,YI c,.string (mkS p),.string (mkS q)]) W):=by
 refine z8 Tryz.func286 (zV [] λb1=>zD [] λb2=> ?_)
 refine yJ 7 [] [⟨b2, #[YI 0,YI 0,YI 0,.string ⟨#[]⟩,.string ⟨#[]⟩],23⟩,⟨b1, #[YI a,YI b,YI c,.string (mkS p),.string (mkS q)],23⟩] (λw hO=>hO.past 0 _) (zK [1,1] 2 (z1 (v:= .string (mkS p)) [] (λw hO=>y5 p w Om) (zK [] 5 (z1 (v:= .string (mkS q)) [] (λw hO=>y5 q w Om) ?_))))
 exact gH [1,1,1,0] 0 (.agg #[YI a,YI b,YI c,.string (mkS p),.string (mkS q)]) λw hO=>⟨rfl,hO.below⟩
theorem frBar_any (x:Bv)(W:World)(h1:x.name.length<=1000000)(h2:x.rng.length<=1000000)(h3:x.wh.length<=1000000):YC 290 #[bvV x] W λe w'=>∃ v ob,e= .returned v/\(∃ y,v=bvV y/\Bv.bt y=Bv.bt x/\bsO y ob)/\Own [] W w' ob:=by
 refine z8 Tryz.func290 (zV [] λb1=>zD [] λb2=> ?_)
 refine yJ 10 [] [⟨b2, #[.string ⟨#[]⟩,.string ⟨#[]⟩,.string ⟨#[]⟩],80⟩,⟨b1, #[.string (mkS x.name),.string (mkS x.rng),.string (mkS x.wh)],80⟩] (λw hO=>hO.past 0 _) (zK [1,1,1] 2 (z1 (v:= .string (mkS x.name)) [] (λw hO=>y5 x.name w Om) (zK [] 5 (z1 (v:= .string (mkS x.rng)) [] (λw hO=>y5 x.rng w Om) (zK [] 8 (z1 (v:= .string (mkS x.wh)) [] (λw hO=>y5 x.wh w Om) ?_))))))
 exact gH [0] 0 (bvV x) λw hO=>⟨_,[],rfl,⟨x,rfl,rfl,rfl⟩,hO.no⟩
theorem frWish_any (x:Wv)(W:World)(hx:Reads zW W W.heap.size x.A x.fs)(hn:x.fs.length<=5000)(hs:∀ s∈x.fs,s.length<=1000000)(h1:x.name.length<=1000000)(h2:x.rng.length<=1000000):YC 327 #[wvV x] W λe w'=>∃ v ob,e= .returned v/\(∃ y,v=wvV y/\Wv.wt y=Wv.wt x/\wsO y ob)/\Own [] W w' ob:=by
 have hT:∀ w,Below W.heap.size W w->YC 328 #[.slice x.A x.fs.length x.cap,.func (.func 66) #[] #[]] w λe w'=>∃ v ob,e= .returned v/\(∃ A' c',v= .slice A' x.fs.length c'/\SlT (.slice A' x.fs.length c') x.fs ob)/\Own [] w w' ob:=λw hb=>frS_any x.A x.cap x.fs w (hx.on hb hb.size) hn hs
 obtain ⟨nm,rg,A,cap,fs,br⟩:=x
 refine z8 Tryz.func327 (zV [] λb1=>zD [] λb2=> ?_)
 refine yJ 12 [] [⟨b2, #[.string ⟨#[]⟩,.string ⟨#[]⟩,.slice none 0 0,.bool false],77⟩,⟨b1, #[.string (mkS nm),.string (mkS rg),.slice A fs.length cap,.bool br],77⟩] (λw hO=>hO.past 0 _) (zK [1,1,1,1] 2 (z1 (v:= .string (mkS nm)) [] (λw hO=>y5 nm w (by have:nm.length<=1000000:=h1;omega)) (zK [] 5 (z1 (v:= .string (mkS rg)) [] (λw hO=>y5 rg w (by have:rg.length<=1000000:=h2;omega)) (zK [] 8 (y9 (R:=λv ob=>∃ A' c',v= .slice A' fs.length c'/\SlT (.slice A' fs.length c') fs ob) (λw hO=>hT w hO.below) ?_))))))
 rintro _ ob ⟨A',c',rfl,hS⟩
 exact gH [0] 0 (wvV ⟨nm,rg,A',c',fs,br⟩) λw hO=>⟨_,ob,rfl,⟨⟨nm,rg,A',c',fs,br⟩,rfl,rfl,hS⟩,hO.past 2 ob⟩
theorem frFeat_any (x:Fv)(W:World)(hx:Reads zW W W.heap.size x.A x.of)(hn:x.of.length<=5000)(hs:∀ s∈x.of,s.length<=1000000)(h1:x.name.length<=1000000):YC 292 #[fvV x] W λe w'=>∃ v ob,e= .returned v/\(∃ y,v=fvV y/\Fv.ft y=Fv.ft x/\fsO y ob)/\Own [] W w' ob:=by
 have hT:∀ w,Below W.heap.size W w->YC 328 #[.slice x.A x.of.length x.cap,.func (.func 66) #[] #[]] w λe w'=>∃ v ob,e= .returned v/\(∃ A' c',v= .slice A' x.of.length c'/\SlT (.slice A' x.of.length c') x.of ob)/\Own [] w w' ob:=λw hb=>frS_any x.A x.cap x.of w (hx.on hb hb.size) hn hs
 obtain ⟨nm,A,fs,cap⟩:=x
 refine z8 Tryz.func292 (zV [] λb1=>zD [] λb2=> ?_)
 refine yJ 7 [] [⟨b2,Z0,82⟩,⟨b1, #[.string (mkS nm),.slice A fs.length cap],82⟩] (λw hO=>hO.past 0 _) (zK [1,1] 2 (z1 (v:= .string (mkS nm)) [] (λw hO=>y5 nm w (by have:nm.length<=1000000:=h1;omega)) (zK [] 5 (y9 (R:=λv ob=>∃ A' c',v= .slice A' fs.length c'/\SlT (.slice A' fs.length c') fs ob) (λw hO=>hT w hO.below) ?_))))
 rintro _ ob ⟨A',c',rfl,hS⟩
 exact gH [0] 0 (fvV ⟨nm,A',fs,c'⟩) λw hO=>⟨_,ob,rfl,⟨⟨nm,A',fs,c'⟩,rfl,rfl,hS⟩,hO.past 2 ob⟩
theorem wsO_of {A:Option Addr}{c:Nat}{xs:List Wv}{o1 o2:List Blk}(h:LsO 77 4 wvC wsO A c xs o1 o2):WsO A c xs (o1++o2):=⟨⟨o1,o2,rfl,h.top,h.each⟩⟩
theorem frNeed_any (x:Nv)(W:World)(hx:Reads wvC W W.heap.size x.A x.any)(hf:∀ u∈x.any,Reads zW W W.heap.size u.A u.fs)(hn:x.any.length<=5000)(hm:∀ u∈x.any,u.fs.length<=5000)(hs:∀ u∈x.any,u.name.length<=1000000/\u.rng.length<=1000000∧∀ s∈u.fs,s.length<=1000000)(h1:x.wh.length<=1000000)(h2:x.opt.length<=1000000):YC 288 #[nvV x] W λe w'=>∃ v ob,e= .returned v/\(∃ y,v=nvV y/\Nv.nt y=Nv.nt x/\nsO y ob)/\Own [] W w' ob:=by
 have hT:∀ w,Below W.heap.size W w->YC 326 #[.slice x.A x.any.length x.cap,.func (.func 327) #[] #[]] w λe w'=>∃ v ob,e= .returned v/\(∃ A' c' ys o1 o2,v= .slice A' ys.length c'/\ob=o1++o2/\ys.map Wv.wt=x.any.map Wv.wt/\LsO 77 4 wvC wsO A' c' ys o1 o2)/\Own [] w w' ob:=λw hb=>frW_any x.A x.cap x.any w (hx.on hb hb.size) hn λu hu w2 hb2=>by
  have hb3:=hb.trans (hb2.mono hb.size)
  exact frWish_any u w2 ((hf u hu).on hb3 hb3.size) (hm u hu) (hs u hu).2.2 (hs u hu).1 (hs u hu).2.1
 obtain ⟨A,cap,any,wh,opt⟩:=x
 refine z8 Tryz.func288 (zV [] λb1=>zD [] λb2=> ?_)
 refine yJ 10 [] [⟨b2,ZM,74⟩,⟨b1, #[.slice A any.length cap,.string (mkS wh),.string (mkS opt)],74⟩] (λw hO=>hO.past 0 _) (zK [1,1,1] 2 (y9 (R:=λv ob=>∃ A' c' ys o1 o2,v= .slice A' ys.length c'/\ob=o1++o2/\ys.map Wv.wt=any.map Wv.wt/\LsO 77 4 wvC wsO A' c' ys o1 o2) (λw hO=>hT w hO.below) ?_))
 rintro _ _ ⟨A',c',ys,o1,o2,rfl,rfl,hy,hL⟩
 refine zK [] 5 (z1 (v:= .string (mkS wh)) [] (λw hO=>y5 wh w (by have:wh.length<=1000000:=h1;omega)) (zK [] 8 (z1 (v:= .string (mkS opt)) [] (λw hO=>y5 opt w (by have:opt.length<=1000000:=h2;omega)) ?_)))
 exact gH [0] 0 (nvV ⟨A',c',ys,wh,opt⟩) λw hO=>⟨_,o1++o2,rfl,⟨⟨A',c',ys,wh,opt⟩,rfl,by unfold Nv.nt;rw [hy],wsO_of hL⟩,hO.past 2 (o1++o2)⟩
theorem nsO_of {A:Option Addr}{c:Nat}{xs:List Nv}{o1 o2:List Blk}(h:LsO 74 3 nvC nsO A c xs o1 o2):NsO A c xs o1 o2:=⟨h.top,h.each⟩
theorem ftO_of {A:Option Addr}{c:Nat}{xs:List Fv}{o1 o2:List Blk}(h:LsO 82 2 fvC fsO A c xs o1 o2):FtO A c xs o1 o2:=⟨h.top,h.each⟩
theorem frRec_any (x:Rv)(W:World)(hx:RcIn W W.heap.size x):YC 249 #[rvV x] W λe w'=>∃ v ob,e= .returned v/\(∃ y,v=rvV y/\y.rt=x.rt/\RecO y ob)/\Own [] W w' ob:=by
 have hN:∀ w,Below W.heap.size W w->YC 287 #[.slice x.nA x.needs.length x.nc,.func (.func 288) #[] #[]] w λe w'=>∃ v ob,e= .returned v/\(∃ A' c' ys o1 o2,v= .slice A' ys.length c'/\ob=o1++o2/\ys.map Nv.nt=x.needs.map Nv.nt/\LsO 74 3 nvC nsO A' c' ys o1 o2)/\Own [] w w' ob:=λw hb=>frN_any x.nA x.nc x.needs w (hx.needs.on hb hb.size) hx.nn λn hn w2 hb2=>by
  have hb3:=hb.trans (hb2.mono hb.size)
  exact frNeed_any n w2 ((hx.any n hn).on hb3 hb3.size) (λu hu=>(hx.wfs n hn u hu).on hb3 hb3.size) (hx.na n hn) (hx.nf n hn) (hx.su n hn) (hx.sw n hn).1 (hx.sw n hn).2
 have hB:∀ w,Below W.heap.size W w->YC 289 #[.slice x.bA x.bars.length x.bc,.func (.func 290) #[] #[]] w λe w'=>∃ v ob,e= .returned v/\(∃ A' c' ys o1 o2,v= .slice A' ys.length c'/\ob=o1++o2/\ys.map Bv.bt=x.bars.map Bv.bt/\LsO 80 3 bvC bsO A' c' ys o1 o2)/\Own [] w w' ob:=λw hb=>frB_any x.bA x.bc x.bars w (hx.bars.on hb hb.size) hx.nb λb hb' w2 _=>frBar_any b w2 (hx.sb b hb').1 (hx.sb b hb').2.1 (hx.sb b hb').2.2
 have hF:∀ w,Below W.heap.size W w->YC 291 #[.slice x.fA x.fts.length x.fc,.func (.func 292) #[] #[]] w λe w'=>∃ v ob,e= .returned v/\(∃ A' c' ys o1 o2,v= .slice A' ys.length c'/\ob=o1++o2/\ys.map Fv.ft=x.fts.map Fv.ft/\LsO 82 2 fvC fsO A' c' ys o1 o2)/\Own [] w w' ob:=λw hb=>frF_any x.fA x.fc x.fts w (hx.fts.top.on hb hb.size) hx.fts.n λf hf w2 hb2=>by
  have hb3:=hb.trans (hb2.mono hb.size)
  exact frFeat_any f w2 ((hx.fts.each f hf).on hb3 hb3.size) (hx.fts.m f hf) (hx.fts.text f hf) (hx.fts.name f hf)
 obtain ⟨s1,s2,s3⟩:=hx.sn
 obtain ⟨nm,a,b,c,p,q,nA,nc,ns,bA,bc,bs,fA,fc,fs⟩:=x
 dsimp only at hN hB hF s1 s2 s3
 refine z8 Tryz.func249 (zV [] λb1=>zD [] λb2=> ?_)
 refine yJ 16 [] [⟨b2,ZE,28⟩,⟨b1, #[.string (mkS nm),YI a,YI b,YI c,.string (mkS p),.string (mkS q),.slice nA ns.length nc,.slice bA bs.length bc,.slice fA fs.length fc],28⟩] (λw hO=>hO.past 0 _) (zK [1,1,1,1,1] 2 (z1 (v:= .string (mkS nm)) [] (λw hO=>y5 nm w Om) (zK [] 5 (z1 (v:= .agg #[YI a,YI b,YI c,.string (mkS p),.string (mkS q)]) [] (λw hO=>frVer_any a b c p q w s2 s3) (zK [] 8 (y9 (R:=λv ob=>∃ A' c' ys o1 o2,v= .slice A' ys.length c'/\ob=o1++o2/\ys.map Nv.nt=ns.map Nv.nt/\LsO 74 3 nvC nsO A' c' ys o1 o2) (λw hO=>hN w hO.below) ?_))))))
 rintro _ _ ⟨A1,c1,ys,o1,o2,rfl,rfl,hy,hL1⟩
 refine zK [] 11 (y9 (R:=λv ob=>∃ A' c' ys o1 o2,v= .slice A' ys.length c'/\ob=o1++o2/\ys.map Bv.bt=bs.map Bv.bt/\LsO 80 3 bvC bsO A' c' ys o1 o2) (λw hO=>hB w hO.below) ?_)
 rintro _ _ ⟨A2,c2,zs,o4,o5,rfl,rfl,hz,hL2⟩
 refine zK [] 14 (y9 (R:=λv ob=>∃ A' c' ys o1 o2,v= .slice A' ys.length c'/\ob=o1++o2/\ys.map Fv.ft=fs.map Fv.ft/\LsO 82 2 fvC fsO A' c' ys o1 o2) (λw hO=>hF w hO.below) ?_)
 rintro _ _ ⟨A3,c3,us,o7,o8,rfl,rfl,hu,hL3⟩
 have e:(⟨nm,a,b,c,p,q,A1,c1,ys,A2,c2,zs,A3,c3,us⟩:Rv).rt=(⟨nm,a,b,c,p,q,nA,nc,ns,bA,bc,bs,fA,fc,fs⟩:Rv).rt:=by
  unfold Rv.rt x2;dsimp only;rw [hy,hz,hu];rfl
 exact gH [0] 0 (rvV ⟨nm,a,b,c,p,q,A1,c1,ys,A2,c2,zs,A3,c3,us⟩) λw hO=>⟨_,o4++(o1++o2)++(o7++o8),rfl,⟨⟨nm,a,b,c,p,q,A1,c1,ys,A2,c2,zs,A3,c3,us⟩,rfl,e,⟨⟨o1,o2,o4,o7,o8,rfl,nsO_of hL1,hL2.top,ftO_of hL3⟩⟩⟩,fD o5 (hO.past 2 ((o1++o2)++(o4++o5)++(o7++o8))) λf=>by simp only [List.countP_append];omega⟩
theorem frEnt_any (x:Ev)(W:World)(hx:RcIn W W.heap.size x.rec'):YC 207 #[evV x] W λe w'=>∃ v ob,e= .returned v/\(∃ y,v=evV y/\Ev.et y=Ev.et x/\esO y ob)/\Own [] W w' ob:=by
 have hR:∀ w,Below W.heap.size W w->YC 249 #[rvV x.rec'] w λe w'=>∃ v ob,e= .returned v/\(∃ y,v=rvV y/\y.rt=x.rec'.rt/\RecO y ob)/\Own [] w w' ob:=λw hb=>frRec_any x.rec' w (hx.on hb hb.size)
 obtain ⟨⟨nm,a,b,c,p,q,nA,nc,ns,bA,bc,bs,fA,fc,fs⟩,sm,yk⟩:=x
 dsimp only at hR
 refine z8 Tryz.func207 (zV [] λb1=>zD [] λb2=>yV (R:=λv ob=>∃ y,v=rvV y/\y.rt=(⟨nm,a,b,c,p,q,nA,nc,ns,bA,bc,bs,fA,fc,fs⟩:Rv).rt/\RecO y ob) [1] (λw hO=>hR w hO.below) ?_)
 rintro _ ob ⟨y,rfl,hy,hO'⟩
 exact gH [1,1,0,0] 0 (evV ⟨y,sm,yk⟩) λw hO=>⟨_,ob,rfl,⟨⟨y,sm,yk⟩,rfl,by unfold Ev.et;rw [hy],hO'⟩,hO.past 2 ob⟩
theorem frShelf_any (x:Hv)(W:World)(hx:EsIn W W.heap.size x.A x.es)(hs:x.name.length<=1000000):YC 151 #[hvV x] W λe w'=>∃ v ob,e= .returned v/\(∃ y,v=hvV y/\y.sh=x.sh/\ShO y ob)/\Own [] W w' ob:=by
 have hE:∀ w,Below W.heap.size W w->YC 206 #[.slice x.A x.es.length x.cap,.func (.func 207) #[] #[]] w λe w'=>∃ v ob,e= .returned v/\(∃ A' c' ys o1 o2,v= .slice A' ys.length c'/\ob=o1++o2/\ys.map Ev.et=x.es.map Ev.et/\LsO 57 11 evC esO A' c' ys o1 o2)/\Own [] w w' ob:=λw hb=>frE_any x.A x.cap x.es w (hx.top.on hb hb.size) hx.n λe he w2 hb2=>by
  have hb3:=hb.trans (hb2.mono hb.size)
  exact frEnt_any e w2 ((hx.each e he).on hb3 hb3.size)
 obtain ⟨nm,A,cap,es⟩:=x
 dsimp only at hE hs
 refine z8 Tryz.func151 (zV [] λb1=>zD [] λb2=> ?_)
 refine yJ 7 [] [⟨b2,Z0,49⟩,⟨b1, #[.string (mkS nm),.slice A es.length cap],49⟩] (λw hO=>hO.past 0 _) (zK [1,1] 2 (z1 (v:= .string (mkS nm)) [] (λw hO=>y5 nm w Om) (zK [] 5 (y9 (R:=λv ob=>∃ A' c' ys o1 o2,v= .slice A' ys.length c'/\ob=o1++o2/\ys.map Ev.et=es.map Ev.et/\LsO 57 11 evC esO A' c' ys o1 o2) (λw hO=>hE w hO.below) ?_))))
 rintro _ _ ⟨A',c',ys,o1,o2,rfl,rfl,hy,hL⟩
 exact gH [0] 0 (hvV ⟨nm,A',c',ys⟩) λw hO=>⟨_,o1++o2,rfl,⟨⟨nm,A',c',ys⟩,rfl,by unfold Hv.sh;dsimp only;rw [hy],o1,o2,rfl,hL⟩,hO.past 2 (o1++o2)⟩
end
section
theorem run_slhmA {P:Program}{ρ:Operand->Value}{o:Oper}{t e:TypeId}{x z y:Operand}{A:Option Addr}{n c sz:Nat}{k q:IntKind}{j m:Int}(ho:o.op= .slice t x none (some z) (some y))(hx:ρ x= .slice A n c)(hz:ρ z= .int k j)(hy:ρ y= .int q m)
  (hu:P.underlying t=some (.slice e)) (hs:(P.info? e).map (·.size)=some sz) (h0:0<=j) (h1:j<=m) (h2:m<=c) (hA:m=0∨∃ b off,A=some ⟨b,off,none⟩) (w:World):(execOp ρ o).run P w= .ok (.value (.slice A j.toNat m.toNat)) w:=by
 cases he:P.info? e with
 |none=>rw [he] at hs;cases hs
 |some i=>
  rw [he] at hs
  obtain rfl:=Option.some.inj hs
  have h3:0<=m:=Int.le_trans h0 h1
  have key:(if m<=0 then A else A.map λa=>a.add 0)=A:=by
   rcases hA with rfl|⟨b,off,rfl⟩
   ·rfl
   ·split
    ·rfl
    ·simp [yE]
  have hmx:max m 0=m:=by omega
  unfold execOp
  simp [ho,hx,hz,hy,Instr.sliceAt,Instr.slice,Instr.sliceBounds,Instr.sliceBound,Sem.run_bind,asIntOf,run_underlying hu,h0,h1,h2,h3,sizeOf,typeInfo,he]
  rw [hmx,if_pos h1,key]
section
variable {M:List Nat}{P:Program}{n:Nat}{W:World}{Q:Exit->Act->World->Prop}{c:Xc}
theorem x_slhmA (d:Nat)(h:List Nat)(A:Option Addr)(N cp sz:Nat)(j m:Int)(hj:0<=j/\j<=m/\m<=cp)(hA:m=0∨∃ b off,A=some ⟨b,off,none⟩)(v:Value)(hv: .slice A j.toNat m.toNat=v)(hg:zA M P n W Q ((xgo P n (d+50000) h c).put v))
  (hkt:(xgl P n (d+50000) h c,xW n (xgo P n (d+50000) h c),(skQ (xO (xgo P n (d+50000) h c))).2.2.2.2,ev n (xgo P n (d+50000) h c).f (skQ (xO (xgo P n (d+50000) h c))).2.1,ev n (xgo P n (d+50000) h c).f (skQ (xO (xgo P n (d+50000) h c))).2.2.1,ev n (xgo P n (d+50000) h c).f (skQ (xO (xgo P n (d+50000) h c))).2.2.2.1,P.underlying (skQ (xO (xgo P n (d+50000) h c))).1,(P.info? (xEl P (skQ (xO (xgo P n (d+50000) h c))).1)).map (·.size))
   =(xgr P n (d+50000) h c,true,true,.slice A N cp,YI j,YI m,some (.slice (xEl P (skQ (xO (xgo P n (d+50000) h c))).1)),some sz):=by kernel_rfl):zA M P n W Q c:=by
 simp only [Prod.mk.injEq] at hkt
 obtain ⟨hk,e1,e2,e3,e4,e5,e6,e7⟩:=hkt
 exact zJ h c hk (yZ e1 (λw=>by rw [run_slhmA (skQ_op e2) e3 e4 e5 e6 e7 hj.1 hj.2.1 hj.2.2 hA w,hv]) hg)
theorem x_appC {T:TypeId}{sz N m cp:Nat}{A:Option Addr}(h:List Nat)(xs:List Value)(q:Nat)(L1:List Blk)(hxl:xs.length=N*sz)(hA:A=none->N=0)(hxs:∀ w,Own M W w L1→∀ b,A=some b→∀ j u,xs[j]?=some u->w.cell? (b.add j)=some u)(hm:0<m)(hN:N+m<=1000000)
  (hg:∀ v' ob',Sl T sz v' (N+m) (xs++(xG L1 q).cs.toList) ob'->zA M P n W Q ⟨.ops (xA (xgo P n nS h c)) (xT (xgo P n nS h c)),(xgo P n nS h c).k,L1++ob',upd (xgo P n nS h c).f (xO (xgo P n nS h c)).dst v'⟩)
  (hkt:(xgl P n nS h c,(xgo P n nS h c).L,(xgo P n nS h c).top,zM (xA (xgo P n nS h c)) n (xgo P n nS h c).f (xO (xgo P n nS h c)),(xO (xgo P n nS h c)).op,ev n (xgo P n nS h c).f (aX (xO (xgo P n nS h c)) 0),ev n (xgo P n nS h c).f (aX (xO (xgo P n nS h c)) 1),L1[q]?,P.underlying (aT (xO (xgo P n nS h c))),aInfo P T,(xG L1 q).cs.toList.length,(xG L1 q).cs.toList.all λu=>u.oneCell')
   =(xgr P n nS h c,L1,.ops (xA (xgo P n nS h c)) (xO (xgo P n nS h c)::xT (xgo P n nS h c)),true,aOp (xO (xgo P n nS h c)),.slice A N N,.slice (some ⟨(xG L1 q).b,0,none⟩) m cp,some (xG L1 q),some (.slice T),some (true,sz,some sz),m*sz,true):=by kernel_rfl):zA M P n W Q c:=by
 simp only [Prod.mk.injEq] at hkt
 obtain ⟨hk,f1,e1,e3,e4,e5,e6,e7',e8,e9,e10,e11⟩:=hkt
 refine zJ h c hk ?_
 generalize (xgo P n nS h c)=d at*
 have:d=⟨.ops (xA d) (xO d::xT d),d.k,L1,d.f⟩:=by rw [←e1,←f1]
 rw [this]
 obtain ⟨i,z,hi,hz,hsz,hzs,hby⟩:=bB e9
 have hlit:∀ w,Own M W w L1→∀ j u,(xG L1 q).cs.toList[j]?=some u->w.cell? ((⟨(xG L1 q).b,0,none⟩:Addr).add j)=some u:=λw hO j u hj=>by
  rw [yE,cell_of_row w _ _ _ _ _ (hO.held _ (List.mem_of_getElem? e7')),Nat.zero_add]
  simpa using hj
 have hb:(N+m)*i.bytes<=140737488355328:=by have:=Nat.mul_le_mul hN hby;omega
 cases A with
 |none=>
  obtain rfl:=hA rfl
  have hx0:xs=[]:=by simpa using hxl
  subst hx0
  refine ⟨λhq=>vZ (L':=L1++[]++[]) (λw hO=>by simpa using hO) (m6 (E:=L1) (ob:=[]) (L0:=[]) e3 e4 e8 hi hz hsz hzs e5 (Sl.nil T sz) e6 e10 (λw hO j u hj=>hlit w (by simpa using hO) j u hj) (List.all_eq_true.1 e11) (by unfold maxLen;omega) hb λv' ob' h=>vZ (L':=L1++ob') (λw hO=>by simpa using hO) ((hg v' ob' h).go hq))⟩
 |some b=>
  exact ⟨λhq=>s_appendF e3 e4 e8 hi hz hsz hzs e5 hxl (λw hO j u hj=>hxs w hO b rfl j u hj) e6 e10 hlit Om (by unfold maxLen;omega) hb λv' ob' h=>vZ (L':=L1++ob') (λw hO=>hO.perm List.perm_append_comm) ((hg v' ob' h).go hq)⟩
end
section
variable {M:List Nat}{P:Program}{n:Nat}{ops:Array Oper}{W:World}{L0:List Blk}{Q:Exit->Act->World->Prop}{fuel:Nat}{listed:Array Bool}{L:List Blk}{f:Nat->Value}
theorem h_take14 {L':List Blk}(hs:∀ w,Own M W w L->Own M W w L')(h:wI M P n ops W L0 Q fuel listed L' f):wI M P n ops W L0 Q fuel listed L f:=⟨λw hO=>h.go w (hs w hO)⟩
theorem hl_appendF {i0:Nat}(oi:Oper){t T:TypeId}{s x:Operand}{i:TypeInfo}{z:Value}{sz:Nat}(hi0:ops[i0]?=some oi)(hw:zM ops n f oi=true)(ho:oi.op= .call {callee:= .builtin .append,args:= #[s,x],argTypes:= #[t,t]})
  (ht:P.underlying t=some (.slice T)) (hi:P.info? T=some i) (hz:i.zero=some z) (hsz:i.size=sz) (hzs:z.cells.size=sz)
  {b:Addr} {N cap:Nat} {xs:List Value} (hs:ev n f s= .slice (some b) N cap) (hxl:xs.length=N*sz) (hxs:∀ w,Own M W w L→∀ j u,xs[j]?=some u->w.cell? (b.add j)=some u)
  {a:Addr} {m c:Nat} {news:List Value} (hx:ev n f x= .slice (some a) m c) (hl:news.length=m*sz) (hnews:∀ w,Own M W w L→∀ j u,news[j]?=some u->w.cell? (a.add j)=some u)
  (hroom:cap<N+m) (h63:N+m<=maxLen) (hbytes:(N+m)*i.bytes<=140737488355328) (hsub:∀ ob' w,Own M W w (ob'++L)->Own M W w L0)
  (h:∀ v' ob',Sl T sz v' (N+m) (xs++news) ob'->wI M P n ops W L0 Q fuel (listed.setIfInBounds i0 true) (ob'++L) (upd f oi.dst v')):bD M P n ops W L0 Q fuel listed i0 L f:=
 fJ hi0 hw λw hO=>by
  subst hsz
  have hsmall:N+m<=9223372036854775807:=by simp only [maxLen] at h63;omega
  have hlen:(xs++news).length=(N+m)*i.size:=by rw [List.length_append,hxl,hl,Nat.add_mul]
  have hr:=run_append_grow (P:=P) w t oi.type T i z ht hi hz b N cap xs hxl (hxs w hO) a m c news hl (hnews w hO) Om Om (growslice_fits Om hbytes)
  have hge:=grownCap_ge w (N+m) cap T
  have hcm:=grownCap_le_maxLen w (N+m) cap T h63
  have hO':=(dP hO).alloc (xs.toArray++news.toArray++Builtin.zeroCells z.cells (grownCap w (N+m) cap T-(N+m))) T
  refine kN _ (w':=_) ?_ ⟨hsub [_] _ hO',(h _ [⟨w.heap.size,xs.toArray++news.toArray++Builtin.zeroCells z.cells (grownCap w (N+m) cap T-(N+m)),T⟩] ⟨hlen,.inr ⟨w.heap.size,grownCap w (N+m) cap T,_,rfl,rfl,hge,hcm, ?_, ?_⟩⟩).go _ hO'⟩
  ·unfold execOp
   simp only [ho,resolve,invoke,builtin,Sem.run_bind,Sem.run_pure,Result.andThen_ok,List.map_toArray,List.map_cons,List.map_nil,hs,hx,hr]
  ·simp only [Array.size_append,List.size_toArray,size_zeroCells,hzs,hxl,hl,←Nat.add_mul]
   congr 1
   omega
  ·simp only [Array.toList_append,List.append_assoc]
   rw [←List.append_assoc,←hlen]
   exact List.take_left
end
section
variable {M:List Nat}{P:Program}{n:Nat}{W:World}{Q:Exit->Act->World->Prop}{c:Xc}
theorem xh_appC {T:TypeId}{sz N m cp:Nat}{A:Option Addr}(xs:List Value)(q:Nat)(L1 L0:List Blk)(hxl:xs.length=N*sz)(hA:A=none->N=0)(hxs:∀ w,Own M W w L1→∀ b,A=some b→∀ j u,xs[j]?=some u->w.cell? (b.add j)=some u)(hm:0<m)(hN:N+m<=1000000)(hsub:∀ ob' w,Own M W w (L1++ob')->Own M W w L0)
  (hg:∀ v' ob',Sl T sz v' (N+m) (xs++(xG L1 q).cs.toList) ob'->zA M P n W Q (aNext c (L1++ob') v'))
  (hkt:(c.L,hL c,c.top,(xA c)[hI c]?,zM (xA c) n c.f (xO c),(xO c).op,ev n c.f (aX (xO c) 0),ev n c.f (aX (xO c) 1),L1[q]?,P.underlying (aT (xO c)),aInfo P T,(xG L1 q).cs.toList.length,(xG L1 q).cs.toList.all λu=>u.oneCell')
   =(L1,L0,.hst (xA c) (hS c) (hU c) (hL c) (hI c),some (xO c),true,aOp (xO c),.slice A N N,.slice (some ⟨(xG L1 q).b,0,none⟩) m cp,some (xG L1 q),some (.slice T),some (true,sz,some sz),m*sz,true):=by kernel_rfl):zA M P n W Q c:=by
 simp only [Prod.mk.injEq] at hkt
 obtain ⟨f1,f2,e1,e2,e3,e4,e5,e6,e7',e8,e9,e10,e11⟩:=hkt
 have:c=⟨.hst (xA c) (hS c) (hU c) (hL c) (hI c),c.k,L1,c.f⟩:=by rw [←e1,←f1]
 rw [←f2] at hsub
 rw [this]
 obtain ⟨i,z,hi,hz,hsz,hzs,hby⟩:=bB e9
 have hlit:∀ w,Own M W w L1→∀ j u,(xG L1 q).cs.toList[j]?=some u->w.cell? ((⟨(xG L1 q).b,0,none⟩:Addr).add j)=some u:=λw hO j u hj=>by
  rw [yE,cell_of_row w _ _ _ _ _ (hO.held _ (List.mem_of_getElem? e7')),Nat.zero_add]
  simpa using hj
 have hb:(N+m)*i.bytes<=140737488355328:=by have:=Nat.mul_le_mul hN hby;omega
 cases A with
 |none=>
  obtain rfl:=hA rfl
  have hx0:xs=[]:=by simpa using hxl
  subst hx0
  refine ⟨λhq hs0=>tN (L':=L1++[]++[]) (λw hO=>by simpa using hO) (hl_append (E:=L1) (ob:=[]) (R:=[]) (xO c) e2 e3 e4 e8 hi hz hsz hzs e5 (Sl.nil T sz) e6 e10 (λw hO j u hj=>hlit w (by simpa using hO) j u hj) (List.all_eq_true.1 e11) (by unfold maxLen;omega) hb (λob' w hO=>hsub ob' w (by simpa using hO)) λv' ob' h=>h_take14 (L':=L1++ob') (λw hO=>by simpa using hO) ((hg v' ob' h).go hq (hsub ob')))⟩
 |some b=>
  exact ⟨λhq hs0=>hl_appendF (xO c) e2 e3 e4 e8 hi hz hsz hzs e5 hxl (λw hO j u hj=>hxs w hO b rfl j u hj) e6 e10 hlit Om (by unfold maxLen;omega) hb (λob' w hO=>hsub ob' w (hO.perm List.perm_append_comm)) λv' ob' h=>h_take14 (L':=L1++ob') (λw hO=>hO.perm List.perm_append_comm) ((hg v' ob' h).go hq (hsub ob'))⟩
end
theorem Reads.fst {α:Type}{g:α->List Value}{w:World}{B:Nat}{A:Option Addr}{l:List α}(h:Reads g w B A l)(k:Nat):Reads g w B A (l.take k):=λh0=>by
 rw [List.length_take] at h0
 obtain ⟨b,off,e,hlt,hc⟩:=h Om
 refine ⟨b,off,e,hlt,λj u hj=>hc j u ?_⟩
 have e2:l.flatMap g=(l.take k).flatMap g++(l.drop k).flatMap g:=by rw [←List.flatMap_append,List.take_append_drop]
 rw [e2,List.getElem?_append_left (by
  have:=List.getElem?_eq_some_iff.1 hj
  exact this.1)]
 exact hj
end
section
set_option linter.unnecessarySimpa false
theorem j6 {α β:Type}{f:α->β}{l m:List α}{i:Nat}(hi:i<l.length)(hj:i<m.length)(h:f l[i]≠f m[i]):l.map f≠m.map f:=λe=>h (by
 have h1:(l.map f)[i]'(by rw [List.length_map];exact hi)=f l[i]:=List.getElem_map ..
 have h2:(m.map f)[i]'(by rw [List.length_map];exact hj)=f m[i]:=List.getElem_map ..
 rw [←h1,←h2];exact List.getElem_of_eq e _)
theorem dE {α β:Type}{f:α->β}{l m:List α}{i:Nat}(hi:i<l.length)(hj:i<m.length)(h:(l.map f).take i=(m.map f).take i)(e:f l[i]=f m[i]):(l.map f).take (i+1)=(m.map f).take (i+1):=by
 rw [List.take_succ_eq_append_getElem (by rw [List.length_map];exact hi),List.take_succ_eq_append_getElem (by rw [List.length_map];exact hj),h,List.getElem_map,List.getElem_map,e]
theorem nB {α β:Type}{f:α->β}{l m:List α}{i:Nat}(hl:l.length=m.length)(hi:l.length<=i)(h:(l.map f).take i=(m.map f).take i):l.map f=m.map f:=by
 rwa [List.take_of_length_le (by rw [List.length_map];exact hi),List.take_of_length_le (by rw [List.length_map];omega)] at h
theorem bar_dec (u v:Bv):decide (u.bt=v.bt)=(decide (u.name=v.name) && (decide (u.rng=v.rng) && decide (u.wh=v.wh))):=by
 obtain ⟨a,b,c⟩:=u
 obtain ⟨a',b',c'⟩:=v
 simp only [Bv.bt,Bt.mk.injEq,Bool.decide_and]
theorem eq_bar (u v:Bv)(d:Nat)(w:World):(Op.equalIn (d+1+1) 80 (bvV u) (bvV v)).run Tryz.prog w= .ok (decide (u.bt=v.bt)) w:=by
  have h:=eq_agg (P:=Tryz.prog) (d:=d+1) (t:=80) (xs:=(bvV u).cells) (ys:=(bvV v).cells) (bs:=[(mkS u.name).toList==(mkS v.name).toList,(mkS u.rng).toList==(mkS v.rng).toList,(mkS u.wh).toList==(mkS v.wh).toList]) Tryz.underlying80 Kr
    ⟨by decide,⟨.string (mkS u.name),.string (mkS v.name),λw=>⟨by kernel_rfl,by kernel_rfl,run_equalIn_string w d _ _ _ Tryz.underlying9⟩⟩,
     by decide,⟨.string (mkS u.rng),.string (mkS v.rng),λw=>⟨by kernel_rfl,by kernel_rfl,run_equalIn_string w d _ _ _ Tryz.underlying9⟩⟩,
     by decide,⟨.string (mkS u.wh),.string (mkS v.wh),λw=>⟨by kernel_rfl,by kernel_rfl,run_equalIn_string w d _ _ _ Tryz.underlying9⟩⟩,trivial⟩ w
  rw [all3,wA,wA,wA,←bar_dec] at h
  exact h
theorem guard_bar:Tryz.prog.eqGuardType Tryz.prog.depth 80=false:=by kernel_rfl
theorem op_ne_bar {ρ:Operand->Value}{o:Oper}{t':TypeId}{x y:Operand}{u v:Bv}{b:Bool}(ho:o.op= .binOp .neq 80 x y t')(hx:ρ x=bvV u)(hy:ρ y=bvV v)(hb:decide (u.bt=v.bt)=b)(w:World):(execOp ρ o).run Tryz.prog w= .ok (.value (.bool (!b))) w:=
 run_ne_op ho hx hy guard_bar (λw=>hb▸eq_bar u v 9998 w) w
end
section
set_option linter.unnecessarySimpa false
theorem op_eq_verQ {ρ:Operand->Value}{o:Oper}{t':TypeId}{x y:Operand}{u v:Ver}{b:Bool}(ho:o.op= .binOp .eql 23 x y t')(hx:ρ x=x5 u)(hy:ρ y=x5 v)(hb:decide (u=v)=b)(w:World):(execOp ρ o).run Tryz.prog w= .ok (.value (.bool b)) w:=
 run_eq_op ho hx hy guard_ver (λw=>hb▸eq_ver u v 9998 w) w
section
variable {M:List Nat}{n:Nat}{W:World}{Q:Exit->Act->World->Prop}{c:Xc}
theorem x_eqa {α:Type}{p:α->α->Prop}[∀ u v,Decidable (p u v)](T:TypeId)(enc:α->Value)(hrun:∀ {ρ:Operand->Value} {o:Oper} {t':TypeId} {x y:Operand} {u v:α} {b:Bool},o.op= .binOp .eql T x y t'->ρ x=enc u->ρ y=enc v->decide (p u v)=b→∀ w,(execOp ρ o).run Tryz.prog w= .ok (.value (.bool b)) w)
  (d:Nat) (h:List Nat) (u v:α) (h1:p u v->zA M Tryz.prog n W Q ((xgo Tryz.prog n (d+50000) h c).put (.bool true))) (h2:¬ p u v->zA M Tryz.prog n W Q ((xgo Tryz.prog n (d+50000) h c).put (.bool false)))
  (hkt:(xgl Tryz.prog n (d+50000) h c,xW n (xgo Tryz.prog n (d+50000) h c),(xO (xgo Tryz.prog n (d+50000) h c)).op,ev n (xgo Tryz.prog n (d+50000) h c).f (oX (xO (xgo Tryz.prog n (d+50000) h c))),ev n (xgo Tryz.prog n (d+50000) h c).f (oY (xO (xgo Tryz.prog n (d+50000) h c))))=(xgr Tryz.prog n (d+50000) h c,true,.binOp .eql T (oX (xO (xgo Tryz.prog n (d+50000) h c))) (oY (xO (xgo Tryz.prog n (d+50000) h c))) (oU (xO (xgo Tryz.prog n (d+50000) h c))),enc u,enc v):=by kernel_rfl):zA M Tryz.prog n W Q c:=by
 simp only [Prod.mk.injEq] at hkt
 obtain ⟨hk,e1,e2,e3,e4⟩:=hkt
 by_cases hp:p u v
 ·exact zJ h c hk (yZ e1 (λw=>hrun e2 e3 e4 (decide_eq_true hp) w) (h1 hp))
 ·exact zJ h c hk (yZ e1 (λw=>hrun e2 e3 e4 (decide_eq_false hp) w) (h2 hp))
end
theorem no_len {α β:Type}{f:α->β}{l m:List α}(h:¬ (l.length:Int)=(m.length:Int)):¬ l.map f=m.map f:=λe=>h (by
 have:=congrArg List.length e
 simp only [List.length_map] at this;omega)
def stV (s:List UInt8):Value:= .string (mkS s)
theorem qEqS_any (A B:Option Addr)(cap capb:Nat)(xs ys:List (List UInt8))(W:World)(hx:Reads zW W W.heap.size A xs)(hy:Reads zW W W.heap.size B ys)(hn:xs.length<=1000000)(hm:ys.length<=1000000):YC 252 #[.slice A xs.length cap,.slice B ys.length capb] W (YR (.bool (decide (xs.map id=ys.map id))) W):=by
 have hno:∀ w,Below W.heap.size W w→¬ xs.map id=ys.map id->(Ending.returned (.bool false)= .returned (.bool (decide (xs.map id=ys.map id))))/\Below W.heap.size W w:=λw hb h=>⟨by rw [decide_eq_false h],hb⟩
 refine z8 Tryz.func252 (qT 10 [] ((xs.length:Int)=(ys.length:Int)) (λh1=> ?_) (λh1=> ?_))
 rotate_left
 ·exact z6 [] Z5 λw hO=>hno w hO.below (no_len h1)
 have hl:xs.length=ys.length:=by omega
 refine y4 (α:=Nat) (λi=>[(0,.slice A xs.length cap),(1,.slice B ys.length capb),(12,YI (xs.length:Int)),(13,YI (i:Int))]) (λ_=>[]) (λi m=>(i<=xs.length/\(xs.map id).take i=(ys.map id).take i)/\m=xs.length-i) 0 xs.length [] ⟨⟨Nat.zero_le _,rfl⟩,rfl⟩ ?_
 rintro i mm g kk ⟨⟨hi,heq⟩,hmm⟩ nx hkk
 subst hkk
 refine zE 14 [] ((i:Int)<(xs.length:Int)) (λh14=> ?_) (λh14=> ?_)
 rotate_left
 ·exact z6 [] Z4 λw hO=>⟨by rw [decide_eq_true (nB hl Om heq)],hO.below⟩
 have hj:i<xs.length:=by omega
 have hj2:i<ys.length:=by omega
 have hst:=dE hj hj2 heq
 have hdf:=j6 (f:=id) hj hj2
 obtain ⟨eb,eo,hA,hel⟩:=hx.elem zN i hj
 obtain ⟨fb,fo,hA2,hel2⟩:=hy.elem zN i hj2
 have h1':∀ w,Below W.heap.size W w->(loadVar 9 ⟨eb,eo+i*1+0,none⟩).run Tryz.prog w= .ok (stV xs[i]) w:=λw hw=>hel w hw _ 0 _ Kr
 have h2':∀ w,Below W.heap.size W w->(loadVar 9 ⟨fb,fo+i*1+0,none⟩).run Tryz.prog w= .ok (stV ys[i]) w:=λw hw=>hel2 w hw _ 0 _ Kr
 generalize xs[i]=u at*
 generalize ys[i]=v at*
 refine zU 18 [] hA xs.length cap i 1 hj (zP 19 [] 9 eb (eo+i*1+0) (stV u) (λw hO=>h1' w hO.below) (zU 22 [] hA2 ys.length capb i 1 hj2 (zP 23 [] 9 fb (fo+i*1+0) (stV v) (λw hO=>h2' w hO.below) (g8 24 [] u v (λh=> ?_) (λh=> ?_)))))
 ·exact x_i 13 [] ((i+1:Nat):Int) (nx (i+1) (xs.length-(i+1)) [] Om ⟨⟨hj,hst h⟩,rfl⟩ Kr Kr)
 ·exact z6 [] Z5 λw hO=>hno w hO.below (hdf h)
theorem qEqB_any (A B:Option Addr)(cap capb:Nat)(xs ys:List Bv)(W:World)(hx:Reads bvC W W.heap.size A xs)(hy:Reads bvC W W.heap.size B ys)(hn:xs.length<=1000000)(hm:ys.length<=1000000):YC 210 #[.slice A xs.length cap,.slice B ys.length capb] W (YR (.bool (decide (xs.map Bv.bt=ys.map Bv.bt))) W):=by
 have hno:∀ w,Below W.heap.size W w→¬ xs.map Bv.bt=ys.map Bv.bt->(Ending.returned (.bool false)= .returned (.bool (decide (xs.map Bv.bt=ys.map Bv.bt))))/\Below W.heap.size W w:=λw hb h=>⟨by rw [decide_eq_false h],hb⟩
 refine z8 Tryz.func210 (qT 10 [] ((xs.length:Int)=(ys.length:Int)) (λh1=> ?_) (λh1=> ?_))
 rotate_left
 ·exact z6 [] Z5 λw hO=>hno w hO.below (no_len h1)
 have hl:xs.length=ys.length:=by omega
 refine y4 (α:=Nat) (λi=>[(0,.slice A xs.length cap),(1,.slice B ys.length capb),(12,YI (xs.length:Int)),(13,YI (i:Int))]) (λ_=>[]) (λi m=>(i<=xs.length/\(xs.map Bv.bt).take i=(ys.map Bv.bt).take i)/\m=xs.length-i) 0 xs.length [] ⟨⟨Nat.zero_le _,rfl⟩,rfl⟩ ?_
 rintro i mm g kk ⟨⟨hi,heq⟩,hmm⟩ nx hkk
 subst hkk
 refine zE 14 [] ((i:Int)<(xs.length:Int)) (λh14=> ?_) (λh14=> ?_)
 rotate_left
 ·exact z6 [] Z4 λw hO=>⟨by rw [decide_eq_true (nB hl Om heq)],hO.below⟩
 have hj:i<xs.length:=by omega
 have hj2:i<ys.length:=by omega
 have hst:=dE hj hj2 heq
 have hdf:=j6 (f:=Bv.bt) hj hj2
 obtain ⟨eb,eo,hA,hel⟩:=hx.elem tZ i hj
 obtain ⟨fb,fo,hA2,hel2⟩:=hy.elem tZ i hj2
 have h1':∀ w,Below W.heap.size W w->(loadVar 80 ⟨eb,eo+i*3+0,none⟩).run Tryz.prog w= .ok (bvV xs[i]) w:=λw hw=>hel w hw _ 0 _ Kr
 have h2':∀ w,Below W.heap.size W w->(loadVar 80 ⟨fb,fo+i*3+0,none⟩).run Tryz.prog w= .ok (bvV ys[i]) w:=λw hw=>hel2 w hw _ 0 _ Kr
 generalize xs[i]=u at*
 generalize ys[i]=v at*
 refine zU 18 [] hA xs.length cap i 3 hj (zP 19 [] 80 eb (eo+i*3+0) (bvV u) (λw hO=>h1' w hO.below) (zU 22 [] hA2 ys.length capb i 3 hj2 (zP 23 [] 80 fb (fo+i*3+0) (bvV v) (λw hO=>h2' w hO.below) (x_nea (p:=λu v:Bv=>u.bt=v.bt) 80 bvV op_ne_bar 24 [] u v (λh=> ?_) (λh=> ?_)))))
 ·exact x_i 13 [] ((i+1:Nat):Int) (nx (i+1) (xs.length-(i+1)) [] Om ⟨⟨hj,hst h⟩,rfl⟩ Kr Kr)
 ·exact z6 [] Z5 λw hO=>hno w hO.below (hdf h)
theorem qEqT_any (A B:Option Addr)(cap capb:Nat)(xs ys:List (List UInt8))(W:World)(hx:Reads zW W W.heap.size A xs)(hy:Reads zW W W.heap.size B ys)(hn:xs.length<=1000000)(hm:ys.length<=1000000):YC 252 #[.slice A xs.length cap,.slice B ys.length capb] W (YR (.bool (decide (xs=ys))) W):=by
 have h:=qEqS_any A B cap capb xs ys W hx hy hn hm
 simp only [List.map_id] at h
 exact h
theorem qSameW_any (x y:Wv)(W:World)(hx:Reads zW W W.heap.size x.A x.fs)(hy:Reads zW W W.heap.size y.A y.fs)(hn:x.fs.length<=1000000)(hm:y.fs.length<=1000000):YC 251 #[wvV x,wvV y] W (YR (.bool (decide (x.wt=y.wt))) W):=by
 have hno:∀ w,Below W.heap.size W w->x.wt≠y.wt->(Ending.returned (.bool false)= .returned (.bool (decide (x.wt=y.wt))))/\Below W.heap.size W w:=λw hb h=>⟨by rw [decide_eq_false h],hb⟩
 have hT:∀ w,Below W.heap.size W w->YC 252 #[.slice x.A x.fs.length x.cap,.slice y.A y.fs.length y.cap] w (YR (.bool (decide (x.fs=y.fs))) w):=λw hb=>qEqT_any x.A y.A x.cap y.cap x.fs y.fs w (hx.on hb hb.size) (hy.on hb hb.size) hn hm
 refine z8 Tryz.func251 (zV [] λb2=>zV [] λb3=>xN 9 [1,0] x.name y.name (λh1=> ?_) (λh1=> ?_))
 rotate_left
 ·exact z6 [] Z5 λw hO=>hno w hO.below λe=>h1 (congrArg Wt.name e)
 refine xN 15 [1,0] x.rng y.rng (λh2=> ?_) (λh2=> ?_)
 rotate_left
 ·exact z6 [] Z5 λw hO=>hno w hO.below λe=>h2 (congrArg Wt.rng e)
 refine z1 (v:= .bool (decide (x.fs=y.fs))) [1,0] (λw hO=>hT w hO.below) (gW 22 (x.fs=y.fs) (λh4=> ?_) (λh4=> ?_))
 rotate_left
 ·exact z6 [] Z5 λw hO=>hno w hO.below λe=>h4 (congrArg Wt.fs e)
 refine x_bb 29 [1,0] (x.bare==y.bare) (λh3=> ?_) (λh3=> ?_)
 ·refine z6 [] Z4 λw hO=>⟨?_,hO.below⟩
  rw [decide_eq_true (show x.wt=y.wt by unfold Wv.wt;rw [h1,h2,h4,beq_iff_eq.1 h3])]
 ·exact z6 [] Z5 λw hO=>hno w hO.below λe=>by
   have:x.bare=y.bare:=congrArg Wt.bare e
   rw [this] at h3;simp at h3
theorem qEqW_any (A B:Option Addr)(cap capb:Nat)(xs ys:List Wv)(W:World)(hx:Reads wvC W W.heap.size A xs)(hy:Reads wvC W W.heap.size B ys)(hn:xs.length<=1000000)(hm:ys.length<=1000000)(hp:∀ x∈xs,∀ y∈ys,∀ w,Below W.heap.size W w->YC 251 #[wvV x,wvV y] w (YR (.bool (decide (Wv.wt x=Wv.wt y))) w)):YC 250 #[.slice A xs.length cap,.slice B ys.length capb,.func (.func 251) #[] #[]] W (YR (.bool (decide (xs.map Wv.wt=ys.map Wv.wt))) W):=by
 have hno:∀ w,Below W.heap.size W w→¬ xs.map Wv.wt=ys.map Wv.wt->(Ending.returned (.bool false)= .returned (.bool (decide (xs.map Wv.wt=ys.map Wv.wt))))/\Below W.heap.size W w:=λw hb h=>⟨by rw [decide_eq_false h],hb⟩
 refine z8 Tryz.func250 (qT 14 [] ((xs.length:Int)=(ys.length:Int)) (λh1=> ?_) (λh1=> ?_))
 rotate_left
 ·exact z6 [] Z5 λw hO=>hno w hO.below (no_len h1)
 have hl:xs.length=ys.length:=by omega
 refine y4 (α:=Nat) (λi=>[(1,.slice B ys.length capb),(2,.func (.func 251) #[] #[]),(15,.slice A xs.length cap),(16,YI (xs.length:Int)),(17,YI (i:Int))]) (λ_=>[]) (λi m=>(i<=xs.length/\(xs.map Wv.wt).take i=(ys.map Wv.wt).take i)/\m=xs.length-i) 0 xs.length [] ⟨⟨Nat.zero_le _,rfl⟩,rfl⟩ ?_
 rintro i mm g kk ⟨⟨hi,heq⟩,hmm⟩ nx hkk
 subst hkk
 refine zE 18 [] ((i:Int)<(xs.length:Int)) (λh18=> ?_) (λh18=> ?_)
 rotate_left
 ·exact z6 [] Z4 λw hO=>⟨by rw [decide_eq_true (nB hl Om heq)],hO.below⟩
 have hj:i<xs.length:=by omega
 have hj2:i<ys.length:=by omega
 have hst:=dE hj hj2 heq
 have hdf:=j6 (f:=Wv.wt) hj hj2
 have hc:=hp _ (List.getElem_mem hj) _ (List.getElem_mem hj2)
 obtain ⟨eb,eo,hA,hel⟩:=hx.elem v8 i hj
 obtain ⟨fb,fo,hA2,hel2⟩:=hy.elem v8 i hj2
 have h1':∀ w,Below W.heap.size W w->(loadVar 77 ⟨eb,eo+i*4+0,none⟩).run Tryz.prog w= .ok (wvV xs[i]) w:=λw hw=>hel w hw _ 0 _ Kr
 have h2':∀ w,Below W.heap.size W w->(loadVar 77 ⟨fb,fo+i*4+0,none⟩).run Tryz.prog w= .ok (wvV ys[i]) w:=λw hw=>hel2 w hw _ 0 _ Kr
 clear hp
 generalize xs[i]=u at*
 generalize ys[i]=v at*
 refine zU 20 [] hA xs.length cap i 4 hj (zP 21 [] 77 eb (eo+i*4+0) (wvV u) (λw hO=>h1' w hO.below) (zD [] λb8=>zU 24 [0] hA2 ys.length capb i 4 hj2 (zP 25 [] 77 fb (fo+i*4+0) (wvV v) (λw hO=>h2' w hO.below) (zD [] λb9=>z1 (v:= .bool (decide (Wv.wt u=Wv.wt v))) [0,1,0] (λw hO=>hc w hO.below) (gW 29 (Wv.wt u=Wv.wt v) (λh=> ?_) (λh=> ?_))))))
 ·exact x_i 17 [] ((i+1:Nat):Int) (zH [] [] (λw hO=>hO.no) (nx (i+1) (xs.length-(i+1)) [] Om ⟨⟨hj,hst h⟩,rfl⟩ Kr Kr))
 ·exact z6 [] Z5 λw hO=>hno w hO.below (hdf h)
theorem qSameN_any (x y:Nv)(W:World)(hx:Reads wvC W W.heap.size x.A x.any)(hy:Reads wvC W W.heap.size y.A y.any)(hxf:∀ u∈x.any,Reads zW W W.heap.size u.A u.fs)(hyf:∀ u∈y.any,Reads zW W W.heap.size u.A u.fs)(hn:x.any.length<=5000)(hm:y.any.length<=5000)(hxn:∀ u∈x.any,u.fs.length<=5000)(hyn:∀ u∈y.any,u.fs.length<=5000):YC 209 #[nvV x,nvV y] W (YR (.bool (decide (x.nt=y.nt))) W):=by
 have hno:∀ w,Below W.heap.size W w->x.nt≠y.nt->(Ending.returned (.bool false)= .returned (.bool (decide (x.nt=y.nt))))/\Below W.heap.size W w:=λw hb h=>⟨by rw [decide_eq_false h],hb⟩
 have hT:∀ w,Below W.heap.size W w->YC 250 #[.slice x.A x.any.length x.cap,.slice y.A y.any.length y.cap,.func (.func 251) #[] #[]] w (YR (.bool (decide (x.any.map Wv.wt=y.any.map Wv.wt))) w):=λw hb=>qEqW_any x.A y.A x.cap y.cap x.any y.any w (hx.on hb hb.size) (hy.on hb hb.size) Om Om λu hu v hv w2 hb2=>qSameW_any u v w2 (((hxf u hu).on hb hb.size).on hb2 hb2.size) (((hyf v hv).on hb hb.size).on hb2 hb2.size) (by have:=hxn u hu;omega) (by have:=hyn v hv;omega)
 refine z8 Tryz.func209 (zV [] λb2=>zV [] λb3=>z1 (v:= .bool (decide (x.any.map Wv.wt=y.any.map Wv.wt))) [1,0] (λw hO=>hT w hO.below) (gW 9 (x.any.map Wv.wt=y.any.map Wv.wt) (λh1=> ?_) (λh1=> ?_)))
 rotate_left
 ·exact z6 [] Z5 λw hO=>hno w hO.below λe=>h1 (congrArg Nt.any e)
 refine xN 15 [1,0] x.wh y.wh (λh2=> ?_) (λh2=> ?_)
 rotate_left
 ·exact z6 [] Z5 λw hO=>hno w hO.below λe=>h2 (congrArg Nt.wh e)
 refine xN 22 [1,0] x.opt y.opt (λh3=> ?_) (λh3=> ?_)
 ·exact z6 [] Z4 λw hO=>⟨by rw [decide_eq_true (show x.nt=y.nt by unfold Nv.nt;rw [h1,h2,h3])],hO.below⟩
 ·exact z6 [] Z5 λw hO=>hno w hO.below λe=>h3 (congrArg Nt.opt e)
theorem qEqN_any (A B:Option Addr)(cap capb:Nat)(xs ys:List Nv)(W:World)(hx:Reads nvC W W.heap.size A xs)(hy:Reads nvC W W.heap.size B ys)(hn:xs.length<=1000000)(hm:ys.length<=1000000)(hp:∀ x∈xs,∀ y∈ys,∀ w,Below W.heap.size W w->YC 209 #[nvV x,nvV y] w (YR (.bool (decide (Nv.nt x=Nv.nt y))) w)):YC 208 #[.slice A xs.length cap,.slice B ys.length capb,.func (.func 209) #[] #[]] W (YR (.bool (decide (xs.map Nv.nt=ys.map Nv.nt))) W):=by
 have hno:∀ w,Below W.heap.size W w→¬ xs.map Nv.nt=ys.map Nv.nt->(Ending.returned (.bool false)= .returned (.bool (decide (xs.map Nv.nt=ys.map Nv.nt))))/\Below W.heap.size W w:=λw hb h=>⟨by rw [decide_eq_false h],hb⟩
 refine z8 Tryz.func208 (qT 14 [] ((xs.length:Int)=(ys.length:Int)) (λh1=> ?_) (λh1=> ?_))
 rotate_left
 ·exact z6 [] Z5 λw hO=>hno w hO.below (no_len h1)
 have hl:xs.length=ys.length:=by omega
 refine y4 (α:=Nat) (λi=>[(1,.slice B ys.length capb),(2,.func (.func 209) #[] #[]),(15,.slice A xs.length cap),(16,YI (xs.length:Int)),(17,YI (i:Int))]) (λ_=>[]) (λi m=>(i<=xs.length/\(xs.map Nv.nt).take i=(ys.map Nv.nt).take i)/\m=xs.length-i) 0 xs.length [] ⟨⟨Nat.zero_le _,rfl⟩,rfl⟩ ?_
 rintro i mm g kk ⟨⟨hi,heq⟩,hmm⟩ nx hkk
 subst hkk
 refine zE 18 [] ((i:Int)<(xs.length:Int)) (λh18=> ?_) (λh18=> ?_)
 rotate_left
 ·exact z6 [] Z4 λw hO=>⟨by rw [decide_eq_true (nB hl Om heq)],hO.below⟩
 have hj:i<xs.length:=by omega
 have hj2:i<ys.length:=by omega
 have hst:=dE hj hj2 heq
 have hdf:=j6 (f:=Nv.nt) hj hj2
 have hc:=hp _ (List.getElem_mem hj) _ (List.getElem_mem hj2)
 obtain ⟨eb,eo,hA,hel⟩:=hx.elem wD i hj
 obtain ⟨fb,fo,hA2,hel2⟩:=hy.elem wD i hj2
 have h1':∀ w,Below W.heap.size W w->(loadVar 74 ⟨eb,eo+i*3+0,none⟩).run Tryz.prog w= .ok (nvV xs[i]) w:=λw hw=>hel w hw _ 0 _ Kr
 have h2':∀ w,Below W.heap.size W w->(loadVar 74 ⟨fb,fo+i*3+0,none⟩).run Tryz.prog w= .ok (nvV ys[i]) w:=λw hw=>hel2 w hw _ 0 _ Kr
 clear hp
 generalize xs[i]=u at*
 generalize ys[i]=v at*
 refine zU 20 [] hA xs.length cap i 3 hj (zP 21 [] 74 eb (eo+i*3+0) (nvV u) (λw hO=>h1' w hO.below) (zD [] λb8=>zU 24 [0] hA2 ys.length capb i 3 hj2 (zP 25 [] 74 fb (fo+i*3+0) (nvV v) (λw hO=>h2' w hO.below) (zD [] λb9=>z1 (v:= .bool (decide (Nv.nt u=Nv.nt v))) [0,1,0] (λw hO=>hc w hO.below) (gW 29 (Nv.nt u=Nv.nt v) (λh=> ?_) (λh=> ?_))))))
 ·exact x_i 17 [] ((i+1:Nat):Int) (zH [] [] (λw hO=>hO.no) (nx (i+1) (xs.length-(i+1)) [] Om ⟨⟨hj,hst h⟩,rfl⟩ Kr Kr))
 ·exact z6 [] Z5 λw hO=>hno w hO.below (hdf h)
theorem qSameF_any (x y:Fv)(W:World)(hx:Reads zW W W.heap.size x.A x.of)(hy:Reads zW W W.heap.size y.A y.of)(hn:x.of.length<=1000000)(hm:y.of.length<=1000000):YC 212 #[fvV x,fvV y] W (YR (.bool (decide (x.ft=y.ft))) W):=by
 have hno:∀ w,Below W.heap.size W w->x.ft≠y.ft->(Ending.returned (.bool false)= .returned (.bool (decide (x.ft=y.ft))))/\Below W.heap.size W w:=λw hb h=>⟨by rw [decide_eq_false h],hb⟩
 have hT:∀ w,Below W.heap.size W w->YC 252 #[.slice x.A x.of.length x.cap,.slice y.A y.of.length y.cap] w (YR (.bool (decide (x.of=y.of))) w):=λw hb=>qEqT_any x.A y.A x.cap y.cap x.of y.of w (hx.on hb hb.size) (hy.on hb hb.size) hn hm
 refine z8 Tryz.func212 (zV [] λb2=>zV [] λb3=>xN 9 [1,0] x.name y.name (λh1=> ?_) (λh1=> ?_))
 rotate_left
 ·exact z6 [] Z5 λw hO=>hno w hO.below λe=>h1 (congrArg Ft.name e)
 refine z1 (v:= .bool (decide (x.of=y.of))) [1,0] (λw hO=>hT w hO.below) (gW 15 (x.of=y.of) (λh2=> ?_) (λh2=> ?_))
 ·exact z6 [] Z4 λw hO=>⟨by rw [decide_eq_true (show x.ft=y.ft by unfold Fv.ft;rw [h1,h2])],hO.below⟩
 ·exact z6 [] Z5 λw hO=>hno w hO.below λe=>h2 (congrArg Ft.of e)
theorem qEqF_any (A B:Option Addr)(cap capb:Nat)(xs ys:List Fv)(W:World)(hx:Reads fvC W W.heap.size A xs)(hy:Reads fvC W W.heap.size B ys)(hn:xs.length<=1000000)(hm:ys.length<=1000000)(hp:∀ x∈xs,∀ y∈ys,∀ w,Below W.heap.size W w->YC 212 #[fvV x,fvV y] w (YR (.bool (decide (Fv.ft x=Fv.ft y))) w)):YC 211 #[.slice A xs.length cap,.slice B ys.length capb,.func (.func 212) #[] #[]] W (YR (.bool (decide (xs.map Fv.ft=ys.map Fv.ft))) W):=by
 have hno:∀ w,Below W.heap.size W w→¬ xs.map Fv.ft=ys.map Fv.ft->(Ending.returned (.bool false)= .returned (.bool (decide (xs.map Fv.ft=ys.map Fv.ft))))/\Below W.heap.size W w:=λw hb h=>⟨by rw [decide_eq_false h],hb⟩
 refine z8 Tryz.func211 (qT 14 [] ((xs.length:Int)=(ys.length:Int)) (λh1=> ?_) (λh1=> ?_))
 rotate_left
 ·exact z6 [] Z5 λw hO=>hno w hO.below (no_len h1)
 have hl:xs.length=ys.length:=by omega
 refine y4 (α:=Nat) (λi=>[(1,.slice B ys.length capb),(2,.func (.func 212) #[] #[]),(15,.slice A xs.length cap),(16,YI (xs.length:Int)),(17,YI (i:Int))]) (λ_=>[]) (λi m=>(i<=xs.length/\(xs.map Fv.ft).take i=(ys.map Fv.ft).take i)/\m=xs.length-i) 0 xs.length [] ⟨⟨Nat.zero_le _,rfl⟩,rfl⟩ ?_
 rintro i mm g kk ⟨⟨hi,heq⟩,hmm⟩ nx hkk
 subst hkk
 refine zE 18 [] ((i:Int)<(xs.length:Int)) (λh18=> ?_) (λh18=> ?_)
 rotate_left
 ·exact z6 [] Z4 λw hO=>⟨by rw [decide_eq_true (nB hl Om heq)],hO.below⟩
 have hj:i<xs.length:=by omega
 have hj2:i<ys.length:=by omega
 have hst:=dE hj hj2 heq
 have hdf:=j6 (f:=Fv.ft) hj hj2
 have hc:=hp _ (List.getElem_mem hj) _ (List.getElem_mem hj2)
 obtain ⟨eb,eo,hA,hel⟩:=hx.elem fL i hj
 obtain ⟨fb,fo,hA2,hel2⟩:=hy.elem fL i hj2
 have h1':∀ w,Below W.heap.size W w->(loadVar 82 ⟨eb,eo+i*2+0,none⟩).run Tryz.prog w= .ok (fvV xs[i]) w:=λw hw=>hel w hw _ 0 _ Kr
 have h2':∀ w,Below W.heap.size W w->(loadVar 82 ⟨fb,fo+i*2+0,none⟩).run Tryz.prog w= .ok (fvV ys[i]) w:=λw hw=>hel2 w hw _ 0 _ Kr
 clear hp
 generalize xs[i]=u at*
 generalize ys[i]=v at*
 refine zU 20 [] hA xs.length cap i 2 hj (zP 21 [] 82 eb (eo+i*2+0) (fvV u) (λw hO=>h1' w hO.below) (zD [] λb8=>zU 24 [0] hA2 ys.length capb i 2 hj2 (zP 25 [] 82 fb (fo+i*2+0) (fvV v) (λw hO=>h2' w hO.below) (zD [] λb9=>z1 (v:= .bool (decide (Fv.ft u=Fv.ft v))) [0,1,0] (λw hO=>hc w hO.below) (gW 29 (Fv.ft u=Fv.ft v) (λh=> ?_) (λh=> ?_))))))
 ·exact x_i 17 [] ((i+1:Nat):Int) (zH [] [] (λw hO=>hO.no) (nx (i+1) (xs.length-(i+1)) [] Om ⟨⟨hj,hst h⟩,rfl⟩ Kr Kr))
 ·exact z6 [] Z5 λw hO=>hno w hO.below (hdf h)
theorem qSame_any (x y:Rv)(W:World)(hx:RcSm W W.heap.size x)(hy:RcSm W W.heap.size y):YC 152 #[rvV x,rvV y] W (YR (.bool (decide (x.rt=y.rt))) W):=by
 have hno:∀ w,Below W.heap.size W w->x.rt≠y.rt->(Ending.returned (.bool false)= .returned (.bool (decide (x.rt=y.rt))))/\Below W.heap.size W w:=λw hb h=>⟨by rw [decide_eq_false h],hb⟩
 have hxn:=hx.nn;have hxb:=hx.nb;have hxf:=hx.fts.n;have hyn:=hy.nn;have hyb:=hy.nb;have hyf:=hy.fts.n
 have c1:∀ w,Below W.heap.size W w->YC 208 #[.slice x.nA x.needs.length x.nc,.slice y.nA y.needs.length y.nc,.func (.func 209) #[] #[]] w (YR (.bool (decide (x.needs.map Nv.nt=y.needs.map Nv.nt))) w):=λw hb=>qEqN_any x.nA y.nA x.nc y.nc x.needs y.needs w (hx.needs.on hb hb.size) (hy.needs.on hb hb.size) Om Om λu hu v hv w2 hb2=>by
  have hb3:=hb.trans (hb2.mono hb.size)
  exact qSameN_any u v w2 ((hx.any u hu).on hb3 hb3.size) ((hy.any v hv).on hb3 hb3.size) (λz hz=>(hx.wfs u hu z hz).on hb3 hb3.size) (λz hz=>(hy.wfs v hv z hz).on hb3 hb3.size) (hx.na u hu) (hy.na v hv) (hx.nf u hu) (hy.nf v hv)
 have c2:∀ w,Below W.heap.size W w->YC 210 #[.slice x.bA x.bars.length x.bc,.slice y.bA y.bars.length y.bc] w (YR (.bool (decide (x.bars.map Bv.bt=y.bars.map Bv.bt))) w):=λw hb=>qEqB_any x.bA y.bA x.bc y.bc x.bars y.bars w (hx.bars.on hb hb.size) (hy.bars.on hb hb.size) Om Om
 have c3:∀ w,Below W.heap.size W w->YC 211 #[.slice x.fA x.fts.length x.fc,.slice y.fA y.fts.length y.fc,.func (.func 212) #[] #[]] w (YR (.bool (decide (x.fts.map Fv.ft=y.fts.map Fv.ft))) w):=λw hb=>qEqF_any x.fA y.fA x.fc y.fc x.fts y.fts w (hx.fts.top.on hb hb.size) (hy.fts.top.on hb hb.size) Om Om λu hu v hv w2 hb2=>by
  have hb3:=hb.trans (hb2.mono hb.size)
  exact qSameF_any u v w2 ((hx.fts.each u hu).on hb3 hb3.size) ((hy.fts.each v hv).on hb3 hb3.size) (by have:=hx.fts.m u hu;omega) (by have:=hy.fts.m v hv;omega)
 refine z8 Tryz.func152 (zV [] λb2=>zV [] λb3=>xN 9 [1,0] x.name y.name (λh1=> ?_) (λh1=> ?_))
 rotate_left
 ·exact z6 [] Z5 λw hO=>hno w hO.below λe=>h1 (congrArg Rt.name e)
 refine x_eqa (p:=λu v:Ver=>u=v) 23 x5 op_eq_verQ 15 [1,0] x.ver y.ver (λh2=> ?_) (λh2=> ?_)
 rotate_left
 ·exact z6 [] Z5 λw hO=>hno w hO.below λe=>h2 (congrArg Rt.ver e)
 refine z1 (v:= .bool (decide (x.needs.map Nv.nt=y.needs.map Nv.nt))) [1,0] (λw hO=>c1 w hO.below) (gW 22 (x.needs.map Nv.nt=y.needs.map Nv.nt) (λh3=> ?_) (λh3=> ?_))
 rotate_left
 ·exact z6 [] Z5 λw hO=>hno w hO.below λe=>h3 (congrArg Rt.needs e)
 refine z1 (v:= .bool (decide (x.bars.map Bv.bt=y.bars.map Bv.bt))) [1,0] (λw hO=>c2 w hO.below) (gW 29 (x.bars.map Bv.bt=y.bars.map Bv.bt) (λh4=> ?_) (λh4=> ?_))
 rotate_left
 ·exact z6 [] Z5 λw hO=>hno w hO.below λe=>h4 (congrArg Rt.bars e)
 refine z1 (v:= .bool (decide (x.fts.map Fv.ft=y.fts.map Fv.ft))) [1,0] (λw hO=>c3 w hO.below) (gW 36 (x.fts.map Fv.ft=y.fts.map Fv.ft) (λh5=> ?_) (λh5=> ?_))
 ·refine z6 [] Z4 λw hO=>⟨?_,hO.below⟩
  rw [decide_eq_true (show x.rt=y.rt by unfold Rv.rt x2;rw [h1,h2,h3,h4,h5])]
 ·exact z6 [] Z5 λw hO=>hno w hO.below λe=>h5 (congrArg Rt.fts e)
end
section
theorem fm_count {α:Type}(f:α->List UInt8)(h:∀ x,1<=(f x).length):∀ l:List α,l.length<=(l.flatMap f).length
 | []=>Nat.zero_le _
 |x::l=>by
  have:=fm_count f h l
  have:=h x
  rw [List.flatMap_cons,List.length_append,List.length_cons];omega
theorem chk_bnd {r:Rt}(h:(zX r).1=0):BndR r/\FewR r 4096:=by
 obtain ⟨h1,h2,h3,h4,h5,h6⟩:=qN h
 obtain ⟨pn,pb,_,_⟩:=pD h5
 have hl:(jR r).length+(r.fts.flatMap gR).length<=4096:=by
  unfold g6 at h6
  simp only [List.length_append] at h6;omega
 have hv:r.ver.pre.length<=4096/\r.ver.build.length<=4096:=by
  have e:r.ver.print=numsL r.ver++xP 45 r.ver.pre++xP 43 r.ver.build:=by unfold Ver.print Ver.text;rw [if_pos h2]
  have hh:(jR r).length<=4096:=by omega
  unfold jR at hh
  rw [e] at hh
  have ht:∀ (c:UInt8) (l:List UInt8),l.length<=(xP c l).length:=λc l=>by
   unfold xP;cases l<;>simp
  have a:=ht 45 r.ver.pre
  have b:=ht 43 r.ver.build
  simp only [List.length_append] at hh
  omega
 have hf:∀ f∈r.fts,(gR f).length<=4096:=λf hf=>Nat.le_trans (fm_one gR hf) Om
 refine ⟨⟨Nat.le_trans (wT h1) (by decide),by omega,by omega,λn hn=> ?_,λb hb=> ?_,λf hm=> ?_⟩,⟨by omega,by omega,Nat.le_trans (fm_count gR (λf=>by unfold gR;simp) r.fts) (by omega),λn hn=>by have:=(n7 (pn n hn)).2.1;omega⟩⟩
 ·obtain ⟨_,_,q3,q4,q5⟩:=n7 (pn n hn)
  refine ⟨Nat.le_trans (pm_short q4) (by decide), ?_,λu hu=> ?_⟩
  ·rcases q5 with e|e
   ·rw [e];exact Nat.zero_le _
   ·exact Nat.le_trans (fZ e) (by decide)
  ·obtain ⟨u1,u2,u3⟩:=wish_fine (q3 u hu)
   unfold pZ at u3
   simp only [Bool.and_eq_true,decide_eq_true_eq,List.all_eq_true] at u3
   exact ⟨Nat.le_trans (wT u1) (by decide),Nat.le_trans (tC u2) (by decide),by omega,λt ht=>Nat.le_trans (fZ (u3.1.1.1 t ht)) (by decide)⟩
 ·obtain ⟨q1,q2,q3⟩:=bar_fine (pb b hb)
  exact ⟨Nat.le_trans (wT q1) (by decide),Nat.le_trans (tC q2) (by decide),Nat.le_trans (pm_short q3) (by decide)⟩
 ·have hq:=hf f hm
  unfold gR at hq
  rw [List.length_append,List.length_singleton] at hq
  have hp:=λx (hx:x∈qB::f.name::f.of)=>jn_part 32 hx
  have hc:=jn_many 32 (l:=qB::f.name::f.of)
  simp only [List.length_cons] at hc
  refine ⟨by have:=hp f.name (by simp);omega,by omega,λt ht=>by have:=hp t (by simp [ht]);omega⟩
end
section
theorem p9 {k:FuncId}{args:Array Value}{w:World}{v:Value}(h:Calls Tryz.prog k args w λe w'=>e= .returned v/\w'=w):Calls Tryz.prog k args w (YR v w):=h.mono λe w' ⟨q1,q2⟩=>⟨q1,q2.symm▸Below.refl _ _⟩
def intC (n:Int):List Value:=[YI n]
theorem intC_len (n:Int):(intC n).length=1:=rfl
theorem or3_q (A:Option Addr)(x y z:Int)(W:World)(hv:Reads intC W W.heap.size A [x,y,z]):YC 146 #[.slice A 3 3] W (YR (YI (if x≠0 then x else if y≠0 then y else z)) W):=by
 obtain ⟨b,o,hA,h0⟩:=hv.elem intC_len 0 (by simp)
 obtain ⟨b1,o1,e1,h1⟩:=hv.elem intC_len 1 (by simp)
 obtain ⟨b2,o2,e2,h2⟩:=hv.elem intC_len 2 (by simp)
 subst hA
 simp only [Option.some.injEq,Addr.mk.injEq,and_true] at e1 e2
 obtain ⟨rfl,rfl⟩:=e1
 obtain ⟨rfl,rfl⟩:=e2
 have l0:∀ w,Below W.heap.size W w->(loadVar 3 ⟨b,o+0*1+0,none⟩).run Tryz.prog w= .ok (YI x) w:=λw hw=>h0 w hw _ 0 _ Kr
 have l1:∀ w,Below W.heap.size W w->(loadVar 3 ⟨b,o+1*1+0,none⟩).run Tryz.prog w= .ok (YI y) w:=λw hw=>h1 w hw _ 0 _ Kr
 have l2:∀ w,Below W.heap.size W w->(loadVar 3 ⟨b,o+2*1+0,none⟩).run Tryz.prog w= .ok (YI z) w:=λw hw=>h2 w hw _ 0 _ Kr
 refine z8 Tryz.func146 (q8 3 [] (zU 10 [] (b:=b) (off:=o) rfl 3 3 0 1 (by decide) (zP 11 [] 3 b (o+0*1+0) (YI x) (λw hO=>l0 w hO.below) (qT 14 [] (x=0) (λhx=> ?_) (λhx=> ?_)))))
 rotate_left
 ·exact z6 [] (YI x) λw hO=>⟨by rw [if_pos hx],hO.below⟩
 refine x_i 16 [] 1 (zU 10 [] (b:=b) (off:=o) rfl 3 3 1 1 (by decide) (zP 11 [] 3 b (o+1*1+0) (YI y) (λw hO=>l1 w hO.below) (qT 14 [] (y=0) (λhy=> ?_) (λhy=> ?_))))
 rotate_left
 ·exact z6 [] (YI y) λw hO=>⟨by rw [if_neg (λh=>h hx),if_pos hy],hO.below⟩
 refine x_i 16 [] 2 (zU 10 [] (b:=b) (off:=o) rfl 3 3 2 1 (by decide) (zP 11 [] 3 b (o+2*1+0) (YI z) (λw hO=>l2 w hO.below) (qT 14 [] (z=0) (λhz=> ?_) (λhz=> ?_))))
 ·exact x_i 16 [] 3 (z6 [] (YI 0) λw hO=>⟨by rw [if_neg (λh=>h hx),if_neg (λh=>h hy),hz],hO.below⟩)
 ·exact z6 [] (YI z) λw hO=>⟨by rw [if_neg (λh=>h hx),if_neg (λh=>h hy)],hO.below⟩
def fourQ (l:List (List UInt8)):List (List UInt8):=[tg l 0,tg l 1,tg l 2,tg l 3]
theorem fourQ_at (l:List (List UInt8)):∀ (k:Nat) (h:k<4),(fourQ l)[k]'h=tg l k
 |0,_=>rfl
 |1,_=>rfl
 |2,_=>rfl
 |3,_=>rfl
theorem tails_q (l:List (List UInt8))(k:Nat):tg (l.drop k) 0=tg l k:=by unfold tg;simp
theorem cfunc_q (A B:Option Addr)(l m:List (List UInt8))(W:World)(hx:Reads zW W W.heap.size A (fourQ l))(hy:Reads zW W W.heap.size B (fourQ m))(hl:∀ i,(tg l i).length<=8)(hm:∀ i,(tg m i).length<=8):YC 203 #[.slice A 4 4,.slice B 4 4,.func (.func 204) #[] #[]] W (YR (YI (seqP 4 l m)) W):=by
 refine z8 Tryz.func203 (y4 (α:=Nat) (λi=>[(0,.slice A 4 4),(1,.slice B 4 4),(2,.func (.func 204) #[] #[]),(11,.slice A 4 4),(12,YI 4),(13,YI (i:Int))]) (λ_=>[]) (λi k=>(i<=4/\seqP (4-i) (l.drop i) (m.drop i)=seqP 4 l m)/\k=4-i) 0 4 [] ⟨⟨by decide,rfl⟩,rfl⟩ ?_)
 rintro i mm g kk ⟨⟨hi,hs⟩,hmm⟩ nx hkk
 subst hkk
 refine zE 14 [] ((i:Int)<4) (λh=> ?_) (λh=> ?_)
 rotate_left
 ·have e:i=4:=by omega
  subst e
  exact z6 [] (YI 0) λw hO=>⟨by rw [←hs];rfl,hO.below⟩
 have hj:i<4:=by omega
 obtain ⟨eb,eo,hA,hel⟩:=hx.elem zN i hj
 obtain ⟨fb,fo,hB,hel2⟩:=hy.elem zN i hj
 have q1:∀ w,Below W.heap.size W w->(loadVar 9 ⟨eb,eo+i*1+0,none⟩).run Tryz.prog w= .ok (.string (mkS ((fourQ l)[i]'hj))) w:=λw hw=>hel w hw _ 0 _ Kr
 have q2:∀ w,Below W.heap.size W w->(loadVar 9 ⟨fb,fo+i*1+0,none⟩).run Tryz.prog w= .ok (.string (mkS ((fourQ m)[i]'hj))) w:=λw hw=>hel2 w hw _ 0 _ Kr
 rw [fourQ_at l i hj] at q1
 rw [fourQ_at m i hj] at q2
 have hst:seqP (4-i) (l.drop i) (m.drop i)=if pG (tg l i) (tg m i)≠0 then pG (tg l i) (tg m i) else seqP (4-(i+1)) (l.drop (i+1)) (m.drop (i+1)):=by
  obtain ⟨n,hn⟩:∃ n,4-i=n+1:=⟨3-i,by omega⟩
  rw [hn,seqP,tails_q,tails_q,List.tail_drop,List.tail_drop,show 4-(i+1)=n by omega]
 have hc:∀ w,YC 204 #[.string (mkS (tg l i)),.string (mkS (tg m i))] w (YR (YI (pG (tg l i) (tg m i))) w):=λw=>compareTag_any _ _ w (by have:=hl i;omega) (by have:=hm i;omega)
 rw [hst] at hs
 generalize tg l i=u at*
 generalize tg m i=v at*
 generalize pG u v=z at*
 refine zU 16 [] hA 4 4 i 1 hj (zP 17 [] 9 eb (eo+i*1+0) (.string (mkS u)) (λw hO=>q1 w hO.below) (zE 21 [] ((i:Int)>=4) (λh=>absurd h (by omega)) (λ_=>zU 24 [] hB 4 4 i 1 hj (zP 25 [] 9 fb (fo+i*1+0) (.string (mkS v)) (λw hO=>q2 w hO.below) (z1 (v:=YI z) [] (λw hO=>hc w) (qT 31 [] (z=0) (λhz=> ?_) (λhz=> ?_)))))))
 ·exact x_i 33 [] ((i+1:Nat):Int) (nx (i+1) (4-(i+1)) [] Om ⟨⟨hj,by rw [if_neg (λq=>q hz)] at hs;exact hs⟩,rfl⟩ Kr Kr)
 ·exact z6 [] (YI z) λw hO=>⟨by rw [if_pos hz] at hs;rw [hs],hO.below⟩
theorem cpre_q (a b:List UInt8)(W:World)(ha:a.length<=1000000)(hb:b.length<=1000000):YC 148 #[.string (mkS a),.string (mkS b)] W (YR (YI (cpre a b)) W):=by
 have hd:cpre a b=if a=[] then 1 else if b=[] then-1 else seqP 4 (lst a).1 (lst b).1:=rfl
 have cA:=λw'=>tJ a w' Om
 have cB:=λw'=>tJ b w' Om
 have hl:=tg_len a
 have hm:=tg_len b
 rw [hd]
 generalize (lst a).2=p at*
 generalize (lst b).2=q at*
 generalize (lst a).1=l at*
 generalize (lst b).1=m at*
 refine z8 Tryz.func148 (xN 11 [] a [] (λh=>z6 [] (YI 1) λw hO=>⟨by rw [if_pos h],hO.below⟩) (λh=>xN 14 [] b [] (λh2=>z6 [] (YI (-1)) λw hO=>⟨by rw [if_neg h,if_pos h2],hO.below⟩) (λh2=> ?_)))
 rw [if_neg h,if_neg h2]
 refine z1 (v:= .tuple #[.agg #[.string (mkS (tg l 0)),.string (mkS (tg l 1)),.string (mkS (tg l 2)),.string (mkS (tg l 3))],.bool p]) [] (λw hO=>cA w) (zD [] λb5=>z1 (v:= .tuple #[.agg #[.string (mkS (tg m 0)),.string (mkS (tg m 1)),.string (mkS (tg m 2)),.string (mkS (tg m 3))],.bool q]) [0] (λw hO=>cB w) (zD [] λb7=>x_val 25 [0] (.slice (some ⟨b5,0,none⟩) 4 4) (λw=>Kr) (x_val 26 [] (.slice (some ⟨b7,0,none⟩) 4 4) (λw=>Kr) ?_)))
 refine z1 (k:=203) (args:= #[.slice (some ⟨b5,0,none⟩) 4 4,.slice (some ⟨b7,0,none⟩) 4 4,.func (.func 204) #[] #[]]) (v:=YI (seqP 4 l m)) [] (λw hO=> ?_) (z6 [] (YI (seqP 4 l m)) λw hO=>⟨rfl,hO.below⟩)
 have hO':=hO.past 0 [⟨b7, #[.string (mkS (tg m 0)),.string (mkS (tg m 1)),.string (mkS (tg m 2)),.string (mkS (tg m 3))],120⟩,⟨b5, #[.string (mkS (tg l 0)),.string (mkS (tg l 1)),.string (mkS (tg l 2)),.string (mkS (tg l 3))],120⟩]
 clear hO
 exact cfunc_q _ _ l m w (Reads.lit9 (hO'.get (i:=1) rfl) rfl) (Reads.lit9 (hO'.get (i:=0) rfl) rfl) hl hm
theorem core_q (v:Ver)(W:World)(hp:v.pre.length<=1000000):YC 145 #[x5 v] W (YR (x5 (kB v)) W):=
 z8 Tryz.func145 (zV [] λb1=>zD [] λb2=>z1 (v:= .string (mkS v.pre)) [1] (λw hO=>nJ (mkS v.pre) w (by rw [y0];omega)) (gH [1,1,1,0] 0 (x5 (kB v)) λw hO=>⟨rfl,hO.below⟩))
theorem vcompareQ_any (v u:Ver)(W:World)(h1:v.pre.length<=1000000)(h2:v.build.length<=1000000)(h3:u.pre.length<=1000000)(h4:u.build.length<=1000000):YC 83 #[x5 v,x5 u] W (YR (YI (vI v u)) W):=by
 have cV:∀ w,YC 53 #[x5 v] w (YR (.bool v.may) w):=λw=>fH v w Om Om
 have cU:∀ w,YC 53 #[x5 u] w (YR (.bool u.may) w):=λw=>fH u w Om Om
 have kV:=λw=>core_q v w h1
 have kU:=λw=>core_q u w h3
 have cP:=λw=>cpre_q v.pre u.pre w h1 h3
 have c1:=λw=>p9 (Tryz.cmp_Compare_int v.maj u.maj w)
 have c2:=λw=>p9 (Tryz.cmp_Compare_int v.min u.min w)
 have c3:=λw=>p9 (Tryz.cmp_Compare_int v.pat u.pat w)
 have hbad:=λh=> @cmpR_bad v u h
 have hcore:=λh=> @cmpR_core v u h
 have hgo:=λa b h=> @cmpR_go v u a b h
 have hN:cmpN v u=if Lib.compareInt v.maj u.maj≠0 then Lib.compareInt v.maj u.maj else if Lib.compareInt v.min u.min≠0 then Lib.compareInt v.min u.min else Lib.compareInt v.pat u.pat:=rfl
 rw [hN] at hgo
 generalize Lib.compareInt v.maj u.maj=x at*
 generalize Lib.compareInt v.min u.min=y at*
 generalize Lib.compareInt v.pat u.pat=z at*
 generalize cpre v.pre u.pre=p at*
 refine z8 Tryz.func83 (zV [] λb2=>zV [] λb3=>z1 (v:= .bool v.may) [1] (λw hO=>cV w) (yG 7 v.may (λe1=> ?_) (λe1=> ?_)))
 rotate_left
 ·exact z6 [] (YI 0) λw hO=>⟨by rw [hbad (.inl e1)],hO.below⟩
 refine z1 (v:= .bool u.may) [0] (λw hO=>cU w) (yG 11 u.may (λe2=> ?_) (λe2=> ?_))
 rotate_left
 ·exact z6 [] (YI 0) λw hO=>⟨by rw [hbad (.inr e2)],hO.below⟩
 refine z1 (v:=x5 (kB v)) [1] (λw hO=>kV w) (z1 (v:=x5 (kB u)) [0] (λw hO=>kU w) (x_eqa (p:=λa b:Ver=>a=b) 23 x5 op_eq_verQ 19 [] (kB v) (kB u) (λh=> ?_) (λh=> ?_)))
 ·exact z6 [] (YI 0) λw hO=>⟨by rw [hcore h],hO.below⟩
 have hr:=hgo e1 e2 h
 clear hgo hbad hcore hN
 refine yJ 17 [] [⟨b3,(ZP u),23⟩,⟨b2,(ZP v),23⟩] (λw hO=>hO.past 0 _) (zK [1,0,1,0,1,0] 4 (z1 (v:=YI x) [] (λw hO=>c1 w) (zK [] 9 (z1 (v:=YI y) [] (λw hO=>c2 w) (zK [] 14 (z1 (v:=YI z) [] (λw hO=>c3 w) (zK [] 15 (kM 3 3 #[YI x,YI y,YI z] λb36=> ?_))))))))
 refine zK [] 16 (z1 (k:=146) (args:= #[.slice (some ⟨b36,0,none⟩) 3 3]) (v:=YI (if x≠0 then x else if y≠0 then y else z)) [] (λw hO=> ?_) ?_)
 ·have hO':=hO.past 0 (⟨b36, #[YI x,YI y,YI z],3⟩::[⟨b3,(ZP u),23⟩,⟨b2,(ZP v),23⟩])
  clear hO
  exact or3_q _ x y z w (Reads.lit9 (hO'.get (i:=0) rfl) rfl)
 generalize (if x≠0 then x else if y≠0 then y else z)=n at*
 refine zE 39 [] (n=0) (λhn=> ?_) (λhn=> ?_)
 ·exact z1 (v:=YI p) [2,1] (λw hO=>cP w) (z6 [] (YI p) λw hO=>⟨by rw [hr,if_neg (λq=>q hn)],hO.below⟩)
 ·exact z6 [] (YI n) λw hO=>⟨by rw [hr,if_pos hn],hO.below⟩
end
section
set_option linter.unnecessarySimpa false
def PreM (l:List Et):Prop:=(∀ e∈l,okE e)/\l.Pairwise λa b=>fK b.rc.name b.rc.ver a=false
theorem pre_step {l:List Et}{e:Et}:PreM (l++[e])↔PreM l/\okE e/\zO l e.rc.name e.rc.ver= -1:=by
 unfold PreM
 rw [List.pairwise_append,place_none]
 constructor
 ·rintro ⟨h1,h2,_,h4⟩
  exact ⟨⟨λx hx=>h1 x (List.mem_append_left _ hx),h2⟩,h1 e (List.mem_append_right _ (List.mem_singleton.2 rfl)),λx hx=>h4 x hx e (List.mem_singleton.2 rfl)⟩
 ·rintro ⟨⟨h1,h2⟩,h3,h4⟩
  refine ⟨λx hx=> ?_,h2,List.pairwise_singleton _ _,λa ha b hb=>by rw [List.mem_singleton.1 hb];exact h4 a ha⟩
  rcases List.mem_append.1 hx with hx|hx
  ·exact h1 x hx
  ·rw [List.mem_singleton.1 hx];exact h3
theorem may_pre13 {s:Sh}(h:yR s)(i:Nat):PreM (s.es.take i):=⟨λe he=>h.ok e (List.mem_of_mem_take he),h.apart.sublist (List.take_sublist _ _)⟩
theorem pre_may {s:Sh}(h1:nmL s.name=true)(h2:s.es.length<=64)(h:PreM s.es):yR s:=⟨h1,h2,h.1,h.2⟩
theorem et_take (l:List Ev)(i:Nat):(l.take i).map Ev.et=(l.map Ev.et).take i:=List.map_take ..
def hv0:Hv:=⟨[],none,0,[]⟩
theorem hv0_o:ShO hv0 []:=⟨[],[],rfl,LsO.nil⟩
theorem EsIn.fst {w:World}{B:Nat}{A:Option Addr}{es:List Ev}(h:EsIn w B A es)(k:Nat):EsIn w B A (es.take k):=⟨h.top.fst k,λe he=>h.each e (List.mem_of_mem_take he),Nat.le_trans (by rw [List.length_take];omega) h.n⟩
theorem RecO.in13 {x:Rv}{ob L:List Blk}{M:List Nat}{W w:World}(h:RecO x ob)(hO:Own M W w L)(hs:∀ b∈ob,b∈L)(hB:BndR x.rt)(hF:FewR x.rt 4096):RcIn w w.heap.size x:=by
 obtain ⟨o1,o2,o4,o7,o8,rfl,h1,h4,h7⟩:=h.ex
 exact rec_inn h1 h4 h7 hO (λb hb=>hs b (by simp [hb])) (λb hb=>hs b (by simp [hb])) (λb hb=>hs b (by simp [hb])) (λb hb=>hs b (by simp [hb])) (λb hb=>hs b (by simp [hb])) hB hF
theorem ShO.inn {y:Hv}{ob L:List Blk}{M:List Nat}{W w:World}(h:ShO y ob)(hO:Own M W w L)(hs:∀ b∈ob,b∈L)(hM:yR y.sh):ShIn w w.heap.size y:=by
 obtain ⟨o1,o2,rfl,hL⟩:=h
 have hl:y.es.length<=64:=by have:=hM.few;simpa [Hv.sh] using this
 refine ⟨⟨Sl.reads hL.top rfl hO λb hb=>hs b (List.mem_append_left _ hb),λe he=> ?_,by omega⟩, ?_,Nat.le_trans (wT hM.name) (by decide)⟩
 ·obtain ⟨o,hR,hsub⟩:=hL.each e he
  have:=hM.ok e.et (List.mem_map_of_mem he)
  obtain ⟨b1,b2⟩:=chk_bnd this.1
  exact hR.in13 hO (λb hb=>hs b (List.mem_append_right _ (hsub b hb))) b1 b2
 ·rcases hL.top.2 with ⟨e,h2,_⟩|⟨g,cp,cur,e,_,h3,_⟩
  ·omega
  ·simp only [Value.slice.injEq] at e;omega
theorem evC_one (y:Ev):∀ u∈evC y,u.oneCell'=true:=λu hu=>by
 simp only [evC,rvC,List.mem_append,List.mem_cons,List.not_mem_nil,or_false] at hu
 rcases hu with (rfl|rfl|rfl|rfl|rfl|rfl|rfl|rfl|rfl)|rfl|rfl<;>rfl
theorem m7 (A:Option Addr)(cap:Nat)(es:List Ev)(k:Nat)(W:World)(hx:Reads evC W W.heap.size A es)(hk:k<=es.length)(hc:es.length<=cap):YC 79 #[.slice A es.length cap,YI (k:Int)] W (YR (.slice A k k) W):=by
 have hA:(k:Int)=0∨∃ b off,A=some ⟨b,off,none⟩:=by
  by_cases h0:k=0
  ·exact .inl Om
  ·obtain ⟨b,off,e,_⟩:=hx Om
   exact .inr ⟨b,off,e⟩
 exact z8 Tryz.func79 (x_slhmA 8 [] A es.length cap 11 k k ⟨by omega,by omega,by omega⟩ hA (.slice A k k) rfl (z6 [] (.slice A k k) λw hO=>⟨rfl,hO.below⟩))
theorem sHit_any (x:Ev)(nm:List UInt8)(v:Ver)(b c:Nat)(W:World)(hb:W.heap[b]?=some (.cells #[.string (mkS nm)] 9))(hc:W.heap[c]?=some (.cells (ZP v) 23))(h1:x.rec'.pre.length<=1000000)(h2:x.rec'.bld.length<=1000000)(h3:v.pre.length<=1000000)(h4:v.build.length<=1000000)(hm:x.rec'.ver.may=true)(hv:v.may=true):YC 141 #[evV x,.pointer (some ⟨b,0,none⟩),.pointer (some ⟨c,0,none⟩)] W (YR (.bool (fK nm v x.et)) W):=by
 have hbl:b<W.heap.size:=(Array.getElem?_eq_some_iff.1 hb).1
 have hcl:c<W.heap.size:=(Array.getElem?_eq_some_iff.1 hc).1
 have hh:fK nm v x.et=(decide (x.rec'.name=nm) && decide (vI x.rec'.ver v=0)):=by
  show (decide (x.rec'.name=nm) && (x.rec'.ver.may && v.may && decide (vI x.rec'.ver v=0)))=_
  rw [hm,hv];rfl
 rw [hh]
 have hcmp:∀ w,YC 83 #[x5 x.rec'.ver,x5 v] w (YR (YI (vI x.rec'.ver v)) w):=λw=>vcompareQ_any x.rec'.ver v w h1 h2 h3 h4
 refine z8 Tryz.func141 (zV [] λb3=>zP 8 [0] 9 b 0 (.string (mkS nm)) (λw hO=>yQ Kr ((hO.below.block b hbl).trans hb)) (xN 9 [] x.rec'.name nm (λh=> ?_) (λh=> ?_)))
 ·refine zP 14 [0] 23 c 0 (x5 v) (λw hO=>yQ Kr ((hO.below.block c hcl).trans hc)) (z1 (v:=YI (vI x.rec'.ver v)) [] (λw hO=>hcmp w) ?_)
  exact z6 [] (.bool (decide (vI x.rec'.ver v=0))) λw hO=>⟨by rw [decide_eq_true h];rfl,hO.below⟩
 ·exact z6 [] Z5 λw hO=>⟨by rw [decide_eq_false h];rfl,hO.below⟩
theorem sIdx_any (p:Ev->Bool)(A:Option Addr)(cap:Nat)(l:List Ev)(b c:Nat)(W:World)(hv:Reads evC W W.heap.size A l)(hn:l.length<=5000)(hp:∀ n∈l,∀ w,Below W.heap.size W w->YC 141 #[evV n,.pointer (some ⟨b,0,none⟩),.pointer (some ⟨c,0,none⟩)] w (YR (.bool (p n)) w)):YC 140 #[.slice A l.length cap,.func (.func 141) #[] #[.pointer (some ⟨b,0,none⟩),.pointer (some ⟨c,0,none⟩)]] W λe w'=>∃ v,e= .returned v/\(∃ z:Int,v=YI z/\((z= -1∧∀ y∈l,p y=false)∨∃ i,∃ hi:i<l.length,z=(i:Int)/\p l[i]=true∧∀ y∈l.take i,p y=false))/\Below W.heap.size W w':=by
 refine z8 Tryz.func140 (y4 (α:=Nat) (λi=>[(0,.slice A l.length cap),(1,.func (.func 141) #[] #[Zp b 0,Zp c 0]),(7,YI (l.length:Int)),(8,YI (i:Int))]) (λ_=>[]) (λi m=>(i<=l.length∧∀ y∈l.take i,p y=false)/\m=l.length-i) 0 l.length [] ⟨⟨Nat.zero_le _,λy h=>by simp at h⟩,rfl⟩ ?_)
 rintro i mm g kk ⟨⟨hi,hno⟩,hmm⟩ nx hkk
 subst hkk
 refine zE 9 [] ((i:Int)<(l.length:Int)) (λh9=> ?_) (λh9=> ?_)
 rotate_left
 ·exact z6 [] (YI (-1)) λw hO=>⟨_,rfl,⟨-1,rfl,.inl ⟨rfl,qR (p:=λy:Ev=>p y=false) (show l.length<=i by omega) hno⟩⟩,hO.below⟩
 have hj:i<l.length:=by omega
 obtain ⟨eb,eo,hA,hel⟩:=hv.elem jE i hj
 have hgo:=kI (p:=λy:Ev=>p y=false) hj hno
 have hsm:l[i]∈l:=List.getElem_mem hj
 have hel0:∀ w,Below W.heap.size W w->(loadVar 57 ⟨eb,eo+i*11+0,none⟩).run Tryz.prog w= .ok (evV l[i]) w:=λw hw=>hel w hw _ 0 _ Kr
 have hcf:=hp _ hsm
 have hfin:p l[i]=true→∃ z:Int,Value.int .i64 (i:Int)=YI z/\((z= -1∧∀ y∈l,p y=false)∨∃ i,∃ hi:i<l.length,z=(i:Int)/\p l[i]=true∧∀ y∈l.take i,p y=false):=λq=>⟨_,rfl,.inr ⟨i,hj,rfl,q,hno⟩⟩
 clear hp
 generalize l[i]=n at hel0 hgo hcf hsm hfin
 refine zU 14 [] hA l.length cap i 11 hj (zP 15 [] 57 eb (eo+i*11+0) (evV n) (λw hO=>hel0 w hO.below) (z1 (v:= .bool (p n)) [] (λw hO=>hcf w hO.below) (yG 16 (p n) (λh16=> ?_) (λh16=> ?_))))
 ·exact z6 [] (YI (i:Int)) λw hO=>⟨_,rfl,hfin h16,hO.below⟩
 ·exact x_i 18 [] ((i+1:Nat):Int) (nx (i+1) (l.length-(i+1)) [] Om ⟨⟨hj,hgo h16⟩,rfl⟩ Kr Kr)
theorem dZ (A:Option Addr)(cap:Nat)(es:List Ev)(nm:List UInt8)(v:Ver)(W:World)(hx:EsIn W W.heap.size A es)(hok:∀ e∈es,e.rec'.ver.may=true)(h3:v.pre.length<=1000000)(h4:v.build.length<=1000000):YC 78 #[.slice A es.length cap,.string (mkS nm),x5 v] W (YR (YI (zO (es.map Ev.et) nm v)) W):=by
 have c1:∀ w,YC 53 #[x5 v] w (YR (.bool v.may) w):=λw=>fH v w Om Om
 refine z8 Tryz.func78 (zV [] λb4=>zV [] λb5=>z1 (v:= .bool v.may) [0] (λw hO=>c1 w) (yG 8 v.may (λhv=> ?_) (λhv=> ?_)))
 rotate_left
 ·refine z6 [] (YI (-1)) λw hO=>⟨?_,hO.below⟩
  rw [place_none.2 λe _=> ?_]
  unfold fK oneV
  rw [hv];simp
 refine x_val 11 [] (.func (.func 141) #[] #[Zp b4 0,Zp b5 0]) (λw=>Kr) (bH (k:=140) (args:= #[.slice A es.length cap,.func (.func 141) #[] #[Zp b4 0,Zp b5 0]]) (R:=λu=>∃ z:Int,u=YI z/\z=zO (es.map Ev.et) nm v) [] (λw hO=> ?_) ?_)
 ·have hO':=hO.past 0 [⟨b5,(ZP v),23⟩,⟨b4, #[.string (mkS nm)],9⟩]
  clear hO
  have g5:w.heap[b5]?=some (.cells (ZP v) 23):=hO'.get (i:=0) rfl
  have g4:w.heap[b4]?=some (.cells #[.string (mkS nm)] 9):=hO'.get (i:=1) rfl
  have hxw:=hx.on hO'.below hO'.size
  refine (sIdx_any (λx=>fK nm v x.et) A cap es b4 b5 w hxw.top hxw.n λx hm w2 hb2=>sHit_any x nm v b4 b5 w2 ((hb2.block b4 (Array.getElem?_eq_some_iff.1 g4).1).trans g4) ((hb2.block b5 (Array.getElem?_eq_some_iff.1 g5).1).trans g5) (hx.each x hm).sn.2.1 (hx.each x hm).sn.2.2 h3 h4 (hok x hm) hv).mono λe w' ⟨u,q1,⟨z,q2,q3⟩,q4⟩=>⟨u,q1,⟨z,q2, ?_⟩,q4⟩
  rcases q3 with ⟨rfl,h⟩|⟨i,hi,rfl,h,h0⟩
  ·exact (place_none.2 λe he=>by obtain ⟨x,hm,rfl⟩:=List.mem_map.1 he;exact h x hm).symm
  ·exact (place_at (by simpa using hi) (λe he=>by rw [←et_take] at he;obtain ⟨x,hm,rfl⟩:=List.mem_map.1 he;exact h0 x hm) (by rw [List.getElem_map];exact h)).symm
 ·rintro _ ⟨z,rfl,hz⟩
  exact z6 [] (YI z) λw hO=>⟨by rw [hz],hO.below⟩
theorem sWith_any (x:Hv)(k:Nat)(e:Ev)(W:World)(hx:ShIn W W.heap.size x)(he:RcIn W W.heap.size e.rec')(hk:k<=x.es.length)(hn:x.es.length<=4000):YC 85 #[hvV x,YI (k:Int),evV e] W λe' w'=>∃ v ob,e'= .returned v/\(∃ y,v=hvV y/\y.sh=⟨x.name,(x.es.map Ev.et).take k++e.et::(x.es.map Ev.et).drop (k+1)⟩/\ShO y ob)/\Own [] W w' ob:=by
 obtain ⟨nm,A,cap,es⟩:=x
 have hle:es.length<=cap:=hx.le
 have hsn:nm.length<=1000000:=hx.sn
 have hes:EsIn W W.heap.size A es:=hx.es
 dsimp only at hk hn ⊢
 have cB:∀ w,Below W.heap.size W w->YC 79 #[.slice A es.length cap,YI (k:Int)] w (YR (.slice A k k) w):=λw hb=>m7 A cap es k w (hes.top.on hb hb.size) hk hle
 have hxl:((es.take k).flatMap evC).length=k*11:=by rw [pM jE,List.length_take,Nat.min_eq_left hk]
 have hA0:A=none->k=0:=λh=>by
  apply Classical.byContradiction
  intro h0
  obtain ⟨b,off,e,_⟩:=hes.top Om
  rw [e] at h;cases h
 have hrd:∀ w,Below W.heap.size W w→∀ b,A=some b→∀ j u,((es.take k).flatMap evC)[j]?=some u->w.cell? (b.add j)=some u:=λw hb b hb' j u hj=>by
  by_cases h0:k=0
  ·subst h0;simp at hj
  obtain ⟨b2,off,e,hlt,hc⟩:=(hes.top.fst k).on hb hb.size (by rw [List.length_take];omega)
  rw [e] at hb';obtain rfl:=Option.some.inj hb'
  rw [yE];exact hc j u hj
 have hfin:∀ (M:List Nat) (L:List Blk) (ob:List Blk) (A1:Option Addr) (c1:Nat) (ls:List Ev) (w:World),Own M W w L->(∀ b∈ob,b∈L)->Sl 57 11 (.slice A1 ls.length c1) ls.length (ls.flatMap evC) ob->(∀ a∈ls,a=e\/a∈es)->ls.length<=5000->Below W.heap.size W w->EsIn w w.heap.size A1 ls:=λM L ob A1 c1 ls w hO hs hS hm hl hb=>⟨Sl.reads hS rfl hO hs,λa ha=>by
  rcases hm a ha with rfl|ha
  ·exact he.on hb hb.size
  ·exact (hes.each a ha).on hb hb.size,hl⟩
 refine z8 Tryz.func85 (zV [] λb3=>zV [] λb5=>zD [] λb6=> ?_)
 refine yJ 7 [] [⟨b6,Z0,49⟩,⟨b5,(evV e).cells,57⟩,⟨b3, #[.string (mkS nm),.slice A es.length cap],49⟩] (λw hO=>hO.past 0 _) (x_h2 [2,1] 3 5 (z1 (v:= .slice A k k) [] (λw hO=>cB w hO.below) (zK [] 5 (kM 1 57 (evV e).cells λb14=> ?_))) (kM 1 57 (evV e).cells λb14=>zK [] 3 (z1 (v:= .slice A k k) [] (λw hO=>cB w hO.below) ?_)))
 all_goals
  refine zK [] 6 (xh_appC (T:=57) (sz:=11) (N:=k) ((es.take k).flatMap evC) 0 (⟨b14,(evV e).cells,57⟩::[⟨b6,Z0,49⟩,⟨b5,(evV e).cells,57⟩,⟨b3, #[.string (mkS nm),.slice A es.length cap],49⟩]) [⟨b6,Z0,49⟩,⟨b5,(evV e).cells,57⟩,⟨b3, #[.string (mkS nm),.slice A es.length cap],49⟩] hxl hA0 (λw hO=>hrd w hO.below) (m:=1) (cp:=1) Om Om (λo w hO=>hO.sublist (List.Sublist.trans (List.sublist_cons_self _ _) (List.sublist_append_left _ _))) λv' o1 hS=> ?_)
  obtain ⟨A1,c1,rfl⟩:=Sl.form hS
  have hls:(es.take k++e::es.drop (k+1)).length=k+(1+(es.length-(k+1))):=by rw [List.length_append,List.length_take,List.length_cons,List.length_drop,Nat.min_eq_left hk];omega
  refine x_i 8 [] ((k+1:Nat):Int) (w8 (α:=Option Addr×Nat×List Blk) 22 (λ(A2,c2,o)=>[(3,Zp b3 0),(6,Zp b6 0),(7,.slice A2 (es.take k++e::es.drop (k+1)).length c2)]) (λ(A2,c2,o)=>[⟨b14,(evV e).cells,57⟩,⟨b6,Z0,49⟩,⟨b5,(evV e).cells,57⟩,⟨b3, #[.string (mkS nm),.slice A es.length cap],49⟩]++o) (λ(A2,c2,o)=>Sl 57 11 (.slice A2 (es.take k++e::es.drop (k+1)).length c2) (es.take k++e::es.drop (k+1)).length ((es.take k++e::es.drop (k+1)).flatMap evC) o) [3] (λnj=>gW 22 (((k+1:Nat):Int)<(es.length:Int)) (λh22=> ?_) (λh22=> ?_)) ?_)
  ·obtain ⟨eb,eo,rfl,_⟩:=hes.top Om
   refine x_sllo 27 [3] rfl es.length cap 11 ((k+1:Nat):Int) Om Om (.slice (some ⟨eb,eo+(if cap=k+1 then 0 else (k+1)*11),none⟩) (es.drop (k+1)).length (cap-(k+1))) (by rw [List.length_drop];rfl) (x_appR (g:=evC) (cp:=cap-(k+1)) [] (es.drop (k+1)) [⟨b14,(evV e).cells,57⟩,⟨b6,Z0,49⟩,⟨b5,(evV e).cells,57⟩,⟨b3, #[.string (mkS nm),.slice (some ⟨eb,eo,none⟩) es.length cap],49⟩] o1 [] ([⟨b14,(evV e).cells,57⟩,⟨b6,Z0,49⟩,⟨b5,(evV e).cells,57⟩,⟨b3, #[.string (mkS nm),.slice (some ⟨eb,eo,none⟩) es.length cap],49⟩]++o1) (λw hO=>by simpa using hO) jE evC_one (λw hO=>Reads.from_ jE (hes.top.on hO.below hO.size) hle (k+1)) hS (by rw [List.length_drop];omega) λv' o2 hS2=> ?_)
   obtain ⟨A2,c2,rfl⟩:=Sl.form hS2
   refine vV 7 [] (.slice A2 (k+1+(es.drop (k+1)).length) c2) (.slice A2 (es.take k++e::es.drop (k+1)).length c2) (by rw [hls,List.length_drop,Nat.add_assoc]) (zH [] ([⟨b14,(evV e).cells,57⟩,⟨b6,Z0,49⟩,⟨b5,(evV e).cells,57⟩,⟨b3, #[.string (mkS nm),.slice (some ⟨eb,eo,none⟩) es.length cap],49⟩]++o2) (λw hO=>(hO.past 0 ([⟨b14,(evV e).cells,57⟩,⟨b6,Z0,49⟩,⟨b5,(evV e).cells,57⟩,⟨b3, #[.string (mkS nm),.slice (some ⟨eb,eo,none⟩) es.length cap],49⟩]++o2++[])).cast (by simp)) (nj (A2,c2,o2) [] ?_ Kr))
   have e1:k+1+(es.drop (k+1)).length=(es.take k++e::es.drop (k+1)).length:=by rw [hls,List.length_drop,Nat.add_assoc]
   have e2:(es.take k).flatMap evC++(evV e).cells.toList++(es.drop (k+1)).flatMap evC=(es.take k++e::es.drop (k+1)).flatMap evC:=by rw [List.flatMap_append,List.flatMap_cons,List.append_assoc];rfl
   rw [e1] at hS2
   exact Sl.to hS2 rfl e2
  ·have hd:es.drop (k+1)=[]:=List.drop_eq_nil_of_le Om
   refine vV 7 [] (.slice A1 (k+1) c1) (.slice A1 (es.take k++e::es.drop (k+1)).length c1) (by rw [hls];congr 1;omega) (nj (A1,c1,o1) [] ?_ Kr)
   have e1:k+1=(es.take k++e::es.drop (k+1)).length:=by rw [hls];omega
   have e2:(es.take k).flatMap evC++(evV e).cells.toList=(es.take k++e::es.drop (k+1)).flatMap evC:=by rw [hd,List.flatMap_append,List.flatMap_singleton];rfl
   rw [e1] at hS
   exact Sl.to hS rfl e2
  ·rintro ⟨A2,c2,o⟩ g hS2
   have hmem:∀ a∈es.take k++e::es.drop (k+1),a=e\/a∈es:=λa ha=>by
    rcases List.mem_append.1 ha with ha|ha
    ·exact .inr (List.mem_of_mem_take ha)
    ·rcases List.mem_cons.1 ha with ha|ha
     ·exact .inl ha
     ·exact .inr (List.mem_of_mem_drop ha)
   refine yV (k:=151) (args:= #[hvV ⟨nm,A2,c2,es.take k++e::es.drop (k+1)⟩]) (R:=λv ob=>∃ y,v=hvV y/\y.sh=⟨nm,(es.take k++e::es.drop (k+1)).map Ev.et⟩/\ShO y ob) [3] (λw hO=> ?_) ?_
   ·have hO':=hO.past 4 o
    have hb:=hO.below
    clear hO
    exact frShelf_any ⟨nm,A2,c2,es.take k++e::es.drop (k+1)⟩ w (hfin _ _ o A2 c2 _ w hO' (λb h=>h) hS2 hmem (by rw [hls];omega) hb) hsn
   ·rintro _ ob ⟨y,rfl,hy,hyo⟩
    exact gH [1] 1 (hvV y) λw hO=>⟨_,ob,rfl,⟨y,rfl,by rw [hy,List.map_append,List.map_cons,List.map_take,List.map_drop],hyo⟩,(hO.past 4 (o++ob)).sublist (List.sublist_append_right _ _)⟩
end
section
set_option linter.unnecessarySimpa false
theorem wP (x:Hv)(W:World)(hx:ShIn W W.heap.size x)(hK:RecLib W):YC 31 #[hvV x] W (YR (.bool (decide (yR x.sh))) W):=by
 have hno:∀ w,Below W.heap.size W w→¬ yR x.sh->(Ending.returned (.bool false)= .returned (.bool (decide (yR x.sh))))/\Below W.heap.size W w:=λw hb h=>⟨by rw [decide_eq_false h],hb⟩
 have hyes:∀ w,Below W.heap.size W w->yR x.sh->(Ending.returned (.bool true)= .returned (.bool (decide (yR x.sh))))/\Below W.heap.size W w:=λw hb h=>⟨by rw [decide_eq_true h],hb⟩
 have hpre:yR x.sh→∀ i,PreM ((x.es.map Ev.et).take i):=λh i=>may_pre13 h i
 have hmk:nmL x.name=true->x.es.length<=64->PreM (x.es.map Ev.et)->yR x.sh:=λa b c=>pre_may a (by simpa [Hv.sh] using b) c
 have hnot:yR x.sh->nmL x.name=true:=λh=>h.name
 have hfew:yR x.sh->x.es.length<=64:=λh=>by simpa [Hv.sh] using h.few
 obtain ⟨hE,hle,hsn⟩:=hx
 have c1:∀ w,YC 52 #[.string (mkS x.name)] w (YR (.bool (nmL x.name)) w):=λw=>dG x.name w hsn
 refine z8 Tryz.func31 (zV [] λb1=>z1 (v:= .bool (nmL x.name)) [0] (λw hO=>c1 w) (yG 9 (nmL x.name) (λh9=> ?_) (λh9=> ?_)))
 rotate_left
 ·exact z6 [] Z5 λw hO=>hno w hO.below λh=>by rw [hnot h] at h9;cases h9
 refine zE 15 [0] ((x.es.length:Int)>64) (λh15=> ?_) (λh15=> ?_)
 ·exact z6 [] Z5 λw hO=>hno w hO.below λh=>by have:=hfew h;omega
 refine y4 (α:=Nat) (λi=>[(1,Zp b1 0),(18,.slice x.A x.es.length x.cap),(19,YI (x.es.length:Int)),(20,YI (i:Int))]) (λ_=>[⟨b1, #[.string (mkS x.name),.slice x.A x.es.length x.cap],49⟩]) (λi m=>(i<=x.es.length/\PreM ((x.es.map Ev.et).take i))/\m=x.es.length-i) 0 x.es.length [0] ⟨⟨Nat.zero_le _,⟨λe h=>by simp at h,by simp⟩⟩,rfl⟩ ?_
 rintro i mm g kk ⟨⟨hi,hP⟩,hmm⟩ nx hkk
 subst hkk
 refine zE 21 [] ((i:Int)<(x.es.length:Int)) (λh21=> ?_) (λh21=> ?_)
 rotate_left
 ·exact z6 [] Z4 λw hO=>hyes w hO.below (hmk h9 Om (by rw [show i=x.es.length by omega,←List.length_map (f:=Ev.et),List.take_length] at hP;exact hP))
 have hj:i<x.es.length:=by omega
 obtain ⟨eb,eo,hA,hel⟩:=hE.top.elem jE i hj
 have hel0:∀ w,Below W.heap.size W w->(loadVar 57 ⟨eb,eo+i*11+0,none⟩).run Tryz.prog w= .ok (evV x.es[i]) w:=λw hw=>hel w hw _ 0 _ Kr
 have hR:=hE.each _ (List.getElem_mem hj)
 have hstep:PreM ((x.es.map Ev.et).take (i+1))↔PreM ((x.es.map Ev.et).take i)/\okE x.es[i].et/\zO ((x.es.map Ev.et).take i) x.es[i].rec'.name x.es[i].rec'.ver= -1:=by
  rw [List.take_succ_eq_append_getElem (by simpa using hj),List.getElem_map];exact pre_step
 have hq:=λh=>(hstep.1 (hpre h (i+1))).2
 generalize x.es[i]=u at*
 have cS:∀ w,Below W.heap.size W w->YC 20 #[rvV u.rec'] w (YR (.tuple #[.int .u64 (d8 u.rec'.rt),YI (zX u.rec'.rt).1]) w):=λw hb=>qSum_any u.rec' w (hR.on hb hb.size) (hK.on hb)
 have cB:∀ w,Below W.heap.size W w->YC 79 #[.slice x.A x.es.length x.cap,YI (i:Int)] w (YR (.slice x.A i i) w):=λw hb=>m7 x.A x.cap x.es i w (hE.top.on hb hb.size) hi hle
 have cP:∀ w,Below W.heap.size W w->YC 78 #[.slice x.A i i,.string (mkS u.rec'.name),x5 u.rec'.ver] w (YR (YI (zO ((x.es.map Ev.et).take i) u.rec'.name u.rec'.ver)) w):=λw hb=>by
  have:=dZ x.A i (x.es.take i) u.rec'.name u.rec'.ver w ((hE.fst i).on hb hb.size) (λe he=>by
   have:=hP.1 e.et (by rw [←et_take];exact List.mem_map_of_mem he)
   exact (qN this.1).2.1) hR.sn.2.1 hR.sn.2.2
  rw [List.length_take,Nat.min_eq_left hi,et_take] at this;exact this
 have hzz:=mA ((x.es.map Ev.et).take i) u.rec'.name u.rec'.ver
 generalize zO ((x.es.map Ev.et).take i) u.rec'.name u.rec'.ver=z at*
 have hok:okE u.et↔(zX u.rec'.rt).1=0/\d8 u.rec'.rt=u.sum:=Iff.rfl
 refine zU 23 [] hA x.es.length x.cap i 11 hj (zP 24 [] 57 eb (eo+i*11+0) (evV u) (λw hO=>hel0 w hO.below) (zD [] λb4=>z1 (v:= .tuple #[.int .u64 (d8 u.rec'.rt),YI (zX u.rec'.rt).1]) [0,0] (λw hO=>cS w hO.below) (qT 32 [] ((zX u.rec'.rt).1=0) (λh32=> ?_) (λh32=> ?_))))
 rotate_left
 ·exact z6 [] Z5 λw hO=>hno w hO.below λh=>h32 (hq h).1.1
 refine qT 37 [0] (d8 u.rec'.rt=u.sum) (λh37=> ?_) (λh37=> ?_)
 rotate_left
 ·exact z6 [] Z5 λw hO=>hno w hO.below λh=>h37 (hq h).1.2
 refine z1 (v:= .slice x.A i i) [1] (λw hO=>cB w hO.below) (z1 (v:=YI z) [0,0] (λw hO=>cP w hO.below) (zE 51 [] (z>=0) (λh51=> ?_) (λh51=> ?_)))
 ·exact z6 [] Z5 λw hO=>hno w hO.below λh=>by have:=(hq h).2;omega
 ·exact x_i 20 [] ((i+1:Nat):Int) (zH [] [⟨b1, #[.string (mkS x.name),.slice x.A x.es.length x.cap],49⟩] (λw hO=>hO.past 1 _) (nx (i+1) (x.es.length-(i+1)) [] Om ⟨⟨hj,hstep.2 ⟨hP,hok.2 ⟨h32,h37⟩,by omega⟩⟩,rfl⟩ Kr Kr))
theorem sFind_any (x:Hv)(nm:List UInt8)(v:Ver)(W:World)(hx:ShIn W W.heap.size x)(h3:v.pre.length<=1000000)(h4:v.build.length<=1000000)(hK:RecLib W):YC 33 #[hvV x,.string (mkS nm),x5 v] W (YR (YI (findS x.sh nm v)) W):=by
 have cM:∀ w,Below W.heap.size W w->YC 31 #[hvV x] w (YR (.bool (decide (yR x.sh))) w):=λw hb=>wP x w (hx.on hb hb.size) (hK.on hb)
 have cP:yR x.sh→∀ w,Below W.heap.size W w->YC 78 #[.slice x.A x.es.length x.cap,.string (mkS nm),x5 v] w (YR (YI (zO x.sh.es nm v)) w):=λh w hb=>dZ x.A x.cap x.es nm v w (hx.es.on hb hb.size) (λe he=>(qN (h.ok e.et (List.mem_map_of_mem he)).1).2.1) h3 h4
 refine z8 Tryz.func33 (zV [] λb3=>zV [] λb5=>z1 (v:= .bool (decide (yR x.sh))) [1] (λw hO=>cM w hO.below) (gW 8 (yR x.sh) (λh=> ?_) (λh=> ?_)))
 ·exact z1 (v:=YI (zO x.sh.es nm v)) [1,0] (λw hO=>cP h w hO.below) (z6 [] (YI (zO x.sh.es nm v)) λw hO=>⟨by unfold findS;rw [if_pos h],hO.below⟩)
 ·exact z6 [] (YI (-1)) λw hO=>⟨by unfold findS;rw [if_neg h],hO.below⟩
theorem sPut_any (x:Hv)(r:Rv)(W:World)(hx:ShIn W W.heap.size x)(hr:RcIn W W.heap.size r)(hK:RecLib W):YC 38 #[hvV x,rvV r] W λe w'=>∃ v ob,e= .returned v/\(∃ y,v= .tuple #[hvV y,YI (putS x.sh r.rt).2]/\y.sh=(putS x.sh r.rt).1/\ShO y ob)/\Own [] W w' ob:=by
 have cM:∀ w,Below W.heap.size W w->YC 31 #[hvV x] w (YR (.bool (decide (yR x.sh))) w):=λw hb=>wP x w (hx.on hb hb.size) (hK.on hb)
 have cS:∀ w,Below W.heap.size W w->YC 20 #[rvV r] w (YR (.tuple #[.int .u64 (d8 r.rt),YI (zX r.rt).1]) w):=λw hb=>qSum_any r w (hr.on hb hb.size) (hK.on hb)
 have cP:yR x.sh→∀ w,Below W.heap.size W w->YC 78 #[.slice x.A x.es.length x.cap,.string (mkS r.name),x5 r.ver] w (YR (YI (zO x.sh.es r.name r.ver)) w):=λh w hb=>dZ x.A x.cap x.es r.name r.ver w (hx.es.on hb hb.size) (λe he=>(qN (h.ok e.et (List.mem_map_of_mem he)).1).2.1) hr.sn.2.1 hr.sn.2.2
 have cW:yR x.sh→∀ w,Below W.heap.size W w->YC 85 #[hvV x,YI (x.es.length:Int),evV ⟨r,d8 r.rt,false⟩] w λe' w'=>∃ v ob,e'= .returned v/\(∃ y,v=hvV y/\y.sh=⟨x.name,x.sh.es++[⟨r.rt,d8 r.rt,false⟩]⟩/\ShO y ob)/\Own [] w w' ob:=λh w hb=>by
  have hl:x.es.length<=64:=by have:=h.few;simpa [Hv.sh] using this
  have:=sWith_any x x.es.length ⟨r,d8 r.rt,false⟩ w (hx.on hb hb.size) (hr.on hb hb.size) (Nat.le_refl _) Om
  rw [List.take_of_length_le (by simp),List.drop_eq_nil_of_le (by simp)] at this;exact this
 obtain ⟨p,hp⟩:∃ p,putS x.sh r.rt=p:=⟨_,rfl⟩
 have hl0:x.sh.es.length=x.es.length:=by simp [Hv.sh]
 rw [hp]
 unfold putS at hp
 rw [hl0] at hp
 have hout:∀ (z:Int) (w:World),p=(wU,z)->Own [] W w []→∃ v ob,Ending.returned (.tuple #[hvV hv0,YI z])= .returned v/\(∃ y,v= .tuple #[hvV y,YI p.2]/\y.sh=p.1/\ShO y ob)/\Own [] W w ob:=λz w e hO=>⟨_,[],rfl,⟨hv0,by rw [e],by rw [e];rfl,hv0_o⟩,hO⟩
 refine z8 Tryz.func38 (zV [] λb2=>zV [] λb3=>zD [] λb4=>z1 (v:= .bool (decide (yR x.sh))) [2] (λw hO=>cM w hO.below) (gW 9 (yR x.sh) (λhm=> ?_) (λhm=> ?_)))
 rotate_left
 ·exact yI [0] 0 (hvV hv0) (YI 1) λw hO=>hout 1 w (by rw [←hp,if_neg hm]) hO.no
 rw [if_pos hm] at hp
 refine z1 (v:= .tuple #[.int .u64 (d8 r.rt),YI (zX r.rt).1]) [1] (λw hO=>cS w hO.below) (qT 19 [] ((zX r.rt).1=0) (λhc=> ?_) (λhc=> ?_))
 rotate_left
 ·exact yI [0] 0 (hvV hv0) (YI (zX r.rt).1) λw hO=>hout _ w (by rw [←hp,if_neg hc]) hO.no
 rw [if_pos hc] at hp
 have hge:=mA x.sh.es r.name r.ver
 have hcP:=cP hm
 have hpz:∀ z,zO x.sh.es r.name r.ver=z->(if z= -1 then if x.es.length=64 then (wU,10) else ((⟨x.sh.name,x.sh.es++[⟨r.rt,d8 r.rt,false⟩]⟩:Sh),(0:Int)) else (wU,8))=p:=λz e=>e▸hp
 generalize zO x.sh.es r.name r.ver=z at hge hcP hpz
 have hpz:=hpz z rfl
 refine z1 (v:=YI z) [2,1,1] (λw hO=>hcP w hO.below) (zE 30 [] (z>=0) (λh30=> ?_) (λh30=> ?_))
 ·exact yI [0] 0 (hvV hv0) (YI 8) λw hO=>hout _ w (by rw [←hpz,if_neg Om]) hO.no
 rw [if_pos Om] at hpz
 refine zE 36 [2] ((x.es.length:Int)=64) (λh36=> ?_) (λh36=> ?_)
 ·exact yI [0] 0 (hvV hv0) (YI 10) λw hO=>hout _ w (by rw [←hpz,if_pos Om]) hO.no
 rw [if_neg Om] at hpz
 refine yV (R:=λv ob=>∃ y,v=hvV y/\y.sh=⟨x.name,x.sh.es++[⟨r.rt,d8 r.rt,false⟩]⟩/\ShO y ob) [2,2,1] (λw hO=>cW hm w hO.below) ?_
 rintro _ ob ⟨y,rfl,hy,hyo⟩
 exact yI [0] 0 (hvV y) (YI 0) λw hO=>⟨_,ob,rfl,⟨y,by rw [←hpz],by rw [←hpz];exact hy,hyo⟩,hO.past 3 ob⟩
theorem sYank_any (x:Hv)(nm:List UInt8)(v:Ver)(on:Bool)(W:World)(hx:ShIn W W.heap.size x)(h3:v.pre.length<=1000000)(h4:v.build.length<=1000000)(hK:RecLib W):YC 40 #[hvV x,.string (mkS nm),x5 v,.bool on] W λe w'=>∃ u ob,e= .returned u/\(∃ y,u= .tuple #[hvV y,YI (yankS x.sh nm v on).2]/\y.sh=(yankS x.sh nm v on).1/\ShO y ob)/\Own [] W w' ob:=by
 have cM:∀ w,Below W.heap.size W w->YC 31 #[hvV x] w (YR (.bool (decide (yR x.sh))) w):=λw hb=>wP x w (hx.on hb hb.size) (hK.on hb)
 have cP:yR x.sh→∀ w,Below W.heap.size W w->YC 78 #[.slice x.A x.es.length x.cap,.string (mkS nm),x5 v] w (YR (YI (zO x.sh.es nm v)) w):=λh w hb=>dZ x.A x.cap x.es nm v w (hx.es.on hb hb.size) (λe he=>(qN (h.ok e.et (List.mem_map_of_mem he)).1).2.1) h3 h4
 have cW:yR x.sh→∀ (i:Nat) (hi:i<x.es.length) (w:World),Below W.heap.size W w->YC 85 #[hvV x,YI (i:Int),evV {x.es[i] with yk:=on}] w λe' w'=>∃ v ob,e'= .returned v/\(∃ y,v=hvV y/\y.sh=⟨x.name,vL x.sh.es i on⟩/\ShO y ob)/\Own [] w w' ob:=λh i hi w hb=>by
  have hl:x.es.length<=64:=by have:=h.few;simpa [Hv.sh] using this
  have:=sWith_any x i {x.es[i] with yk:=on} w (hx.on hb hb.size) ((hx.es.each _ (List.getElem_mem hi)).on hb hb.size) Om Om
  have e:vL x.sh.es i on=(x.es.map Ev.et).take i++({x.es[i] with yk:=on}:Ev).et::(x.es.map Ev.et).drop (i+1):=by
   rw [mark_is _ i (by simpa [Hv.sh] using hi)]
   simp only [Hv.sh,List.getElem_map];rfl
  rw [e];exact this
 obtain ⟨p,hp⟩:∃ p,yankS x.sh nm v on=p:=⟨_,rfl⟩
 rw [hp]
 unfold yankS at hp
 have hout:∀ (z:Int) (w:World),p=(wU,z)->Own [] W w []→∃ v ob,Ending.returned (.tuple #[hvV hv0,YI z])= .returned v/\(∃ y,v= .tuple #[hvV y,YI p.2]/\y.sh=p.1/\ShO y ob)/\Own [] W w ob:=λz w e hO=>⟨_,[],rfl,⟨hv0,by rw [e],by rw [e];rfl,hv0_o⟩,hO⟩
 refine z8 Tryz.func40 (zV [] λb4=>zV [] λb6=>zD [] λb8=>z1 (v:= .bool (decide (yR x.sh))) [2] (λw hO=>cM w hO.below) (gW 13 (yR x.sh) (λhm=> ?_) (λhm=> ?_)))
 rotate_left
 ·exact yI [0] 0 (hvV hv0) (YI 1) λw hO=>hout 1 w (by rw [←hp,if_neg hm]) hO.no
 rw [if_pos hm] at hp
 have hge:=mA x.sh.es nm v
 have hcP:=cP hm
 have hat:= @place_some x.sh.es nm v
 have hpz:∀ z,zO x.sh.es nm v=z->(if z= -1 then (wU,9) else ((⟨x.sh.name,vL x.sh.es z.toNat on⟩:Sh),(0:Int)))=p:=λz e=>e▸hp
 generalize zO x.sh.es nm v=z at hge hcP hpz hat
 have hpz:=hpz z rfl
 refine z1 (v:=YI z) [2,1] (λw hO=>hcP w hO.below) (zE 22 [] (z<0) (λh22=> ?_) (λh22=> ?_))
 ·exact yI [0] 0 (hvV hv0) (YI 9) λw hO=>hout _ w (by rw [←hpz,if_pos Om]) hO.no
 rw [if_neg Om] at hpz
 obtain ⟨i,hi,rfl,_,_⟩:=hat Om
 have hj:i<x.es.length:=by simpa [Hv.sh] using hi
 have hcW:=cW hm i hj
 obtain ⟨eb,eo,hA,hel⟩:=hx.es.top.elem jE i hj
 have hel0:∀ w,Below W.heap.size W w->(loadVar 57 ⟨eb,eo+i*11+0,none⟩).run Tryz.prog w= .ok (evV x.es[i]) w:=λw hw=>hel w hw _ 0 _ Kr
 generalize x.es[i]=u at hcW hel0
 refine zU 27 [2] hA x.es.length x.cap i 11 hj (zP 28 [] 57 eb (eo+i*11+0) (evV u) (λw hO=>hel0 w hO.below) (zD [] λb11=>yV (R:=λv ob=>∃ y,v=hvV y/\y.sh=⟨x.name,vL x.sh.es i on⟩/\ShO y ob) [0,0,3,0] (λw hO=>hcW w hO.below) ?_))
 rintro _ ob ⟨y,rfl,hy,hyo⟩
 exact yI [1] 1 (hvV y) (YI 0) λw hO=>⟨_,ob,rfl,⟨y,by rw [←hpz],by rw [←hpz];exact hy,hyo⟩,hO.past 4 ob⟩
def Ev.rcT (e:Ev):Rt:=e.rec'.rt
theorem sSame_any (x y:Ev)(W:World)(hx:RcSm W W.heap.size x.rec')(hy:RcSm W W.heap.size y.rec'):YC 88 #[evV x,evV y] W (YR (.bool (decide (Ev.rcT x=Ev.rcT y))) W):=by
 have c:∀ w,Below W.heap.size W w->YC 152 #[rvV x.rec',rvV y.rec'] w (YR (.bool (decide (Ev.rcT x=Ev.rcT y))) w):=λw hb=>qSame_any x.rec' y.rec' w (hx.on hb hb.size) (hy.on hb hb.size)
 exact z8 Tryz.func88 (zV [] λb2=>zV [] λb3=>z1 (v:= .bool (decide (Ev.rcT x=Ev.rcT y))) [1,0] (λw hO=>c w hO.below) (z6 [] (.bool (decide (Ev.rcT x=Ev.rcT y))) λw hO=>⟨rfl,hO.below⟩))
theorem sEqE_any (A B:Option Addr)(cap capb:Nat)(xs ys:List Ev)(W:World)(hx:Reads evC W W.heap.size A xs)(hy:Reads evC W W.heap.size B ys)(hn:xs.length<=1000000)(hm:ys.length<=1000000)(hp:∀ x∈xs,∀ y∈ys,∀ w,Below W.heap.size W w->YC 88 #[evV x,evV y] w (YR (.bool (decide (Ev.rcT x=Ev.rcT y))) w)):YC 87 #[.slice A xs.length cap,.slice B ys.length capb,.func (.func 88) #[] #[]] W (YR (.bool (decide (xs.map Ev.rcT=ys.map Ev.rcT))) W):=by
 have hno:∀ w,Below W.heap.size W w→¬ xs.map Ev.rcT=ys.map Ev.rcT->(Ending.returned (.bool false)= .returned (.bool (decide (xs.map Ev.rcT=ys.map Ev.rcT))))/\Below W.heap.size W w:=λw hb h=>⟨by rw [decide_eq_false h],hb⟩
 refine z8 Tryz.func87 (qT 14 [] ((xs.length:Int)=(ys.length:Int)) (λh1=> ?_) (λh1=> ?_))
 rotate_left
 ·exact z6 [] Z5 λw hO=>hno w hO.below (no_len h1)
 have hl:xs.length=ys.length:=by omega
 refine y4 (α:=Nat) (λi=>[(1,.slice B ys.length capb),(2,.func (.func 88) #[] #[]),(15,.slice A xs.length cap),(16,YI (xs.length:Int)),(17,YI (i:Int))]) (λ_=>[]) (λi m=>(i<=xs.length/\(xs.map Ev.rcT).take i=(ys.map Ev.rcT).take i)/\m=xs.length-i) 0 xs.length [] ⟨⟨Nat.zero_le _,rfl⟩,rfl⟩ ?_
 rintro i mm g kk ⟨⟨hi,heq⟩,hmm⟩ nx hkk
 subst hkk
 refine zE 18 [] ((i:Int)<(xs.length:Int)) (λh18=> ?_) (λh18=> ?_)
 rotate_left
 ·exact z6 [] Z4 λw hO=>⟨by rw [decide_eq_true (nB hl Om heq)],hO.below⟩
 have hj:i<xs.length:=by omega
 have hj2:i<ys.length:=by omega
 have hst:=dE hj hj2 heq
 have hdf:=j6 (f:=Ev.rcT) hj hj2
 have hc:=hp _ (List.getElem_mem hj) _ (List.getElem_mem hj2)
 obtain ⟨eb,eo,hA,hel⟩:=hx.elem jE i hj
 obtain ⟨fb,fo,hA2,hel2⟩:=hy.elem jE i hj2
 have h1':∀ w,Below W.heap.size W w->(loadVar 57 ⟨eb,eo+i*11+0,none⟩).run Tryz.prog w= .ok (evV xs[i]) w:=λw hw=>hel w hw _ 0 _ Kr
 have h2':∀ w,Below W.heap.size W w->(loadVar 57 ⟨fb,fo+i*11+0,none⟩).run Tryz.prog w= .ok (evV ys[i]) w:=λw hw=>hel2 w hw _ 0 _ Kr
 clear hp
 generalize xs[i]=u at*
 generalize ys[i]=v at*
 refine zU 20 [] hA xs.length cap i 11 hj (zP 21 [] 57 eb (eo+i*11+0) (evV u) (λw hO=>h1' w hO.below) (zD [] λb8=>zU 24 [0] hA2 ys.length capb i 11 hj2 (zP 25 [] 57 fb (fo+i*11+0) (evV v) (λw hO=>h2' w hO.below) (zD [] λb9=>z1 (v:= .bool (decide (Ev.rcT u=Ev.rcT v))) [0,1,0] (λw hO=>hc w hO.below) (gW 29 (Ev.rcT u=Ev.rcT v) (λh=> ?_) (λh=> ?_))))))
 ·exact x_i 17 [] ((i+1:Nat):Int) (zH [] [] (λw hO=>hO.no) (nx (i+1) (xs.length-(i+1)) [] Om ⟨⟨hj,hst h⟩,rfl⟩ Kr Kr))
 ·exact z6 [] Z5 λw hO=>hno w hO.below (hdf h)
theorem f0 (x y:Hv)(W:World)(hx:ShIn W W.heap.size x)(hy:ShIn W W.heap.size y)(hK:RecLib W):YC 44 #[hvV x,hvV y] W (YR (.bool (decide (qO x.sh y.sh))) W):=by
 have hno:∀ w,Below W.heap.size W w→¬ qO x.sh y.sh->(Ending.returned (.bool false)= .returned (.bool (decide (qO x.sh y.sh))))/\Below W.heap.size W w:=λw hb h=>⟨by rw [decide_eq_false h],hb⟩
 have cX:∀ w,Below W.heap.size W w->YC 31 #[hvV x] w (YR (.bool (decide (yR x.sh))) w):=λw hb=>wP x w (hx.on hb hb.size) (hK.on hb)
 have cY:∀ w,Below W.heap.size W w->YC 31 #[hvV y] w (YR (.bool (decide (yR y.sh))) w):=λw hb=>wP y w (hy.on hb hb.size) (hK.on hb)
 have cB:x.es.length<=y.es.length→∀ w,Below W.heap.size W w->YC 79 #[.slice y.A y.es.length y.cap,YI (x.es.length:Int)] w (YR (.slice y.A x.es.length x.es.length) w):=λh w hb=>m7 y.A y.cap y.es x.es.length w (hy.es.top.on hb hb.size) h hy.le
 have cE:x.es.length<=y.es.length→∀ w,Below W.heap.size W w->YC 87 #[.slice x.A x.es.length x.cap,.slice y.A x.es.length x.es.length,.func (.func 88) #[] #[]] w (YR (.bool (decide (x.es.map Ev.rcT=(y.es.take x.es.length).map Ev.rcT))) w):=λh w hb=>by
  have hl:(y.es.take x.es.length).length=x.es.length:=by rw [List.length_take,Nat.min_eq_left h]
  have hyf:=hy.es.fst x.es.length
  have hl2:∀ k,(y.es.take x.es.length).length=k->YC 87 #[.slice x.A x.es.length x.cap,.slice y.A k x.es.length,.func (.func 88) #[] #[]] w (YR (.bool (decide (x.es.map Ev.rcT=(y.es.take x.es.length).map Ev.rcT))) w):=λk hk=>by
   subst hk
   exact sEqE_any x.A y.A x.cap x.es.length x.es (y.es.take x.es.length) w (hx.es.top.on hb hb.size) (hyf.top.on hb hb.size) (by have:=hx.es.n;omega) (by have:=hx.es.n;omega) λa ha b hb' w2 hb2=>by
    have hb3:=hb.trans (hb2.mono hb.size)
    exact sSame_any a b w2 ((hx.es.each a ha).on hb3 hb3.size).sm ((hyf.each b hb').on hb3 hb3.size).sm
  exact hl2 _ hl
 have hG:qO x.sh y.sh↔yR x.sh/\yR y.sh/\x.name=y.name/\x.es.length<=y.es.length/\x.es.map Ev.rcT=(y.es.take x.es.length).map Ev.rcT:=by
  unfold qO
  simp only [Hv.sh,List.length_map,List.map_map,←List.map_take];rfl
 refine z8 Tryz.func44 (zV [] λb2=>zV [] λb3=>z1 (v:= .bool (decide (yR x.sh))) [1,1] (λw hO=>cX w hO.below) (gW 10 (yR x.sh) (λh1=> ?_) (λh1=> ?_)))
 rotate_left
 ·exact z6 [] Z5 λw hO=>hno w hO.below λh=>h1 (hG.1 h).1
 refine z1 (v:= .bool (decide (yR y.sh))) [0] (λw hO=>cY w hO.below) (gW 13 (yR y.sh) (λh2=> ?_) (λh2=> ?_))
 rotate_left
 ·exact z6 [] Z5 λw hO=>hno w hO.below λh=>h2 (hG.1 h).2.1
 refine xN 20 [1,0] x.name y.name (λh3=> ?_) (λh3=> ?_)
 rotate_left
 ·exact z6 [] Z5 λw hO=>hno w hO.below λh=>h3 (hG.1 h).2.2.1
 refine zE 27 [0] ((x.es.length:Int)<=(y.es.length:Int)) (λh4=> ?_) (λh4=> ?_)
 rotate_left
 ·exact z6 [] Z5 λw hO=>hno w hO.below λh=>h4 (by have:=(hG.1 h).2.2.2.1;omega)
 have h5:x.es.length<=y.es.length:=by omega
 have cB':=cB h5
 have cE':=cE h5
 refine z1 (v:= .slice y.A x.es.length x.es.length) [1,0] (λw hO=>cB' w hO.below) (z1 (v:= .bool (decide (x.es.map Ev.rcT=(y.es.take x.es.length).map Ev.rcT))) [] (λw hO=>cE' w hO.below) ?_)
 exact z6 [] (.bool (decide (x.es.map Ev.rcT=(y.es.take x.es.length).map Ev.rcT))) λw hO=>⟨by
  have:decide (x.es.map Ev.rcT=(y.es.take x.es.length).map Ev.rcT)=decide (qO x.sh y.sh):=by
   rw [decide_eq_decide,hG]
   exact ⟨λh=>⟨h1,h2,h3,h5,h⟩,λh=>h.2.2.2.2⟩
  rw [this],hO.below⟩
end
section
set_option linter.unnecessarySimpa false
theorem put_is {s:Sh}{r:Rt}(h:yR s)(hc:(zX r).1=0)(hl:s.es.length<64):putS s r=if zO s.es r.name r.ver= -1 then (⟨s.name,s.es++[⟨r,d8 r,false⟩]⟩,0) else (wU,8):=by
 unfold putS
 rw [if_pos h,if_pos hc,if_neg (show ¬ s.es.length=64 by omega)]
theorem yank_is {s:Sh}{n:List UInt8}{v:Ver}{on:Bool}(h:yR s):yankS s n v on=if zO s.es n v= -1 then (wU,9) else (⟨s.name,vL s.es (zO s.es n v).toNat on⟩,0):=by
 unfold yankS;rw [if_pos h]
theorem find_is {s:Sh}{n:List UInt8}{v:Ver}(h:yR s):findS s n v=zO s.es n v:=by
 unfold findS;rw [if_pos h]
def gJ:List UInt8:=[111,110,101]
def s0v:Hv:=⟨[111,110,101],none,0,[]⟩
def r0v:Rv:=⟨[98],1,0,0,[],[],none,0,[],none,0,[],none,0,[]⟩
theorem s0_in (w:World):ShIn w w.heap.size s0v:=⟨⟨λh=>absurd h (by decide),(λe h=>by cases h),by decide⟩,by decide,by decide⟩
theorem r0_in (w:World):RcIn w w.heap.size r0v:=⟨λh=>absurd h (by decide),(λn h=>by cases h),(λn h=>by cases h),λh=>absurd h (by decide),⟨λh=>absurd h (by decide),(λn h=>by cases h),by decide,(λn h=>by cases h),(λn h=>by cases h),(λn h=>by cases h)⟩,by decide,(λn h=>by cases h),(λn h=>by cases h),by decide,⟨by decide,by decide,by decide⟩,(λn h=>by cases h),(λn h=>by cases h),(λn h=>by cases h)⟩
theorem chk0:(zX r0v.rt).1=0:=by kernel_rfl
theorem may0:yR ⟨gJ,[]⟩:=⟨by kernel_rfl,by decide,(λe h=>by cases h),List.Pairwise.nil⟩
theorem hit0 (z:Int)(y:Bool):fK r0v.rt.name r0v.rt.ver ⟨r0v.rt,z,y⟩=true:=by
 unfold fK oneV
 simp only [Bool.and_eq_true,decide_eq_true_eq]
 exact ⟨trivial,⟨by kernel_rfl,by kernel_rfl⟩,order_self⟩
def es0 (y:Bool):List Et:=[⟨r0v.rt,d8 r0v.rt,y⟩]
theorem place0 (y:Bool):zO (es0 y) r0v.rt.name r0v.rt.ver=0:=place_at (i:=0) (Nat.zero_lt_one) (λe h=>by simp at h) (hit0 _ _)
theorem may1 (y:Bool):yR ⟨gJ,es0 y⟩:=may_core (s:=⟨gJ,es0 false⟩) rfl rfl (put_may may0 chk0 (place_none.2 (λe h=>by cases h)) (by decide))
theorem put0:putS ⟨gJ,[]⟩ r0v.rt=(⟨gJ,es0 false⟩,0):=by
 rw [put_is may0 chk0 (by decide),if_pos (place_none.2 (λe h=>by cases h))];rfl
theorem put1:putS ⟨gJ,es0 false⟩ r0v.rt=(wU,8):=by
 rw [put_is (may1 false) chk0 (by decide),if_neg (by rw [place0];decide)]
theorem yank0:yankS ⟨gJ,es0 false⟩ [98] r0v.ver true=(⟨gJ,es0 true⟩,0):=by
 have e:zO (es0 false) [98] r0v.ver=0:=place0 false
 rw [yank_is (may1 false),if_neg (by show ¬ zO (es0 false) [98] r0v.ver= -1;rw [e];decide)]
 show ((⟨gJ,vL (es0 false) (zO (es0 false) [98] r0v.ver).toNat true⟩:Sh),(0:Int))=_
 rw [e];rfl
theorem awake13_any (W:World)(hK:RecLib W):YC 28 #[] W (YR (.bool true) W):=by
 refine z8 Tryz.func28 (zD [] λb1=>zD [0] λb2=> ?_)
 refine yV (R:=λv ob=>∃ y,v= .tuple #[hvV y,YI 0]/\y.sh=⟨gJ,es0 false⟩/\ShO y ob) [0,1,0] (λw hO=>by
  have h:=sPut_any s0v r0v w (s0_in w) (r0_in w) (hK.on hO.below)
  rw [show s0v.sh=⟨gJ,[]⟩ from rfl,put0] at h;exact h) ?_
 rintro _ ob1 ⟨y1,rfl,e1,o1⟩
 have i1:∀ w,Own [] W w ob1->ShIn w w.heap.size y1:=λw hO=>o1.inn hO (λb h=>h) (e1▸may1 false)
 refine zD [] λb3=>yV (R:=λv ob=>∃ y,v= .tuple #[hvV y,YI 8]/\y.sh=wU/\ShO y ob) [0,0,1] (λw hO=>by
  have hO':=hO.past 3 ob1
  clear hO
  have h:=sPut_any y1 r0v w (i1 w hO') (r0_in w) (hK.on hO'.below)
  rw [e1,put1] at h;exact h) ?_
 rintro _ ob2 ⟨y2,rfl,e2,o2⟩
 refine zD [] λb5=>yV (R:=λv ob=>∃ y,v= .tuple #[hvV y,YI 0]/\y.sh=⟨gJ,es0 true⟩/\ShO y ob) [0,1,2] (λw hO=>by
  have hO':=(hO.past 4 (ob1++ob2)).sublist (List.sublist_append_left _ _)
  clear hO
  have h:=sYank_any y1 [98] r0v.ver true w (i1 w hO') (by decide) (by decide) (hK.on hO'.below)
  rw [e1,yank0] at h;exact h) ?_
 rintro _ ob3 ⟨y3,rfl,e3,o3⟩
 have i3:∀ w,Own [] W w ob3->ShIn w w.heap.size y3:=λw hO=>o3.inn hO (λb h=>h) (e3▸may1 true)
 have hl:y3.es.length=1:=by
  have:=congrArg (λs:Sh=>s.es.length) e3
  simpa [Hv.sh,es0] using this
 obtain ⟨nm,A,c,es⟩:=y3
 obtain ⟨a,rfl⟩:=List.length_eq_one_iff.1 hl
 have ha:a.yk=true:=by
  have:=congrArg (λs:Sh=>s.es.map Et.yk) e3
  simpa [Hv.sh,es0,Ev.et] using this
 have c1:∀ w,Own [] W w ob3->YC 33 #[hvV ⟨nm,A,c,[a]⟩,.string (mkS [98]),x5 r0v.ver] w (YR (YI 0) w):=λw hO=>by
  have h:=sFind_any ⟨nm,A,c,[a]⟩ [98] r0v.ver w (i3 w hO) (by decide) (by decide) (hK.on hO.below)
  rw [e3,find_is (may1 true),show zO (⟨gJ,es0 true⟩:Sh).es [98] r0v.ver=0 from place0 true] at h;exact h
 have c2:∀ w,Own [] W w ob3->YC 44 #[hvV s0v,hvV ⟨nm,A,c,[a]⟩] w (YR (.bool true) w):=λw hO=>by
  have h:=f0 s0v ⟨nm,A,c,[a]⟩ w (s0_in w) (i3 w hO) (hK.on hO.below)
  rw [e3,decide_eq_true (grown_nil (s:=s0v.sh) may0 rfl (may1 true) rfl)] at h;exact h
 have c3:∀ w,Own [] W w ob3->YC 31 #[hvV ⟨nm,A,c,[a]⟩] w (YR (.bool true) w):=λw hO=>by
  have h:=wP ⟨nm,A,c,[a]⟩ w (i3 w hO) (hK.on hO.below)
  rw [e3,decide_eq_true (may1 true)] at h;exact h
 obtain ⟨q1,q2,rfl,hL⟩:=o3
 obtain ⟨g,cur,rfl,rfl,_⟩:=Sl.block hL.top Nat.zero_lt_one
 have hld:∀ w,Own [] W w ([⟨g,cur,57⟩]++q2)->(loadVar 4 ⟨g,0+0*11+10,none⟩).run Tryz.prog w= .ok (.bool true) w:=λw hO=>by
  obtain ⟨b,off,e,hel⟩:=(i3 w hO).es.top.elem jE 0 Nat.zero_lt_one
  simp only [Option.some.injEq,Addr.mk.injEq] at e
  obtain ⟨rfl,rfl,_⟩:=e
  rw [←ha]
  exact hel w (Below.refl _ _) _ 10 _ Kr
 refine zD [] λb7=>zU 50 [0,0,0] (b:=g) (off:=0) rfl 1 c 0 11 Nat.zero_lt_one (zP 52 [] 4 g (0+0*11+10) Z4 (λw hO=>hld w (hO.past 5 (ob1++ob2++([⟨g,cur,57⟩]++q2))|>.sublist (List.sublist_append_right _ _))) ?_)
 exact z1 (v:=YI 0) [0,3] (λw hO=>c1 w (hO.past 5 (ob1++ob2++([⟨g,cur,57⟩]++q2))|>.sublist (List.sublist_append_right _ _))) (z1 (v:= .bool true) [4,0] (λw hO=>c2 w (hO.past 5 (ob1++ob2++([⟨g,cur,57⟩]++q2))|>.sublist (List.sublist_append_right _ _))) (z1 (v:= .bool true) [0] (λw hO=>c3 w (hO.past 5 (ob1++ob2++([⟨g,cur,57⟩]++q2))|>.sublist (List.sublist_append_right _ _))) (z6 [] Z4 λw hO=>⟨rfl,hO.below⟩)))
end
section
set_option linter.unnecessarySimpa false
theorem RecO.inn {x:Rv}{ob L:List Blk}{M:List Nat}{W w:World}(h:RecO x ob)(hO:Own M W w L)(hs:∀ b∈ob,b∈L)(hB:BndR x.rt)(hF:FewR x.rt 4096):RcIn w w.heap.size x:=by
 obtain ⟨o1,o2,o4,o7,o8,rfl,h1,h4,h7⟩:=h
 exact rec_inn h1 h4 h7 hO (λb hb=>hs b (by simp [hb])) (λb hb=>hs b (by simp [hb])) (λb hb=>hs b (by simp [hb])) (λb hb=>hs b (by simp [hb])) (λb hb=>hs b (by simp [hb])) hB hF
def ParV (s:List UInt8)(v:Value)(ob:List Blk):Prop:=∃ x,v= .tuple #[rvV x,YI (readT s).2.1,YI (readT s).2.2]/\x.rt=(readT s).1/\RecO x ob/\BndR x.rt/\FewR x.rt 4096
def awS1:List UInt8:=[112,97,99,107,97,103,101,32,97,112,112,32,49,46,48,46,48,10,110,101,101,100,10,97,110,121,32,98,32,120,32,102,117,108,108,32,94,49,10,119,104,101,110,32,111,115,32,61,32,120,10,98,97,114,32,99,32,42,10,102,101,97,116,117,114,101,32,121,32,98,47,122,10]
def awS2:List UInt8:=[112,97,99,107,97,103,101,32,97,112,112,32,49,46,48,46,48,10,97,110,121,32,98,32,45,32,102,117,108,108,32,42,10]
end
section
theorem nmF_word:∀ j,j<4->wdL (nmF j)=true/\(zR (nmF j)).1=1/\(zR (nmF j)).2.1=nmF j
 |0,_=>⟨by kernel_rfl,by kernel_rfl,by kernel_rfl⟩
 |1,_=>⟨by kernel_rfl,by kernel_rfl,by kernel_rfl⟩
 |2,_=>⟨by kernel_rfl,by kernel_rfl,by kernel_rfl⟩
 |3,_=>⟨by kernel_rfl,by kernel_rfl,by kernel_rfl⟩
theorem opt_kind:∀ j,j<4->(zR ([63]++gA j)).1=2
 |0,_=>by kernel_rfl
 |1,_=>by kernel_rfl
 |2,_=>by kernel_rfl
 |3,_=>by kernel_rfl
theorem pull_kind:∀ j,j<5->(zR (yB j++[47]++[120])).1=3
 |0,_=>by kernel_rfl
 |1,_=>by kernel_rfl
 |2,_=>by kernel_rfl
 |3,_=>by kernel_rfl
 |4,_=>by kernel_rfl
def four (a b c d:Bool):List (List UInt8):=(if a then [nmF 0] else [])++((if b then [nmF 1] else [])++((if c then [nmF 2] else [])++if d then [nmF 3] else []))
theorem rise_16:∀ a b c d,xY (four a b c d)=true:=by decide
theorem rise_four (keep:Nat->Bool):xY (((List.range 4).filter keep).map nmF)=true:=by
 have e:List.range 4=[0,1,2,3]:=rfl
 have h:=rise_16 (keep 0) (keep 1) (keep 2) (keep 3)
 rw [e]
 unfold four at h
 cases h0:keep 0<;>cases h1:keep 1<;>cases h2:keep 2<;>cases h3:keep 3<;>simp only [h0,h1,h2,h3] at h<;>simpa [List.filter,h0,h1,h2,h3] using h
theorem feats_may {own:Nat}{keep:Nat->Bool}{x:Rv}(h:RecG own keep x):bZ (x2 x.fts)=true:=by
 have hn:(x2 x.fts).map Ft.name=((List.range 4).filter keep).map nmF:=by
  rw [←h.fts.names];unfold x2;rw [List.map_map];rfl
 have hin:∀ f∈x2 x.fts,∃ j,j<4/\f.name=nmF j:=λf hf=>by
  have:f.name∈(x2 x.fts).map Ft.name:=List.mem_map_of_mem hf
  rw [hn] at this
  obtain ⟨j,hj,e⟩:=List.mem_map.1 this
  exact ⟨j,List.mem_range.1 (List.mem_filter.1 hj).1,e.symm⟩
 have his:∀ j,j<4->keep j=true->isT (x2 x.fts) (nmF j)=true:=λj hj hk=>by
  have:nmF j∈(x2 x.fts).map Ft.name:=by rw [hn];exact List.mem_map_of_mem (List.mem_filter.2 ⟨List.mem_range.2 hj,hk⟩)
  obtain ⟨f,hf,e⟩:=List.mem_map.1 this
  unfold isT findT
  rw [Bool.or_eq_true]
  exact .inr (List.findIdx?_isSome.trans (List.any_eq_true.2 ⟨f,hf,decide_eq_true e⟩))
 unfold bZ
 simp only [Bool.and_eq_true,decide_eq_true_eq,List.all_eq_true]
 refine ⟨⟨⟨?_,λf hf=> ?_⟩,by rw [hn];exact rise_four keep⟩,λf hf=> ?_⟩
 ·have e:=congrArg List.length hn
  rw [List.length_map,List.length_map] at e
  have:=List.length_filter_le keep (List.range 4)
  rw [List.length_range] at this;omega
 ·obtain ⟨j,hj,e⟩:=hin f hf
  rw [e];exact (nmF_word j hj).1
 ·obtain ⟨y,hy,rfl⟩:=List.mem_map.1 hf
  have hg:=h.fts.each y hy
  unfold gV
  simp only [Bool.and_eq_true,decide_eq_true_eq,List.all_eq_true]
  refine ⟨⟨Nat.le_trans hg.len Om,hg.rise⟩,λs hs=> ?_⟩
  unfold jW
  simp only [Bool.and_eq_true,Bool.or_eq_true,decide_eq_true_eq]
  rcases hg.all s hs with ⟨m,hm,hne,rfl⟩|⟨m,hm,w,hw,rfl⟩|⟨j,hj,hk,rfl⟩
  ·rcases (h.needs m hm).opt with e|⟨j,hj,e⟩
   ·exact absurd e hne
   ·rw [e,opt_kind j hj];exact ⟨by omega,.inl Om⟩
  ·have key:∀ (a:Bool) (u:Wv),nW own a u->(zR (u.name++[47]++[120])).1=3:=λa u hu=>by
    obtain ⟨k,_,e⟩:=hu.name
    rw [e];exact pull_kind _ Om
   have h3:(zR (w.name++[47]++[120])).1=3:=by
    rcases (h.needs m hm).any with ⟨u,e,hu⟩|⟨u,z,e,_,_⟩
    ·rw [hw] at e;injection e with e1 _;rw [e1];exact key _ _ hu
    ·rw [hw] at e;simp at e
   rw [h3];exact ⟨by omega,.inl Om⟩
  ·obtain ⟨_,k1,k2⟩:=nmF_word j hj
   rw [k1,k2];exact ⟨by omega,.inr (his j hj hk)⟩
end
section
theorem check_is {r:Rt}(h1:nmL r.name=true)(h2:r.ver.may=true)(h3:r.needs.length<=8)(h4:r.bars.length<=8)(h5:∀ n∈r.needs,gE r.name n=0)(h6:∀ b∈r.bars,jZ r.name b=0)(h7:bZ r.fts=true)(h8:∀ f∈r.fts,yN (kJ r.needs) f.of=0)(h9:(g6 r).length<=4096):zX r=(0,0):=by
 have hp:vF r=(0,0):=by
  unfold vF
  rw [qK h5,if_neg (by simp),qK h6,if_neg (by simp),if_neg (by simp [h7]),qK h8]
 unfold zX
 rw [if_neg (by simp [h1]),if_neg (by simp [h2]),if_neg Om,hp,if_neg (by simp),if_neg Om]
theorem few_all12:∀ op∈[(7:Int),6,3,1,2],∀ a:Nat,a<3→∀ b:Nat,b<2->kT (Co.print ⟨op,3,⟨(a:Int),(b:Int),0,[],[]⟩⟩)=true:=by decide+kernel
theorem few_plain {t:List UInt8}(h:FewT t):kT t=true:=by
 rcases h with rfl|⟨c,hc,rfl⟩
 ·decide+kernel
 ·obtain ⟨a,b,ha,hb,hv⟩:=hc.v
  have e:c=⟨c.op,3,⟨(a:Int),(b:Int),0,[],[]⟩⟩:=by rw [←hv,←hc.parts]
  rw [e]
  refine few_all12 c.op ?_ a ha b hb
  rcases hc.op with e|e|e|e|e<;>rw [e]<;>decide
theorem when_all:∀ k:Nat,k<3→∀ c:Nat,c<2→∀ j:Nat,j<4->yY (x1 k++nL c++gA j)=true:=by decide+kernel
theorem p4 {t:List UInt8}(h:WhenT t):yY t=true:=by
 rcases h with rfl|⟨k,c,j,hk,rfl⟩
 ·decide+kernel
 ·have hj:∃ i,i<4/\gA j=gA i:=by
   by_cases h:j<4
   ·exact ⟨j,h,rfl⟩
   ·exact ⟨3,by decide,by unfold gA;rw [if_neg Om,if_neg Om,if_neg Om];rfl⟩
  have hc:∃ i,i<2/\nL c=nL i:=by
   by_cases h:c<2
   ·exact ⟨c,h,rfl⟩
   ·exact ⟨1,by decide,by unfold nL;rw [if_neg Om];rfl⟩
  obtain ⟨i,hi,e⟩:=hj
  obtain ⟨d,hd,e2⟩:=hc
  rw [e,e2];exact when_all k hk d hd i hi
theorem nameT_apart:∀ a:Nat,a<5→∀ b:Nat,b<5->a≠b->yB a≠yB b:=by decide
theorem kind_opt:∀ j:Nat,j<4->zR ([63]++gA j)=(2,gA j,[]):=by decide+kernel
theorem kind_pull:∀ j:Nat,j<5->zR (yB j++[47]++[120])=(3,yB j,[120]):=by decide+kernel
theorem verG_all:∀ a:Nat,a<3→∀ b:Nat,b<2→∀ q∈[(([]:List UInt8),([]:List UInt8)),([114,99,46,49],[]),([],[55])],(Ver.mk a b 0 q.1 q.2).may=true/\(Ver.mk a b 0 q.1 q.2).print.length<=20:=by decide+kernel
theorem p3 {own:Nat}{al:Bool}{u:Wv}(h:nW own al u):qA (yB (own % 5)) u.wt al=0:=by
 obtain ⟨k,hk,e⟩:=h.name
 have hne:u.name≠yB (own % 5):=by rw [e];exact nameT_apart _ Om _ Om Om
 have hf:pZ u.fs al=true:=by
  rcases h.fs with e|⟨ha,e|e⟩
  ·rw [e];cases al<;>decide
  ·rw [e,ha];decide
  ·rw [e,ha];decide
 unfold qA
 rw [if_neg (show ¬ nmL u.wt.name=false by rw [show u.wt.name=u.name from rfl,e,nameT_ok];simp),if_neg (show ¬ u.wt.name=_ from hne),if_neg (show ¬ kT u.wt.rng=false by rw [show u.wt.rng=u.rng from rfl,few_plain h.rng];simp),if_neg (show ¬ pZ u.wt.fs al=false by rw [show u.wt.fs=u.fs from rfl,hf];simp)]
theorem need_zero {own:List UInt8}{n:Nt}(h1:n.any≠[])(h2:n.any.length<=3)(h3:∀ x∈n.any,qA own x (decide (n.any.length=1))=0)(h4:yY n.wh=true)(h5:n.opt=[]\/wdL n.opt=true):gE own n=0:=by
 unfold gE
 rw [if_neg h1,if_neg Om,if_neg (by rw [jS h3];simp),if_neg (by simp [h4]),if_neg (λh=>by
  rcases h5 with e|e
  ·exact h.1 e
  ·rw [e] at h;exact absurd h.2 (by simp))]
theorem needG_zero {own:Nat}{n:Nv}(h:NeedG own n):gE (yB (own % 5)) n.nt=0:=by
 have hop:n.nt.opt=[]\/wdL n.nt.opt=true:=by
  rcases h.opt with e|⟨j,_,e⟩
  ·exact .inl e
  ·exact .inr (by rw [show n.nt.opt=n.opt from rfl,e];exact wordT_ok j)
 rcases h.any with ⟨w,e,hw⟩|⟨w,u,e,hw,hu⟩
 ·have e':n.nt.any=[w.wt]:=by unfold Nv.nt;rw [e];rfl
  refine need_zero (by rw [e'];simp) (by rw [e'];simp) (λx hx=> ?_) (p4 h.wh) hop
  rw [e'] at hx ⊢
  rw [List.mem_singleton.1 hx];exact p3 hw
 ·have e':n.nt.any=[w.wt,u.wt]:=by unfold Nv.nt;rw [e];rfl
  refine need_zero (by rw [e'];simp) (by rw [e'];simp) (λx hx=> ?_) (p4 h.wh) hop
  rw [e'] at hx ⊢
  simp only [List.mem_cons,List.not_mem_nil,or_false] at hx
  rcases hx with rfl|rfl
  ·exact p3 hw
  ·exact p3 hu
theorem barG_zero {own:Nat}{b:Bv}(h:BarG own b):jZ (yB (own % 5)) b.bt=0:=by
 obtain ⟨k,hk,e⟩:=h.name
 have hne:b.name≠yB (own % 5):=by rw [e];exact nameT_apart _ Om _ Om Om
 unfold jZ
 rw [if_neg (show ¬ nmL b.bt.name=false by rw [show b.bt.name=b.name from rfl,e,nameT_ok];simp),if_neg (show ¬ b.bt.name=_ from hne),if_neg (show ¬ kT b.bt.rng=false by rw [show b.bt.rng=b.rng from rfl,few_plain h.rng];simp),if_neg (show ¬ yY b.bt.wh=false by rw [show b.bt.wh=b.wh from rfl,p4 h.wh];simp)]
theorem item_zero {own:Nat}{keep:Nat->Bool}{x:Rv}(h:RecG own keep x){s:List UInt8}(hs:ItemG x.needs keep s):kJ x.rt.needs s=0/\s.length<=7:=by
 unfold kJ wordOf
 rcases hs with ⟨m,hm,hne,rfl⟩|⟨m,hm,w,hw,rfl⟩|⟨j,hj,hk,rfl⟩
 ·rcases (h.needs m hm).opt with e|⟨j,hj,e⟩
  ·exact absurd e hne
  ·have ho:optR x.rt.needs m.opt=true:=by
    unfold optR
    exact List.any_eq_true.2 ⟨m.nt,List.mem_map_of_mem hm,decide_eq_true rfl⟩
   have h4:=nZ j
   rw [e] at ho ⊢
   rw [kind_opt j hj]
   refine ⟨?_,by rw [List.length_append];simp only [List.length_cons,List.length_nil];omega⟩
   rw [if_neg (λq=>by rw [ho] at q;exact absurd q.2 (by simp)),if_neg (λq=>absurd (show (2:Int)=3 from q.1) (by decide))]
 ·have key:∃ a,nW own a w:=by
   rcases (h.needs m hm).any with ⟨u,e,hu⟩|⟨u,z,e,_,_⟩
   ·rw [hw] at e;injection e with e1 _;exact ⟨true,e1▸hu⟩
   ·rw [hw] at e;simp at e
  obtain ⟨a,hu⟩:=key
  obtain ⟨k,hk,e⟩:=hu.name
  have hp:pulR x.rt.needs w.name=true:=by
   unfold pulR
   refine List.any_eq_true.2 ⟨m.nt,List.mem_map_of_mem hm, ?_⟩
   unfold pulN Nv.nt
   rw [hw]
   exact decide_eq_true rfl
  have h4:=nameT_len ((own+1+k) % 5)
  rw [e] at hp ⊢
  rw [kind_pull _ Om]
  refine ⟨?_,by simp only [List.length_append,List.length_cons,List.length_nil];omega⟩
  rw [if_neg (λq=>absurd (show (3:Int)=2 from q.1) (by decide)),if_neg (λq=>by rw [hp] at q;exact absurd q.2 (by simp))]
 ·obtain ⟨_,k1,_⟩:=nmF_word j hj
  rw [k1]
  refine ⟨by rw [if_neg (λq=>absurd q.1 (by decide)),if_neg (λq=>absurd q.1 (by decide))], ?_⟩
  unfold nmF dfl
  repeat' split
  all_goals simp
theorem rec_good {own:Nat}{keep:Nat->Bool}{x:Rv}(h:RecG own keep x):zX x.rt=(0,0)/\(g6 x.rt).length<=3000:=by
 have hn:nmL x.rt.name=true:=by rw [show x.rt.name=x.name from rfl,h.name];exact nameT_ok _
 obtain ⟨a,b,ha,hb,e1,e2,e3⟩:=h.ver
 have hv:x.rt.ver.may=true/\x.rt.ver.print.length<=20:=by
  have e:x.rt.ver=Ver.mk a b 0 x.pre x.bld:=by show Ver.mk x.maj x.min x.pat x.pre x.bld=_;rw [e1,e2,e3]
  rw [e]
  refine verG_all a ha b hb (x.pre,x.bld) ?_
  rcases h.pb with ⟨e,e'⟩|⟨e,e'⟩|⟨e,e'⟩<;>rw [e,e']<;>simp
 have hN:∀ n∈x.rt.needs,gE x.rt.name n=0:=λn hn=>by
  obtain ⟨m,hm,rfl⟩:=List.mem_map.1 hn
  rw [show x.rt.name=x.name from rfl,h.name];exact needG_zero (h.needs m hm)
 have hB:∀ n∈x.rt.bars,jZ x.rt.name n=0:=λn hn=>by
  obtain ⟨m,hm,rfl⟩:=List.mem_map.1 hn
  rw [show x.rt.name=x.name from rfl,h.name];exact barG_zero (h.bars m hm)
 have hF:∀ f∈x.rt.fts,yN (kJ x.rt.needs) f.of=0/\(gR f).length<=57:=λf hf=>by
  obtain ⟨y,hy,rfl⟩:=List.mem_map.1 hf
  have hg:=h.fts.each y hy
  refine ⟨jS λs hs=>(item_zero h (hg.all s hs)).1, ?_⟩
  have hnm:y.name.length<=7:=by
   have:y.name∈x.fts.map Fv.name:=List.mem_map_of_mem hy
   rw [h.fts.names] at this
   obtain ⟨j,hj,e⟩:=List.mem_map.1 this
   rw [←e]
   unfold nmF dfl
   repeat' split
   all_goals simp
  have:=jn_most 32 7 (l:=qB::y.name::y.of) λs hs=>by
   rcases List.mem_cons.1 hs with rfl|hs
   ·decide
   ·rcases List.mem_cons.1 hs with rfl|hs
    ·exact hnm
    ·exact (item_zero h (hg.all s hs)).2
  have hl:=hg.len
  show (zB 32 (qB::y.name::y.of)++[10]).length<=57
  simp only [List.length_append,List.length_cons,List.length_nil] at this ⊢
  omega
 have l1:x.rt.needs.length<=2:=by rw [show x.rt.needs.length=x.needs.length from List.length_map ..];exact h.nlen
 have l2:x.rt.bars.length<=1:=by rw [show x.rt.bars.length=x.bars.length from List.length_map ..];exact h.blen
 have l3:x.rt.fts.length<=4:=by
  have e:=congrArg List.length h.fts.names
  rw [List.length_map,List.length_map] at e
  have:=List.length_filter_le keep (List.range 4)
  rw [List.length_range] at this
  rw [show x.rt.fts.length=x.fts.length from List.length_map ..];omega
 have hT:(g6 x.rt).length<=3000:=by
  have k1:=bQ gP 900 (l:=x.rt.needs) λn hx=>needT_short (hN n hx)
  have k2:=bQ bG 300 (l:=x.rt.bars) λn hx=>barT_short (hB n hx)
  have k3:=bQ gR 57 (l:=x.rt.fts) λf hx=>(hF f hx).2
  have k4:=wT hn
  unfold g6 jR
  simp only [List.length_append,txPack,List.length_cons,List.length_nil];omega
 exact ⟨check_is hn hv.1 Om Om hN hB (feats_may h) (λf hf=>(hF f hf).1) Om,hT⟩
end
section
def moreV (r:Rt):Rt:={r with ver:={r.ver with maj:=r.ver.maj+1}}
def bareR12 (r:Rt):Rt:={r with fts:=[]}
def zoo:Bt:=⟨[122,111,111],[42],[]⟩
end
section
set_option linter.unnecessarySimpa false
structure MadeR (x:Rv)(ob:List Blk):Prop where
 mem:RecO x ob
 gen:∃ own keep,RecG own keep x
 chk:zX x.rt=(0,0)
 len:(g6 x.rt).length<=3000
 bnd:BndR x.rt
 few:FewR x.rt 4096
theorem made_of {x:Rv}{ob:List Blk}{own:Nat}{keep:Nat->Bool}(h:RecG own keep x)(hR:RecO x ob):MadeR x ob:=by
 obtain ⟨g1,g2⟩:=rec_good h
 have hb:=chk_bnd (r:=x.rt) (by rw [g1])
 exact ⟨hR,⟨own,keep,h⟩,g1,g2,hb.1,hb.2⟩
theorem MadeR.inn {x:Rv}{ob L:List Blk}{M:List Nat}{W w:World}(h:MadeR x ob)(hO:Own M W w L)(hs:∀ b∈ob,b∈L):RcIn w w.heap.size x:=h.mem.inn hO hs h.bnd h.few
end
section
open Go.ChangeShapes Go.WideShapes Go.ChangeAt Go.RowKit
theorem open_texts {H:Type}{enc:TypeId×Value->H}{W:World}{base:Nat}{v:Value}{d:DataW H}{ps:List MemPlace}(hval:Value.okWide Tryz.prog W .any base 75 v)
  (h:DataW.Trod enc Tryz.prog W 0 (λ_=>true) true 75 v d ps):∃ l:List (List UInt8),ReadsT W W.heap.size v l/\l.length<=maxLen∧∀ x∈l,x.length<=maxLen:=by
 obtain ⟨A,len,cap,rfl⟩:=okWide_slice Tryz.underlying75 hval
 obtain ⟨fuel,hf⟩:=h
 rcases open_strings Tryz.underlying75 Tryz.underlying9 strCells1 hf with ⟨hcs,_⟩|⟨a,len',cap',ss,hcs,_,hl,hm,hz,_,hcell,hws⟩
 ·simp [Value.cells] at hcs
  obtain ⟨rfl,rfl,rfl⟩:=hcs
  exact ⟨[],⟨none,0,rfl,λh=>by cases h⟩,by simp,by simp⟩
 ·simp [Value.cells] at hcs
  obtain ⟨rfl,rfl,rfl⟩:=hcs
  simp only [if_true] at hz
  have hlen:((ss.take len).map (·.data.toList)).length=len:=by rw [List.length_map,List.length_take];omega
  refine ⟨(ss.take len).map (·.data.toList),⟨some a,cap,by rw [hlen],λh0=>⟨a,rfl, ?_,λj hj=> ?_⟩⟩,by rw [hlen];omega,λx hx=> ?_⟩
  ·have:=cell_lt (hcell 0 Om)
   rwa [fP] at this
  ·have hj2:j<ss.length:=by omega
   rw [hcell j hj2,List.getElem_map,List.getElem_take]
   simp only [List.getD,List.getElem?_eq_getElem hj2,Option.getD_some]
   rfl
  ·obtain ⟨s,hs,rfl⟩:=List.mem_map.1 hx
   have:=hws s (List.mem_of_mem_take hs)
   rw [qJ];exact this
theorem powType:(Tryz.prog.globals[3]?).map (·.type)=some 335:=by kernel_rfl
theorem powNamed : Tryz.prog.globalNamed "internal/strconv.uint64pow10" = some 3 := by kernel_rfl
theorem powCells:Tryz.prog.cellsOf 335=20:=by kernel_rfl
theorem u64Cells:Tryz.prog.cellsOf 36=1:=by kernel_rfl
theorem hasTab_of {W : World} {l : List (String × DataW Unit)} (h : laidMetH Tryz.prog l W) (e : (l.filter fun x => x.1 == "internal/strconv.uint64pow10") = [("internal/strconv.uint64pow10", Lib.tabData .u64 Lib.pow10Tab)]) : HasTab W := by
 have h2 := h.filter (fun x => x.1 == "internal/strconv.uint64pow10")
 rw [e] at h2
 exact Lib.tabBelow_of_tabIs (Lib.tabIs_of_head (rest:=[]) powNamed powType Tryz.underlying335 Tryz.underlying36 u64Cells powCells h2)
end
section
open Go.ChangeShapes Go.WideShapes Go.ChangeAt Go.RowKit
theorem cells_of_strs {H:Type}{enc:TypeId×Value->H}{P:Program}{w:World}{base:Nat}{sp:Nat->Bool}{held:Bool}{fuel:Nat}{t e:TypeId}{n:Nat}{cs:List Value}{ss:List (List UInt8)}{p:List MemPlace}
  (ht:P.underlying t=some (.array n e)) (he:P.underlying e=some .string) (hce:P.cellsOf e=1) (hct:P.cellsOf t=n)
  (h:DataW.trod enc P w base sp held fuel t cs=some (.agg (ss.map λs=> .lit (.string s)),p)):cs=ss.map λs=>Value.string (mkS s):=by
 cases fuel with
 |zero=>simp [DataW.trod] at h
 |succ fuel=>
  simp only [DataW.trod,ht,hce,hct,Nat.mul_one] at h
  split at h
  ·rename_i hl
   obtain ⟨xs,hm,hx⟩:=Option.map_eq_some_iff.1 h
   have hxs:xs.map (·.1)=ss.map λs=>(DataW.lit (.string s):DataW H):=by
    have:=congrArg Prod.fst hx
    simpa using this
   have hxl:xs.length=n:=by simpa using Lib.mapM_length hm
   have hzl:ss.length=n:=by
    have:=congrArg List.length hxs
    simp at this
    omega
   apply List.ext_getElem?
   intro i
   by_cases hi:i<n
   ·obtain ⟨b,hb,hf⟩:=Lib.mapM_at hm i i (by simp [hi])
    obtain ⟨s,hc,rfl,_⟩:=DataW.trod_string he hf
    have h1:cs[i]?=some (.string s):=by
     have:=congrArg (·[0]?) hc
     simpa [List.getElem?_take,List.getElem?_drop] using this
    have h2:(xs.map (·.1))[i]?=some (DataW.lit (.string s.data.toList):DataW H):=by simp [hb]
    rw [hxs] at h2
    simp only [List.getElem?_map,Option.map_eq_some_iff,DataW.lit.injEq,Lit.string.injEq] at h2
    obtain ⟨z',hz',e9⟩:=h2
    rw [h1,List.getElem?_map,hz',e9]
    show some (Value.string s)=some (Value.string (mkS s.data.toList))
    rw [show mkS s.data.toList=s from by cases s;unfold mkS;simp]
   ·rw [List.getElem?_eq_none (by omega),List.getElem?_eq_none (by simp;omega)]
  ·cases h
theorem keysType:(Tryz.prog.globals[2]?).map (·.type)=some 168:=by kernel_rfl
theorem keysNamed : Tryz.prog.globalNamed "linchpin/mark.keys" = some 2 := by kernel_rfl
theorem keysCells:Tryz.prog.cellsOf 168=3:=by kernel_rfl
theorem mkLib_of {W : World} {l : List (String × DataW Unit)} (h : laidMetH Tryz.prog l W) (e : (l.filter fun x => x.1 == "linchpin/mark.keys") = [("linchpin/mark.keys", .agg [.lit (.string [111, 115]), .lit (.string [97, 114, 99, 104]), .lit (.string [97, 98, 105])])]) : MkLib W := by
 have h2 := h.filter (fun x => x.1 == "linchpin/mark.keys")
 rw [e] at h2
 obtain ⟨ps,⟨g',t',cs,fuel,p,q,hg',ht',hvar,hd,_,hps⟩,_,hcell⟩:=h2
 obtain rfl:=Option.some.inj (keysNamed.symm.trans hg')
 obtain rfl:=Option.some.inj (keysType.symm.trans ht')
 have hcs:cs.toList=[[111,115],[97,114,99,104],[97,98,105]].map λs=>Value.string (mkS s):=cells_of_strs (n:=3) Tryz.underlying168 Tryz.underlying9 strCells1 keysCells hd
 have hsz:cs.size=3:=by rw [←Array.length_toList,hcs];rfl
 have hm:MemPlace.cell 2 0∈ps:=by
  rw [hps]
  refine List.mem_append_left _ (List.mem_append_left _ ?_)
  exact MemPlace.mem_row.2 ⟨0,by rw [hsz];decide,rfl⟩
 obtain ⟨⟨c,t,hb⟩,_⟩:=hcell _ _ hm
 have hv : W.var? Tryz.prog "linchpin/mark.keys" = some c := by
  unfold World.var?
  rw [keysNamed]
  simp only [Option.bind_some,hb]
 have hcc:c=cs:=Option.some.inj (hv.symm.trans hvar)
 refine ⟨(Array.getElem?_eq_some_iff.1 hb).1,t, ?_⟩
 rw [hb,hcc]
 congr 2
 apply Array.toList_inj.1
 rw [hcs]
 rfl
end
section
open Go.ChangeShapes Go.WideShapes Go.ChangeAt Go.RowKit
theorem open_nums {H:Type}{enc:TypeId×Value->H}{W:World}{base:Nat}{v:Value}{d:DataW H}{ps:List MemPlace}(hval:Value.okWide Tryz.prog W .any base 43 v)
  (h:DataW.Trod enc Tryz.prog W 0 (λ_=>true) true 43 v d ps):∃ l:List Int,ReadsI W W.heap.size v l/\l.length<=maxLen:=by
 obtain ⟨A,len,cap,rfl⟩:=okWide_slice Tryz.underlying43 hval
 obtain ⟨fuel,hf⟩:=h
 rcases open_ints Tryz.underlying43 Tryz.underlying3 Kr hf with ⟨hcs,_⟩|⟨a,len',cap',zs,hcs,_,hl,hm,hz,_,hcell,_⟩
 ·simp [Value.cells] at hcs
  obtain ⟨rfl,rfl,rfl⟩:=hcs
  exact ⟨[],⟨none,0,rfl,λh=>by cases h⟩,by simp⟩
 ·simp [Value.cells] at hcs
  obtain ⟨rfl,rfl,rfl⟩:=hcs
  simp only [if_true] at hz
  have hlen:(zs.take len).length=len:=by rw [List.length_take];omega
  refine ⟨zs.take len,⟨some a,cap,by rw [hlen],λh0=>⟨a,rfl, ?_,λj hj=> ?_⟩⟩,by rw [hlen];omega⟩
  ·have:=cell_lt (hcell 0 Om)
   rwa [add_block] at this
  ·have hj2:j<zs.length:=by omega
   rw [hcell j hj2,List.getElem_take]
   simp only [List.getD,List.getElem?_eq_getElem hj2,Option.getD_some]
end
end Go.Proofs.YteghandhpbmpgaaGreatDoor
