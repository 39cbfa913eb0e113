import Derived.Below
import Derived.ChangeSame
import Derived.ProofKit
import Derived.OpenShut
import Derived.LaidSub
import Derived.Carry
import Derived.SliceStrings
import Derived.Lib.LaidTab
import Derived.Deep.DeepHandedRow
import Derived.ChangeSlices
import Derived.Test.YtflhcaljcoekpaaGreatDoorSF14
set_option maxRecDepth 1000000
set_option maxHeartbeats 8000000
set_option linter.unusedVariables false
set_option linter.unusedSimpArgs false
set_option linter.unnecessarySimpa false
namespace Go.Proofs.YtflhcaljcoekpaaGreatDoor
open Go.RowKit

section
set_option linter.unnecessarySimpa false
def hvC (x:Hv):List Value:=[.string (mkS x.name),.slice x.A x.es.length x.cap]
theorem wH (x:Hv):(hvC x).length=2:=rfl
abbrev shs (xs:List Hv):List Sh:=xs.map Hv.sh
structure HsIn (w:World)(B:Nat)(A:Option Addr)(xs:List Hv):Prop where
 top:Reads hvC w B A xs
 each:∀ x∈xs,ShIn w B x
 n:xs.length<=5000
theorem HsIn.on {w w':World}{B B':Nat}{A:Option Addr}{xs:List Hv}(h:HsIn w B A xs)(hb:Below B w w')(hB:B<=B'):HsIn w' B' A xs:=⟨h.top.on hb hB,λe he=>(h.each e he).on hb hB,h.n⟩
def pnC (p:Pn):List Value:=[.string (mkS p.name),.string (mkS p.shelf)]
theorem fH (x:Pn):(pnC x).length=2:=rfl
def pnV (p:Pn):Value:= .agg #[.string (mkS p.name),.string (mkS p.shelf)]
structure PsIn (w:World)(B:Nat)(A:Option Addr)(ps:List Pn):Prop where
 top:Reads pnC w B A ps
 sn:∀ p∈ps,p.name.length<=1000000/\p.shelf.length<=1000000
 n:ps.length<=5000
theorem PsIn.on {w w':World}{B B':Nat}{A:Option Addr}{xs:List Pn}(h:PsIn w B A xs)(hb:Below B w w')(hB:B<=B'):PsIn w' B' A xs:=⟨h.top.on hb hB,h.sn,h.n⟩
theorem j8 {r:Int×Int}{a b:Int}(h:r=(a,b)):Ending.returned (.tuple #[YI a,YI b])= .returned (.tuple #[YI r.1,YI r.2]):=by subst h;rfl
theorem qf_no {α:Type}{l:List α}{q:α->Bool}{i:Nat}(hi:i<l.length)(h:∀ y∈l.take i,q y=false)(h1:q l[i]=false):∀ y∈l.take (i+1),q y=false:=λy hy=>by
 rw [List.take_succ_eq_append_getElem hi] at hy
 rcases List.mem_append.1 hy with hy|hy
 ·exact h y hy
 ·rw [List.mem_singleton.1 hy];exact h1
theorem dQ {α:Type}{l:List α}{q:α->Bool}{i:Nat}(hi:l.length<=i)(h:∀ y∈l.take i,q y=false):∀ y∈l,q y=false:=by
 rw [List.take_of_length_le hi] at h;exact h
theorem nmd1_any (x:Hv)(n:YL)(b:Nat)(W:World)(hc:W.heap[b]?=some (.cells #[.string (mkS n)] 9)):YC 100 #[hvV x,.pointer (some ⟨b,0,none⟩)] W (YR (.bool (decide (x.sh.name=n))) W):=by
 have hb:b<W.heap.size:=(Array.getElem?_eq_some_iff.1 hc).1
 refine z8 Tryz.func100 (zZ [] λb2=>zH 6 [0] 9 b 0 (.string (mkS n)) (λw hO=>y7 Kr ((hO.below.block b hb).trans hc)) (kJ 7 [] x.name n (λh=> ?_) (λh=> ?_)))
 ·exact z7 [] Z4 λw hO=>⟨by rw [decide_eq_true (show x.sh.name=n from h)],hO.below⟩
 ·exact z7 [] Z5 λw hO=>⟨by rw [decide_eq_false (show ¬ x.sh.name=n from h)],hO.below⟩
theorem pin1_any (x:Pn)(n:YL)(b:Nat)(W:World)(hc:W.heap[b]?=some (.cells #[.string (mkS n)] 9)):YC 59 #[pnV x,.pointer (some ⟨b,0,none⟩)] W (YR (.bool (decide (x.name=n))) W):=by
 have hb:b<W.heap.size:=(Array.getElem?_eq_some_iff.1 hc).1
 refine z8 Tryz.func59 (zZ [] λb2=>zH 6 [0] 9 b 0 (.string (mkS n)) (λw hO=>y7 Kr ((hO.below.block b hb).trans hc)) (kJ 7 [] x.name n (λh=> ?_) (λh=> ?_)))
 ·exact z7 [] Z4 λw hO=>⟨by rw [decide_eq_true h],hO.below⟩
 ·exact z7 [] Z5 λw hO=>⟨by rw [decide_eq_false h],hO.below⟩
theorem hsq1_any (x:Ev)(n:YL)(b:Nat)(W:World)(hc:W.heap[b]?=some (.cells #[.string (mkS n)] 9)):YC 102 #[evV x,.pointer (some ⟨b,0,none⟩)] W (YR (.bool (decide (x.rec'.name=n))) W):=by
 have hb:b<W.heap.size:=(Array.getElem?_eq_some_iff.1 hc).1
 refine z8 Tryz.func102 (zZ [] λb2=>zH 7 [0] 9 b 0 (.string (mkS n)) (λw hO=>y7 Kr ((hO.below.block b hb).trans hc)) (kJ 8 [] x.rec'.name n (λh=> ?_) (λh=> ?_)))
 ·exact z7 [] Z4 λw hO=>⟨by rw [decide_eq_true h],hO.below⟩
 ·exact z7 [] Z5 λw hO=>⟨by rw [decide_eq_false h],hO.below⟩
theorem any_cases {es:List Ev}{n:YL}{i:Nat}(hi:i<es.length)(h:decide (es[i].rec'.name=n)=true):(es.map Ev.et).any (λe=>decide (e.rc.name=n))=true:=
 List.any_eq_true.2 ⟨es[i].et,List.mem_map_of_mem (List.getElem_mem hi),h⟩
theorem idx15_any (A:Option Addr)(cap:Nat)(es:List Ev)(n:YL)(b:Nat)(W:World)(hx:EsIn W W.heap.size A es)(hc:W.heap[b]?=some (.cells #[.string (mkS n)] 9)):YC 92 #[.slice A es.length cap,.func (.func 102) #[] #[.pointer (some ⟨b,0,none⟩)]] W λe w'=>∃ v,e= .returned v/\(∃ z:Int,v=YI z/\decide (0<=z)=(es.map Ev.et).any (λe=>decide (e.rc.name=n)))/\YB W w':=by
 have hb:b<W.heap.size:=(Array.getElem?_eq_some_iff.1 hc).1
 have hn:=hx.n
 refine z8 Tryz.func92 (zO (α:=Nat) (λi=>[(0,.slice A es.length cap),(1,.func (.func 102) #[] #[Zp b 0]),(7,YI (es.length:Int)),(8,YI (i:Int))]) (λ_=>[]) (λi m=>(i<=es.length∧∀ y∈es.take i,decide (y.rec'.name=n)=false)/\m=es.length-i) 0 es.length [] ⟨⟨Nat.zero_le _,λy h=>by simp at h⟩,rfl⟩ ?_)
 rintro i mm g kk ⟨⟨hi,hno⟩,hmm⟩ nx hkk
 subst hkk
 refine zD 9 [] ((i:Int)<(es.length:Int)) (λh9=> ?_) (λh9=> ?_)
 rotate_left
 ·refine z7 [] (YI (-1)) λw hO=>⟨_,rfl,⟨-1,rfl, ?_⟩,hO.below⟩
  have hall:=dQ Om hno
  refine (Bool.eq_false_iff.2 λh=> ?_).symm
  obtain ⟨y,hy,h⟩:=List.any_eq_true.1 h
  obtain ⟨u,hu,rfl⟩:=List.mem_map.1 hy
  have:=hall u hu
  rw [show decide (u.et.rc.name=n)=decide (u.rec'.name=n) from rfl,this] at h;cases h
 have hj:i<es.length:=by omega
 obtain ⟨eb,eo,hA,hel⟩:=hx.top.elem gE i hj
 have hgo:=qf_no (q:=λy:Ev=>decide (y.rec'.name=n)) hj hno
 have hel0:∀ w,YB W w->(loadVar 69 ⟨eb,eo+i*11+0,none⟩).run YP w= .ok (evV es[i]) w:=λw hw=>hel w hw _ 0 _ Kr
 have hcf:∀ w,YB W w->YC 102 #[evV es[i],.pointer (some ⟨b,0,none⟩)] w (YR (.bool (decide (es[i].rec'.name=n))) w):=λw hw=>hsq1_any es[i] n b w ((hw.block b hb).trans hc)
 have hyes:=any_cases (n:=n) hj
 generalize es[i]=u at*
 refine zK 14 [] hA es.length cap i 11 hj (zH 15 [] 69 eb (eo+i*11+0) (evV u) (λw hO=>hel0 w hO.below) (z6 (v:= .bool (decide (u.rec'.name=n))) [] (λw hO=>hcf w hO.below) (zL 16 (decide (u.rec'.name=n)) (λh16=> ?_) (λh16=> ?_))))
 ·exact z7 [] (YI (i:Int)) λw hO=>⟨_,rfl,⟨(i:Int),rfl,by rw [hyes h16];exact decide_eq_true (Int.natCast_nonneg i)⟩,hO.below⟩
 ·exact x_i 18 [] ((i+1:Nat):Int) (nx (i+1) (es.length-(i+1)) [] Om ⟨⟨hj,hgo h16⟩,rfl⟩ Kr Kr)
theorem cont15_any (A:Option Addr)(cap:Nat)(es:List Ev)(n:YL)(b:Nat)(W:World)(hx:EsIn W W.heap.size A es)(hc:W.heap[b]?=some (.cells #[.string (mkS n)] 9)):YC 101 #[.slice A es.length cap,.func (.func 102) #[] #[.pointer (some ⟨b,0,none⟩)]] W (YR (.bool ((es.map Ev.et).any (λe=>decide (e.rc.name=n)))) W):=by
 refine z8 Tryz.func101 (jE (R:=λv=>∃ z:Int,v=YI z/\decide (0<=z)=(es.map Ev.et).any (λe=>decide (e.rc.name=n))) [] (λw hO=>idx15_any A cap es n b w (hx.on hO.below hO.size) ((hO.below.block b (Array.getElem?_eq_some_iff.1 hc).1).trans hc)) ?_)
 rintro _ ⟨z,rfl,hz⟩
 exact z7 [] (.bool (decide (0<=z))) λw hO=>⟨by rw [hz],hO.below⟩
theorem has15_any (x:Hv)(n:YL)(W:World)(hx:ShIn W W.heap.size x):YC 63 #[hvV x,.string (mkS n)] W (YR (.bool (jY n x.sh)) W):=by
 refine z8 Tryz.func63 (zZ [] λb2=>zZ [] λb3=>wS 7 [1] (.func (.func 102) #[] #[Zp b3 0]) (λw=>Kr) (z6 (v:= .bool (jY n x.sh)) [] (λw hO=>cont15_any x.A x.cap x.es n b3 w (hx.es.on hO.below hO.size) ((hO.nth 0 ⟨b3, #[.string (mkS n)],9⟩).get (i:=0) rfl)) (z7 [] _ λw hO=>⟨rfl,hO.below⟩)))
theorem hsq2_any (x:Hv)(n:YL)(b:Nat)(W:World)(hx:ShIn W W.heap.size x)(hc:W.heap[b]?=some (.cells #[.string (mkS n)] 9)):YC 62 #[hvV x,.pointer (some ⟨b,0,none⟩)] W (YR (.bool (jY n x.sh)) W):=by
 have hb:b<W.heap.size:=(Array.getElem?_eq_some_iff.1 hc).1
 refine z8 Tryz.func62 (zZ [] λb2=>zH 5 [0] 9 b 0 (.string (mkS n)) (λw hO=>y7 Kr ((hO.below.block b hb).trans hc)) (z6 (v:= .bool (jY n x.sh)) [] (λw hO=>has15_any x n w (hx.on hO.below hO.size)) (z7 [] _ λw hO=>⟨rfl,hO.below⟩)))
theorem fstN_any (A:Option Addr)(cap:Nat)(xs:List Hv)(n:YL)(b:Nat)(z:Int)(W:World)(hx:HsIn W W.heap.size A xs)(hc:W.heap[b]?=some (.cells #[.string (mkS n)] 9)):YC 61 #[.slice A xs.length cap,.func (.func 100) #[] #[.pointer (some ⟨b,0,none⟩)],YI z] W (YR (.tuple #[YI (wD (λs:Sh=>decide (s.name=n)) (shs xs) z).1,YI (wD (λs:Sh=>decide (s.name=n)) (shs xs) z).2]) W):=by
 have hb:b<W.heap.size:=(Array.getElem?_eq_some_iff.1 hc).1
 have hn:=hx.n
 obtain ⟨r,hr⟩:∃ r,wD (λs:Sh=>decide (s.name=n)) (shs xs) z=r:=⟨_,rfl⟩
 have hend:(∀ y∈shs xs,(λs:Sh=>decide (s.name=n)) y=false)->r=(0,z):=λh=>hr▸jZ h
 have hat:=λ(i:Nat) (hi:i<(shs xs).length)=>wQ (p:=λs:Sh=>decide (s.name=n)) (z:=z) hi
 rw [hr] at hat ⊢
 refine z8 Tryz.func61 (zO (α:=Nat) (λi=>[(1,.func (.func 100) #[] #[Zp b 0]),(2,YI z),(10,.slice A xs.length cap),(11,YI (xs.length:Int)),(12,YI (i:Int))]) (λ_=>[]) (λi m=>(i<=xs.length∧∀ y∈(shs xs).take i,(λs:Sh=>decide (s.name=n)) y=false)/\m=xs.length-i) 0 xs.length [] ⟨⟨Nat.zero_le _,λy h=>by simp at h⟩,rfl⟩ ?_)
 rintro i mm g kk ⟨⟨hi,hno⟩,hmm⟩ nx hkk
 subst hkk
 refine zD 13 [] ((i:Int)<(xs.length:Int)) (λh13=> ?_) (λh13=> ?_)
 rotate_left
 ·exact zU [] (YI 0) (YI z) λw hO=>⟨j8 (hend (dQ (by rw [List.length_map];omega) hno)),hO.below⟩
 have hj:i<xs.length:=by omega
 have hjm:i<(shs xs).length:=by rw [List.length_map];omega
 obtain ⟨eb,eo,hA,hel⟩:=hx.top.elem wH i hj
 have hel0:∀ w,YB W w->(loadVar 24 ⟨eb,eo+i*2+0,none⟩).run YP w= .ok (hvV xs[i]) w:=λw hw=>hel w hw _ 0 _ Kr
 have hcf:∀ w,YB W w->YC 100 #[hvV xs[i],.pointer (some ⟨b,0,none⟩)] w (YR (.bool (decide (xs[i].sh.name=n))) w):=λw hw=>nmd1_any xs[i] n b w ((hw.block b hb).trans hc)
 have h1:=hat i hjm hno
 have h2:=qf_no (q:=λs:Sh=>decide (s.name=n)) hjm hno
 rw [List.getElem_map] at h1 h2
 generalize xs[i]=u at*
 refine zK 15 [] hA xs.length cap i 2 hj (zH 16 [] 24 eb (eo+i*2+0) (hvV u) (λw hO=>hel0 w hO.below) (zS [] λb9=>z6 (v:= .bool (decide (u.sh.name=n))) [0,0] (λw hO=>hcf w hO.below) (zL 19 (decide (u.sh.name=n)) (λh19=> ?_) (λh19=> ?_))))
 ·exact zU [] (YI (i:Int)) (YI 0) λw hO=>⟨j8 (h1 h19),hO.below⟩
 ·exact x_i 12 [] ((i+1:Nat):Int) (zP [] [] (λw hO=>hO.no) (nx (i+1) (xs.length-(i+1)) [] Om ⟨⟨hj,h2 h19⟩,rfl⟩ Kr Kr))
theorem fstE_any (A:Option Addr)(cap:Nat)(xs:List Hv)(n:YL)(b:Nat)(z:Int)(W:World)(hx:HsIn W W.heap.size A xs)(hc:W.heap[b]?=some (.cells #[.string (mkS n)] 9)):YC 61 #[.slice A xs.length cap,.func (.func 62) #[] #[.pointer (some ⟨b,0,none⟩)],YI z] W (YR (.tuple #[YI (wD (jY n) (shs xs) z).1,YI (wD (jY n) (shs xs) z).2]) W):=by
 have hb:b<W.heap.size:=(Array.getElem?_eq_some_iff.1 hc).1
 have hn:=hx.n
 obtain ⟨r,hr⟩:∃ r,wD (jY n) (shs xs) z=r:=⟨_,rfl⟩
 have hend:(∀ y∈shs xs,(jY n) y=false)->r=(0,z):=λh=>hr▸jZ h
 have hat:=λ(i:Nat) (hi:i<(shs xs).length)=>wQ (p:=jY n) (z:=z) hi
 rw [hr] at hat ⊢
 refine z8 Tryz.func61 (zO (α:=Nat) (λi=>[(1,.func (.func 62) #[] #[Zp b 0]),(2,YI z),(10,.slice A xs.length cap),(11,YI (xs.length:Int)),(12,YI (i:Int))]) (λ_=>[]) (λi m=>(i<=xs.length∧∀ y∈(shs xs).take i,(jY n) y=false)/\m=xs.length-i) 0 xs.length [] ⟨⟨Nat.zero_le _,λy h=>by simp at h⟩,rfl⟩ ?_)
 rintro i mm g kk ⟨⟨hi,hno⟩,hmm⟩ nx hkk
 subst hkk
 refine zD 13 [] ((i:Int)<(xs.length:Int)) (λh13=> ?_) (λh13=> ?_)
 rotate_left
 ·exact zU [] (YI 0) (YI z) λw hO=>⟨j8 (hend (dQ (by rw [List.length_map];omega) hno)),hO.below⟩
 have hj:i<xs.length:=by omega
 have hjm:i<(shs xs).length:=by rw [List.length_map];omega
 obtain ⟨eb,eo,hA,hel⟩:=hx.top.elem wH i hj
 have hel0:∀ w,YB W w->(loadVar 24 ⟨eb,eo+i*2+0,none⟩).run YP w= .ok (hvV xs[i]) w:=λw hw=>hel w hw _ 0 _ Kr
 have hsi:=hx.each _ (List.getElem_mem hj)
 have hcf:∀ w,YB W w->YC 62 #[hvV xs[i],.pointer (some ⟨b,0,none⟩)] w (YR (.bool (jY n xs[i].sh)) w):=λw hw=>hsq2_any xs[i] n b w (hsi.on hw hw.size) ((hw.block b hb).trans hc)
 have h1:=hat i hjm hno
 have h2:=qf_no (q:=jY n) hjm hno
 rw [List.getElem_map] at h1 h2
 generalize xs[i]=u at*
 refine zK 15 [] hA xs.length cap i 2 hj (zH 16 [] 24 eb (eo+i*2+0) (hvV u) (λw hO=>hel0 w hO.below) (zS [] λb9=>z6 (v:= .bool (jY n u.sh)) [0,0] (λw hO=>hcf w hO.below) (zL 19 (jY n u.sh) (λh19=> ?_) (λh19=> ?_))))
 ·exact zU [] (YI (i:Int)) (YI 0) λw hO=>⟨j8 (h1 h19),hO.below⟩
 ·exact x_i 12 [] ((i+1:Nat):Int) (zP [] [] (λw hO=>hO.no) (nx (i+1) (xs.length-(i+1)) [] Om ⟨⟨hj,h2 h19⟩,rfl⟩ Kr Kr))
theorem fstP_any (A:Option Addr)(cap:Nat)(xs:List Pn)(n:YL)(b:Nat)(z:Int)(W:World)(hx:PsIn W W.heap.size A xs)(hc:W.heap[b]?=some (.cells #[.string (mkS n)] 9)):YC 58 #[.slice A xs.length cap,.func (.func 59) #[] #[.pointer (some ⟨b,0,none⟩)],YI z] W (YR (.tuple #[YI (wD (λp:Pn=>decide (p.name=n)) (xs) z).1,YI (wD (λp:Pn=>decide (p.name=n)) (xs) z).2]) W):=by
 have hb:b<W.heap.size:=(Array.getElem?_eq_some_iff.1 hc).1
 have hn:=hx.n
 obtain ⟨r,hr⟩:∃ r,wD (λp:Pn=>decide (p.name=n)) (xs) z=r:=⟨_,rfl⟩
 have hend:(∀ y∈xs,(λp:Pn=>decide (p.name=n)) y=false)->r=(0,z):=λh=>hr▸jZ h
 have hat:=λ(i:Nat) (hi:i<(xs).length)=>wQ (p:=λp:Pn=>decide (p.name=n)) (z:=z) hi
 rw [hr] at hat ⊢
 refine z8 Tryz.func58 (zO (α:=Nat) (λi=>[(1,.func (.func 59) #[] #[Zp b 0]),(2,YI z),(10,.slice A xs.length cap),(11,YI (xs.length:Int)),(12,YI (i:Int))]) (λ_=>[]) (λi m=>(i<=xs.length∧∀ y∈(xs).take i,(λp:Pn=>decide (p.name=n)) y=false)/\m=xs.length-i) 0 xs.length [] ⟨⟨Nat.zero_le _,λy h=>by simp at h⟩,rfl⟩ ?_)
 rintro i mm g kk ⟨⟨hi,hno⟩,hmm⟩ nx hkk
 subst hkk
 refine zD 13 [] ((i:Int)<(xs.length:Int)) (λh13=> ?_) (λh13=> ?_)
 rotate_left
 ·exact zU [] (YI 0) (YI z) λw hO=>⟨j8 (hend (dQ Om hno)),hO.below⟩
 have hj:i<xs.length:=by omega
 have hjm:i<(xs).length:=by omega
 obtain ⟨eb,eo,hA,hel⟩:=hx.top.elem fH i hj
 have hel0:∀ w,YB W w->(loadVar 66 ⟨eb,eo+i*2+0,none⟩).run YP w= .ok (pnV xs[i]) w:=λw hw=>hel w hw _ 0 _ Kr
 have hcf:∀ w,YB W w->YC 59 #[pnV xs[i],.pointer (some ⟨b,0,none⟩)] w (YR (.bool (decide (xs[i].name=n))) w):=λw hw=>pin1_any xs[i] n b w ((hw.block b hb).trans hc)
 have h1:=hat i hjm hno
 have h2:=qf_no (q:=λp:Pn=>decide (p.name=n)) hjm hno
 generalize xs[i]=u at*
 refine zK 15 [] hA xs.length cap i 2 hj (zH 16 [] 66 eb (eo+i*2+0) (pnV u) (λw hO=>hel0 w hO.below) (zS [] λb9=>z6 (v:= .bool (decide (u.name=n))) [0,0] (λw hO=>hcf w hO.below) (zL 19 (decide (u.name=n)) (λh19=> ?_) (λh19=> ?_))))
 ·exact zU [] (YI (i:Int)) (YI 0) λw hO=>⟨j8 (h1 h19),hO.below⟩
 ·exact x_i 12 [] ((i+1:Nat):Int) (zP [] [] (λw hO=>hO.no) (nx (i+1) (xs.length-(i+1)) [] Om ⟨⟨hj,h2 h19⟩,rfl⟩ Kr Kr))
theorem named15_any (A:Option Addr)(cap:Nat)(xs:List Hv)(n:YL)(W:World)(hx:HsIn W W.heap.size A xs):YC 60 #[.slice A xs.length cap,.string (mkS n)] W (YR (.tuple #[YI (g6 (shs xs) n).1,YI (g6 (shs xs) n).2]) W):=by
 refine z8 Tryz.func60 (zZ [] λb=>wS 7 [] (.func (.func 100) #[] #[Zp b 0]) (λw=>Kr) (z6 (v:= .tuple #[YI (g6 (shs xs) n).1,YI (g6 (shs xs) n).2]) [] (λw hO=>fstN_any A cap xs n b 12 w (hx.on hO.below hO.size) ((hO.nth 0 ⟨b, #[.string (mkS n)],9⟩).get (i:=0) rfl)) (zU [] (YI (g6 (shs xs) n).1) (YI (g6 (shs xs) n).2) λw hO=>⟨rfl,hO.below⟩)))
theorem okH_is {l:List Sh}{i:Nat}(hi:i<l.length):okH l i=true↔yS l[i]/\(g6 l l[i].name).1=(i:Int):=by
 unfold okH
 rw [List.getElem?_eq_getElem hi]
 show (decide (yS l[i]) && decide (g6 l l[i].name=((i:Int),0)))=true↔_
 rw [Bool.and_eq_true,decide_eq_true_eq,decide_eq_true_eq]
 constructor
 ·rintro ⟨a,b⟩;exact ⟨a,by rw [b]⟩
 ·rintro ⟨a,b⟩
  refine ⟨a, ?_⟩
  rcases vP (λs:Sh=>decide (s.name=l[i].name)) l 12 with ⟨_,h2⟩|⟨j,hj,e,_,_⟩
  ·have:=h2 l[i] (List.getElem_mem hi);simp at this
  ·have e':g6 l l[i].name=((j:Int),0):=e
   rw [e'] at b ⊢
   exact Prod.ext b rfl
theorem fN (A:Option Addr)(cap:Nat)(xs:List Hv)(W:World)(hx:HsIn W W.heap.size A xs)(hK:RecLib W):YC 27 #[.slice A xs.length cap] W (YR (.bool (q6 (shs xs))) W):=by
 have hxl:(shs xs).length=xs.length:=List.length_map ..
 have hn5:=hx.n
 have hno:∀ w,YB W w->(xs.length<=4→∃ i,i<xs.length/\okH (shs xs) i=false)->(Ending.returned (.bool false)= .returned (.bool (q6 (shs xs))))/\YB W w:=λw hb h=>⟨(by
  refine congrArg (λq=>Ending.returned (.bool q)) (Eq.symm (Bool.eq_false_iff.2 λq=> ?_))
  obtain ⟨i,hi,hf⟩:=h (hxl▸mayH_few q)
  unfold q6 at q
  rw [Bool.and_eq_true] at q
  have:=pR (by rw [hxl];exact hi) q.2
  rw [this] at hf;cases hf),hb⟩
 refine z8 Tryz.func27 (zD 9 [] ((xs.length:Int)>4) (λh9=> ?_) (λh9=> ?_))
 ·exact z7 [] Z5 λw hO=>hno w hO.below λh=>by omega
 refine zO (α:=Nat) (λi=>[(0,.slice A xs.length cap),(10,.slice A xs.length cap),(11,YI (xs.length:Int)),(12,YI (i:Int))]) (λ_=>[]) (λi m=>(i<=xs.length∧∀ j,j<i->okH (shs xs) j=true)/\m=xs.length-i) 0 xs.length [] ⟨⟨Nat.zero_le _,λj h=>by omega⟩,rfl⟩ ?_
 rintro i mm g kk ⟨⟨hi,hok⟩,hmm⟩ nx hkk
 subst hkk
 refine zD 13 [] ((i:Int)<(xs.length:Int)) (λh13=> ?_) (λh13=> ?_)
 rotate_left
 ·exact z7 [] Z4 λw hO=>⟨by
   have:q6 (shs xs)=true:=by
    unfold q6
    rw [Bool.and_eq_true]
    exact ⟨decide_eq_true Om,nZ λj hj=>hok j Om⟩
   rw [this],hO.below⟩
 have hj:i<xs.length:=by omega
 have hjm:i<(shs xs).length:=by omega
 obtain ⟨eb,eo,hA,hel⟩:=hx.top.elem wH i hj
 have hel0:∀ w,YB W w->(loadVar 24 ⟨eb,eo+i*2+0,none⟩).run YP w= .ok (hvV xs[i]) w:=λw hw=>hel w hw _ 0 _ Kr
 have hsi:=hx.each _ (List.getElem_mem hj)
 have hq:=okH_is hjm
 rw [List.getElem_map] at hq
 generalize xs[i]=u at*
 have cN:∀ w,YB W w->YC 60 #[.slice A xs.length cap,.string (mkS u.name)] w (YR (.tuple #[YI (g6 (shs xs) u.sh.name).1,YI (g6 (shs xs) u.sh.name).2]) w):=λw hw=>named15_any A cap xs u.name w (hx.on hw hw.size)
 have cM:∀ w,YB W w->YC 34 #[hvV u] w (YR (.bool (decide (yS u.sh))) w):=λw hw=>sMay_any u w (hsi.on hw hw.size) (hK.on hw)
 generalize g6 (shs xs) u.sh.name=p at*
 refine zK 15 [] hA xs.length cap i 2 hj (zH 16 [] 24 eb (eo+i*2+0) (hvV u) (λw hO=>hel0 w hO.below) (zS [] λb4=>z6 (v:= .tuple #[YI p.1,YI p.2]) [0,0] (λw hO=>cN w hO.below) (kT 26 [] (p.1=(i:Int)) (λh26=> ?_) (λh26=> ?_))))
 rotate_left
 ·exact z7 [] Z5 λw hO=>hno w hO.below λ_=>⟨i,hj,Bool.eq_false_iff.2 λh=>h26 (hq.1 h).2⟩
 refine z6 (v:= .bool (decide (yS u.sh))) [0] (λw hO=>cM w hO.below) (fY 29 (yS u.sh) (λh29=> ?_) (λh29=> ?_))
 rotate_left
 ·exact z7 [] Z5 λw hO=>hno w hO.below λ_=>⟨i,hj,Bool.eq_false_iff.2 λh=>h29 (hq.1 h).1⟩
 have hst:=hq.2 ⟨h29,h26⟩
 exact x_i 12 [] ((i+1:Nat):Int) (zP [] [] (λw hO=>hO.no) (nx (i+1) (xs.length-(i+1)) [] Om ⟨⟨hj,λj hji=>by
  rcases Nat.lt_succ_iff_lt_or_eq.1 hji with h|h
  ·exact hok j h
  ·rw [h];exact hst⟩,rfl⟩ Kr Kr))
theorem mayP15_any (A:Option Addr)(cap:Nat)(ps:List Pn)(W:World)(hx:PsIn W W.heap.size A ps):YC 57 #[.slice A ps.length cap] W (YR (.bool (pC ps)) W):=by
 have hn5:=hx.n
 have hno:∀ i,i<ps.length->okP ps i=false→∀ w,YB W w->(Ending.returned (.bool false)= .returned (.bool (pC ps)))/\YB W w:=λi hi hf w hb=>⟨(by
  refine congrArg (λq=>Ending.returned (.bool q)) (Eq.symm (Bool.eq_false_iff.2 λq=> ?_))
  have:=pR hi q
  rw [this] at hf;cases hf),hb⟩
 refine z8 Tryz.func57 (zO (α:=Nat) (λi=>[(3,.string (mkS (yV (ps.map Pn.name) i))),(6,.slice A ps.length cap),(7,YI (ps.length:Int)),(8,YI (i:Int))]) (λ_=>[]) (λi m=>(i<=ps.length∧∀ j,j<i->okP ps j=true)/\m=ps.length-i) 0 ps.length [] ⟨⟨Nat.zero_le _,λj h=>by omega⟩,rfl⟩ ?_)
 rintro i mm g kk ⟨⟨hi,hok⟩,hmm⟩ nx hkk
 subst hkk
 refine zD 9 [] ((i:Int)<(ps.length:Int)) (λh9=> ?_) (λh9=> ?_)
 rotate_left
 ·exact z7 [] Z4 λw hO=>⟨by rw [show pC ps=true from nZ λj hj=>hok j Om],hO.below⟩
 have hj:i<ps.length:=by omega
 obtain ⟨eb,eo,hA,hel⟩:=hx.top.elem fH i hj
 have hel0:∀ w,YB W w->(loadVar 66 ⟨eb,eo+i*2+0,none⟩).run YP w= .ok (pnV ps[i]) w:=λw hw=>hel w hw _ 0 _ Kr
 have hq:okP ps i=(nmL ps[i].name && nmL ps[i].shelf && Op.bytesLess (yV (ps.map Pn.name) i) ps[i].name):=by unfold okP;rw [List.getElem?_eq_getElem hj]
 have hsn:=hx.sn _ (List.getElem_mem hj)
 have hl1:yV (ps.map Pn.name) (i+1)=ps[i].name:=by rw [bU (by simpa using hj),List.getElem_map]
 have hno:=hno i hj
 generalize ps[i]=u at*
 have cN:∀ w,YC 69 #[.string (mkS u.name)] w (YR (.bool (nmL u.name)) w):=λw=>vN u.name w hsn.1
 have cS:∀ w,YC 69 #[.string (mkS u.shelf)] w (YR (.bool (nmL u.shelf)) w):=λw=>vN u.shelf w hsn.2
 refine zK 10 [] hA ps.length cap i 2 hj (zH 11 [] 66 eb (eo+i*2+0) (pnV u) (λw hO=>hel0 w hO.below) (zS [] λb5=>z6 (v:= .bool (nmL u.name)) [0,0] (λw hO=>cN w) (zL 14 (nmL u.name) (λh14=> ?_) (λh14=> ?_))))
 rotate_left
 ·exact z7 [] Z5 λw hO=>hno (by rw [hq,h14];rfl) w hO.below
 refine z6 (v:= .bool (nmL u.shelf)) [0] (λw hO=>cS w) (zL 19 (nmL u.shelf) (λh19=> ?_) (λh19=> ?_))
 rotate_left
 ·exact z7 [] Z5 λw hO=>hno (by rw [hq,h14,h19];rfl) w hO.below
 refine x_sle 26 [0] u.name (yV (ps.map Pn.name) i) (zL 26 (!Op.bytesLess (yV (ps.map Pn.name) i) u.name) (λh26=> ?_) (λh26=> ?_))
 ·exact z7 [] Z5 λw hO=>hno (by rw [hq,h14,h19];simpa using h26) w hO.below
 have hst:okP ps i=true:=by rw [hq,h14,h19];simpa using h26
 refine vU 3 [0] (.string (mkS u.name)) (.string (mkS (yV (ps.map Pn.name) (i+1)))) (by rw [hl1]) ?_
 exact x_i 8 [] ((i+1:Nat):Int) (zP [] [] (λw hO=>hO.no) (nx (i+1) (ps.length-(i+1)) [] Om ⟨⟨hj,λj hji=>by
  rcases Nat.lt_succ_iff_lt_or_eq.1 hji with h|h
  ·exact hok j h
  ·rw [h];exact hst⟩,rfl⟩ Kr Kr))
theorem bW (A B:Option Addr)(cap cb:Nat)(xs:List Hv)(ps:List Pn)(n:YL)(W:World)(hx:HsIn W W.heap.size A xs)(hp:PsIn W W.heap.size B ps)(hK:RecLib W):YC 23 #[.slice A xs.length cap,.slice B ps.length cb,.string (mkS n)] W (YR (.tuple #[YI (yK (shs xs) ps n).1,YI (yK (shs xs) ps n).2]) W):=by
 have cM:∀ w,YB W w->YC 27 #[.slice A xs.length cap] w (YR (.bool (q6 (shs xs))) w):=λw hw=>fN A cap xs w (hx.on hw hw.size) (hK.on hw)
 have cP:∀ w,YB W w->YC 57 #[.slice B ps.length cb] w (YR (.bool (pC ps)) w):=λw hw=>mayP15_any B cb ps w (hp.on hw hw.size)
 have hn5:=hp.n
 refine z8 Tryz.func23 (zZ [] λb=>z6 (v:= .bool (q6 (shs xs))) [] (λw hO=>cM w hO.below) (zL 11 (q6 (shs xs)) (λh11=> ?_) (λh11=> ?_)))
 rotate_left
 ·exact zU [] (YI 0) (YI 1) λw hO=>⟨j8 (by unfold yK;rw [if_neg (by rw [h11];decide)]),hO.below⟩
 refine z6 (v:= .bool (pC ps)) [] (λw hO=>cP w hO.below) (zL 14 (pC ps) (λh14=> ?_) (λh14=> ?_))
 rotate_left
 ·exact zU [] (YI 0) (YI 15) λw hO=>⟨j8 (by unfold yK;rw [if_pos h11,if_neg (by rw [h14];decide)]),hO.below⟩
 have cF:∀ w,Own [] W w [⟨b, #[.string (mkS n)],9⟩]->YC 58 #[.slice B ps.length cb,.func (.func 59) #[] #[.pointer (some ⟨b,0,none⟩)],YI 9] w (YR (.tuple #[YI (pinI ps n).1,YI (pinI ps n).2]) w):=λw hO=>fstP_any B cb ps n b 9 w (hp.on hO.below hO.size) (hO.get (i:=0) rfl)
 rcases vP (λp:Pn=>decide (p.name=n)) ps 9 with ⟨e,_⟩|⟨i,hi,e,_,_⟩
 ·have e':pinI ps n=(0,9):=e
  rw [e'] at cF
  have hF:yK (shs xs) ps n=hasH (shs xs) n:=by unfold yK;rw [if_pos h11,if_pos h14,e',if_neg (by decide)]
  refine wS 18 [] (.func (.func 59) #[] #[Zp b 0]) (λw=>Kr) (z6 (v:= .tuple #[YI 0,YI 9]) [] (λw hO=>cF w (hO.nth 0 _)) ?_)
  refine wS 34 [] (.func (.func 62) #[] #[Zp b 0]) (λw=>Kr) (z6 (v:= .tuple #[YI (hasH (shs xs) n).1,YI (hasH (shs xs) n).2]) [] (λw hO=>fstE_any A cap xs n b 9 w (hx.on hO.below hO.size) ((hO.nth 0 ⟨b, #[.string (mkS n)],9⟩).get (i:=0) rfl)) ?_)
  exact zU [] (YI (hasH (shs xs) n).1) (YI (hasH (shs xs) n).2) λw hO=>⟨by rw [hF],hO.below⟩
 ·have e':pinI ps n=((i:Int),0):=e
  rw [e'] at cF
  obtain ⟨eb,eo,hA,hel⟩:=hp.top.elem fH i hi
  have hel0:∀ w,YB W w->(loadVar 9 ⟨eb,eo+i*2+1,none⟩).run YP w= .ok (.string (mkS ps[i].shelf)) w:=λw hw=>hel w hw _ 1 _ Kr
  have hF:yK (shs xs) ps n=g6 (shs xs) ps[i].shelf:=by
   unfold yK
   rw [if_pos h11,if_pos h14,e',if_pos rfl]
   show g6 (shs xs) (pinS ps (i:Int).toNat)=_
   rw [Int.toNat_natCast]
   unfold pinS
   rw [List.getElem?_eq_getElem hi];rfl
  rw [hF]
  generalize ps[i].shelf=s at*
  refine wS 18 [] (.func (.func 59) #[] #[Zp b 0]) (λw=>Kr) (z6 (v:= .tuple #[YI (i:Int),YI 0]) [] (λw hO=>cF w (hO.nth 0 _)) ?_)
  refine zK 27 [] hA ps.length cb i 2 hi (zH 29 [] 9 eb (eo+i*2+1) (.string (mkS s)) (λw hO=>hel0 w hO.below) ?_)
  exact z6 (v:= .tuple #[YI (g6 (shs xs) s).1,YI (g6 (shs xs) s).2]) [] (λw hO=>named15_any A cap xs s w (hx.on hO.below hO.size)) (zU [] (YI (g6 (shs xs) s).1) (YI (g6 (shs xs) s).2) λw hO=>⟨rfl,hO.below⟩)
theorem from_ok {l:List Sh}{ps:List Pn}{n:YL}(h:(yK l ps n).2=0):q6 l=true∧∃ i,i<l.length/\yK l ps n=((i:Int),0):=by
 unfold yK at h ⊢
 by_cases h1:q6 l=true
 ·rw [if_pos h1] at h ⊢
  refine ⟨h1, ?_⟩
  by_cases h2:pC ps=true
  ·rw [if_pos h2] at h ⊢
   have key:∀ {p:Sh->Bool} {z:Int},z≠0->(wD p l z).2=0→∃ i,i<l.length/\wD p l z=((i:Int),0):=λ{p z} hz h=>by
    rcases vP p l z with ⟨e,_⟩|⟨i,hi,e,_,_⟩
    ·rw [e] at h;exact absurd h hz
    ·exact ⟨i,hi,e⟩
   by_cases h3:(pinI ps n).2=0
   ·rw [if_pos h3] at h ⊢;exact key (by decide) h
   ·rw [if_neg h3] at h ⊢;exact key (by decide) h
  ·rw [if_neg h2] at h;exact absurd h (by decide)
 ·rw [if_neg h1] at h;exact absurd h (by decide)
def ListR (xs:List Hv)(ps:List Pn)(n:YL)(v:Value)(ob:List Blk):Prop:=((yK (shs xs) ps n).2≠0/\v= .tuple #[YI 0,.slice none 0 0,YI (yK (shs xs) ps n).2]/\ob=[])∨∃ i,∃ hi:i<xs.length,yK (shs xs) ps n=((i:Int),0)∧∃ u,∃ t:List Nat,v= .tuple #[YI (i:Int),u,YI 0]/\Sl 3 1 u t.length (t.map vZ) ob/\wC xs[i].sh n t
theorem list15_any (A B:Option Addr)(cap cb:Nat)(xs:List Hv)(ps:List Pn)(n:YL)(W:World)(hx:HsIn W W.heap.size A xs)(hp:PsIn W W.heap.size B ps)(hK:RecLib W):YC 25 #[.slice A xs.length cap,.slice B ps.length cb,.string (mkS n)] W λe w'=>∃ v ob,e= .returned v/\ListR xs ps n v ob/\Own [] W w' ob:=by
 have cF:∀ w,YB W w->YC 23 #[.slice A xs.length cap,.slice B ps.length cb,.string (mkS n)] w (YR (.tuple #[YI (yK (shs xs) ps n).1,YI (yK (shs xs) ps n).2]) w):=λw hw=>bW A B cap cb xs ps n w (hx.on hw hw.size) (hp.on hw hw.size) (hK.on hw)
 unfold ListR
 by_cases h:(yK (shs xs) ps n).2=0
 ·obtain ⟨hM,i,hi,e⟩:=from_ok h
  rw [e] at cF
  have hi':i<xs.length:=by rw [List.length_map] at hi;exact hi
  obtain ⟨eb,eo,hA,hel⟩:=hx.top.elem wH i hi'
  have hel0:∀ w,YB W w->(loadVar 24 ⟨eb,eo+i*2+0,none⟩).run YP w= .ok (hvV xs[i]) w:=λw hw=>hel w hw _ 0 _ Kr
  have hMi:yS xs[i].sh:=by have:=(mayH_ok hM hi).1;rw [List.getElem_map] at this;exact this
  have cL:∀ w,YB W w->YC 67 #[hvV xs[i],.string (mkS n)] w λe w'=>∃ v ob,e= .returned v/\(∃ l:List Nat,Sl 3 1 v l.length (l.map vZ) ob/\wC xs[i].sh n l)/\Own [] w w' ob:=λw hw=>sList_any xs[i] n w ((hx.each _ (List.getElem_mem hi')).on hw hw.size) hMi (hK.on hw)
  refine z8 Tryz.func25 (z6 (v:= .tuple #[YI (i:Int),YI 0]) [] (λw hO=>cF w hO.below) (zK 24 [] hA xs.length cap i 2 hi' (zH 25 [] 24 eb (eo+i*2+0) (hvV xs[i]) (λw hO=>hel0 w hO.below) (xH (R:=λv ob=>∃ l:List Nat,Sl 3 1 v l.length (l.map vZ) ob/\wC xs[i].sh n l) [] (λw hO=>cL w hO.below) ?_))))
  rintro u ob ⟨t,hS,hL⟩
  exact gA [] (YI (i:Int)) u (YI 0) λw hO=>⟨_,ob,rfl,.inr ⟨i,hi',e,u,t,rfl,hS,hL⟩,hO.past 0 ob⟩
 ·have hne:=h
  generalize yK (shs xs) ps n=p at*
  refine z8 Tryz.func25 (z6 (v:= .tuple #[YI p.1,YI p.2]) [] (λw hO=>cF w hO.below) (kT 19 [] (p.2=0) (λq=>absurd q h) (λ_=> ?_)))
  exact gA [] (YI 0) (.slice none 0 0) (YI p.2) λw hO=>⟨_,[],rfl,.inl ⟨h,rfl,rfl⟩,hO.no⟩
end
section
set_option linter.unnecessarySimpa false
theorem r13One_any (a v:Ver)(W:World)(h1:a.pre.length<=1000000)(h2:a.build.length<=1000000)(h3:v.pre.length<=1000000)(h4:v.build.length<=1000000):YC 123 #[yB a,yB v] W (YR (.bool (oneV a v)) W):=by
 have cA:∀ w,YC 105 #[yB a] w (YR (.bool a.may) w):=λw=>qN a w h1 h2
 have cV:∀ w,YC 105 #[yB v] w (YR (.bool v.may) w):=λw=>qN v w h3 h4
 have cC:∀ w,YC 68 #[yB a,yB v] w (YR (YI (zX a v)) w):=λw=>m6 a v w h1 h2 h3 h4
 refine z8 Tryz.func123 (zZ [] λb2=>zZ [] λb3=>z6 (v:= .bool a.may) [1] (λw hO=>cA w) (zL 6 a.may (λha=> ?_) (λha=> ?_)))
 rotate_left
 ·exact z7 [] Z5 λw hO=>⟨by unfold oneV;rw [ha];rfl,hO.below⟩
 refine z6 (v:= .bool v.may) [0] (λw hO=>cV w) (zL 9 v.may (λhv=> ?_) (λhv=> ?_))
 rotate_left
 ·exact z7 [] Z5 λw hO=>⟨by unfold oneV;rw [ha,hv];rfl,hO.below⟩
 exact z6 (v:=YI (zX a v)) [1,0] (λw hO=>cC w) (z7 [] (.bool (decide (zX a v=0))) λw hO=>⟨by unfold oneV;rw [ha,hv];rfl,hO.below⟩)
theorem nT (A:Option Addr)(cap:Nat)(es:List Ev)(nm:YL)(v:Ver)(W:World)(hx:EsIn W W.heap.size A es)(h3:v.pre.length<=1000000)(h4:v.build.length<=1000000):YC 78 #[.slice A es.length cap,.string (mkS nm),yB v] W (YR (YI (yD (es.map Ev.et) nm v)) W):=by
 refine z8 Tryz.func78 (zZ [] λb5=> ?_)
 have hB:∀ w,Own [] W w [⟨b5,(ZP v),42⟩]->YB W w:=λw hO=>hO.below
 refine zO (α:=Nat) (λi=>[(0,.slice A es.length cap),(1,.string (mkS nm)),(5,Zp b5 0),(7,YI (i:Int))]) (λ_=>[⟨b5,(ZP v),42⟩]) (λi m=>(i<=es.length∧∀ e∈(es.map Ev.et).take i,jJ nm v e=false)/\m=es.length-i) 0 es.length [] ⟨⟨Nat.zero_le _,λe h=>by simp at h⟩,rfl⟩ ?_
 rintro i mm g kk ⟨⟨hi,hno⟩,hmm⟩ nx hkk
 subst hkk
 refine zD 11 [] ((i:Int)<(es.length:Int)) (λh11=> ?_) (λh11=> ?_)
 rotate_left
 ·exact z7 [] (YI (-1)) λw hO=>⟨by rw [place_none.2 λe he=>hno e (by rw [show i=es.length by omega,←List.length_map (f:=Ev.et),List.take_length];exact he)],hO.below⟩
 have hn5:=hx.n
 have hj:i<es.length:=by omega
 have hjm:i<(es.map Ev.et).length:=by simpa using hj
 obtain ⟨eb,eo,hA,hel⟩:=hx.top.elem gE i hj
 have hn0:∀ w,YB W w->(loadVar 9 ⟨eb,eo+i*11+0,none⟩).run YP w= .ok (.string (mkS es[i].rec'.name)) w:=λw hw=>hel w hw _ 0 _ Kr
 have hv0:∀ w,YB W w->(loadVar 42 ⟨eb,eo+i*11+1,none⟩).run YP w= .ok (yB es[i].rec'.ver) w:=λw hw=>hel w hw _ 1 _ Kr
 have hsn:=(hx.each _ (List.getElem_mem hj)).sn
 have hat:jJ nm v es[i].et=true->yD (es.map Ev.et) nm v=(i:Int):=λh=>place_at hjm hno (by rw [List.getElem_map];exact h)
 have hstep:jJ nm v es[i].et=false→∀ e∈(es.map Ev.et).take (i+1),jJ nm v e=false:=λh e he=>by
  rw [List.take_succ_eq_append_getElem hjm,List.getElem_map] at he
  rcases List.mem_append.1 he with he|he
  ·exact hno e he
  ·rw [List.mem_singleton.1 he];exact h
 have hdef:jJ nm v es[i].et=(decide (es[i].rec'.name=nm) && oneV es[i].rec'.ver v):=rfl
 rw [hdef] at hat hstep
 generalize es[i]=u at*
 have cO:∀ w,YC 123 #[yB u.rec'.ver,yB v] w (YR (.bool (oneV u.rec'.ver v)) w):=λw=>r13One_any u.rec'.ver v w hsn.2.1 hsn.2.2 h3 h4
 refine zK 16 [] hA es.length cap i 11 hj (zH 19 [] 9 eb (eo+i*11+0) (.string (mkS u.rec'.name)) (λw hO=>hn0 w hO.below) (kJ 21 [] u.rec'.name nm (λhnm=> ?_) (λhnm=> ?_)))
 rotate_left
 ·exact x_i 13 [] ((i+1:Nat):Int) (nx (i+1) (es.length-(i+1)) [] Om ⟨⟨hj,hstep (by rw [decide_eq_false hnm];rfl)⟩,rfl⟩ Kr Kr)
 rw [decide_eq_true hnm,Bool.true_and] at hat hstep
 refine zK 25 [] hA es.length cap i 11 hj (zH 28 [] 42 eb (eo+i*11+1) (yB u.rec'.ver) (λw hO=>hv0 w hO.below) (z6 (v:= .bool (oneV u.rec'.ver v)) [0] (λw hO=>cO w) (x_bb 31 [] (oneV u.rec'.ver v) (λho=> ?_) (λho=> ?_))))
 ·exact z7 [] (YI (i:Int)) λw hO=>⟨by rw [hat ho],hO.below⟩
 ·exact x_i 13 [] ((i+1:Nat):Int) (nx (i+1) (es.length-(i+1)) [] Om ⟨⟨hj,hstep ho⟩,rfl⟩ Kr Kr)
theorem place_self {l:List Et}{n:YL}{v:Ver}{i:Nat}(hi:i<l.length)(hs:jJ n v l[i]=true):yD l n v=(i:Int)↔yD (l.take i) n v= -1:=by
 rw [place_none]
 constructor
 ·intro h
  obtain ⟨j,hj,e,_,h0⟩:=place_some (l:=l) (n:=n) (v:=v) Om
  obtain rfl:j=i:=by omega
  exact h0
 ·intro h;exact place_at hi h hs
theorem mP (x:Hv)(W:World)(hx:ShIn W W.heap.size x):YC 40 #[hvV x] W (YR (.bool (decide (yS x.sh))) W):=by
 have hno:∀ w,YB W w→¬ yS x.sh->(Ending.returned (.bool false)= .returned (.bool (decide (yS x.sh))))/\YB W w:=λw hb h=>⟨by rw [decide_eq_false h],hb⟩
 have hyes:∀ w,YB W w->yS x.sh->(Ending.returned (.bool true)= .returned (.bool (decide (yS x.sh))))/\YB W w:=λw hb h=>⟨by rw [decide_eq_true h],hb⟩
 have hpre:yS x.sh→∀ i,nF ((x.es.map Ev.et).take i):=λh i=>may_pre13 h i
 have hmk:nmL x.name=true->x.es.length<=64->nF (x.es.map Ev.et)->yS x.sh:=λa b c=>pre_may a (by simpa [Hv.sh] using b) c
 have hnot:yS x.sh->nmL x.name=true:=λh=>h.name
 have hfew:yS x.sh->x.es.length<=64:=λh=>by simpa [Hv.sh] using h.few
 obtain ⟨hE,hle,hsn⟩:=hx
 have c1:∀ w,YC 76 #[.string (mkS x.name)] w (YR (.bool (nmL x.name)) w):=λw=>qH x.name w hsn
 refine z8 Tryz.func40 (zZ [] λb1=>z6 (v:= .bool (nmL x.name)) [0] (λw hO=>c1 w) (zL 9 (nmL x.name) (λh9=> ?_) (λh9=> ?_)))
 rotate_left
 ·exact z7 [] Z5 λw hO=>hno w hO.below λh=>by rw [hnot h] at h9;cases h9
 refine zD 15 [0] ((x.es.length:Int)>64) (λh15=> ?_) (λh15=> ?_)
 ·exact z7 [] Z5 λw hO=>hno w hO.below λh=>by have:=hfew h;omega
 refine zO (α:=Nat) (λi=>[(1,Zp b1 0),(3,YI (i:Int))]) (λ_=>[hvB b1 x]) (λi m=>(i<=x.es.length/\nF ((x.es.map Ev.et).take i))/\m=x.es.length-i) 0 x.es.length [] ⟨⟨Nat.zero_le _,⟨λe h=>by simp at h,by simp⟩⟩,rfl⟩ ?_
 rintro i mm g kk ⟨⟨hi,hP⟩,hmm⟩ nx hkk
 subst hkk
 refine zD 21 [0] ((i:Int)<(x.es.length:Int)) (λh21=> ?_) (λh21=> ?_)
 rotate_left
 ·exact z7 [] Z4 λw hO=>hyes w hO.below (hmk h9 Om (by rw [show i=x.es.length by omega,←List.length_map (f:=Ev.et),List.take_length] at hP;exact hP))
 have hj:i<x.es.length:=by omega
 have hjm:i<(x.es.map Ev.et).length:=by simpa using hj
 obtain ⟨eb,eo,hA,hel⟩:=hE.top.elem gE i hj
 have hel0:∀ w,YB W w->(loadVar 69 ⟨eb,eo+i*11+0,none⟩).run YP w= .ok (evV x.es[i]) w:=λw hw=>hel w hw _ 0 _ Kr
 have hR:=hE.each _ (List.getElem_mem hj)
 have hstep:nF ((x.es.map Ev.et).take (i+1))↔nF ((x.es.map Ev.et).take i)/\okE x.es[i].et/\yD ((x.es.map Ev.et).take i) x.es[i].rec'.name x.es[i].rec'.ver= -1:=by
  rw [List.take_succ_eq_append_getElem hjm,List.getElem_map];exact pre_step
 have hself:okE x.es[i].et->(yD (x.es.map Ev.et) x.es[i].rec'.name x.es[i].rec'.ver=(i:Int)↔yD ((x.es.map Ev.et).take i) x.es[i].rec'.name x.es[i].rec'.ver= -1):=λhk=>by
  refine place_self hjm ?_
  have hm:x.es[i].rec'.ver.may=true:=(yN hk.1).2.1
  rw [List.getElem_map]
  show (decide (x.es[i].rec'.name=x.es[i].rec'.name) && (x.es[i].rec'.ver.may && x.es[i].rec'.ver.may && decide (zX x.es[i].rec'.ver x.es[i].rec'.ver=0)))=true
  rw [hm,mU];simp
 have hq:=λh=>(hstep.1 (hpre h (i+1))).2
 generalize x.es[i]=u at*
 have cS:∀ w,YB W w->YC 77 #[rvV u.rec'] w (YR (.tuple #[.int .u64 (yE u.rec'.rt),YI (zN u.rec'.rt).1]) w):=λw hb=>r12Sum_any u.rec' w (hR.on hb hb.size)
 have cP:∀ w,YB W w->YC 78 #[.slice x.A x.es.length x.cap,.string (mkS u.rec'.name),yB u.rec'.ver] w (YR (YI (yD (x.es.map Ev.et) u.rec'.name u.rec'.ver)) w):=λw hb=>nT x.A x.cap x.es u.rec'.name u.rec'.ver w (hE.on hb hb.size) hR.sn.2.1 hR.sn.2.2
 generalize yD (x.es.map Ev.et) u.rec'.name u.rec'.ver=z at cP hself
 have hok:okE u.et↔(zN u.rec'.rt).1=0/\yE u.rec'.rt=u.sum:=Iff.rfl
 refine zK 27 [0] hA x.es.length x.cap i 11 hj (zH 28 [] 69 eb (eo+i*11+0) (evV u) (λw hO=>hel0 w hO.below) (zS [] λb4=>z6 (v:= .tuple #[.int .u64 (yE u.rec'.rt),YI (zN u.rec'.rt).1]) [0,0] (λw hO=>cS w hO.below) (kT 36 [] ((zN u.rec'.rt).1=0) (λh32=> ?_) (λh32=> ?_))))
 rotate_left
 ·exact z7 [] Z5 λw hO=>hno w hO.below λh=>h32 (hq h).1.1
 refine kT 41 [0] (yE u.rec'.rt=u.sum) (λh37=> ?_) (λh37=> ?_)
 rotate_left
 ·exact z7 [] Z5 λw hO=>hno w hO.below λh=>h37 (hq h).1.2
 have hs2:=hself (hok.2 ⟨h32,h37⟩)
 refine z6 (v:=YI z) [1,0,0] (λw hO=>cP w hO.below) (kT 54 [] (z=(i:Int)) (λh51=> ?_) (λh51=> ?_))
 ·exact x_i 23 [] ((i+1:Nat):Int) (zP [] [hvB b1 x] (λw hO=>hO.past 1 _) (nx (i+1) (x.es.length-(i+1)) [] Om ⟨⟨hj,hstep.2 ⟨hP,hok.2 ⟨h32,h37⟩,hs2.1 h51⟩⟩,rfl⟩ Kr Kr))
 ·exact z7 [] Z5 λw hO=>hno w hO.below λh=>h51 (hs2.2 (hq h).2)
end
section
set_option linter.unnecessarySimpa false
def PutR13 (x:Hv)(r:Rv)(v:Value)(ob:List Blk):Prop:=((nX x.sh r.rt).2=0∧∃ A c,v= .tuple #[hvV ⟨x.name,A,c,x.es++[⟨r,yE r.rt,false⟩]⟩,YI 0]/\Sl 69 11 (.slice A (x.es++[(⟨r,yE r.rt,false⟩:Ev)]).length c) (x.es++[(⟨r,yE r.rt,false⟩:Ev)]).length ((x.es++[(⟨r,yE r.rt,false⟩:Ev)]).flatMap evC) ob)\/((nX x.sh r.rt).2≠0/\v= .tuple #[hvV hv0,YI (nX x.sh r.rt).2]/\ob=[])
theorem r13Put_any (x:Hv)(r:Rv)(W:World)(hx:ShIn W W.heap.size x)(hr:RcIn W W.heap.size r):YC 44 #[hvV x,rvV r] W λe w'=>∃ v ob,e= .returned v/\PutR13 x r v ob/\Own [] W w' ob:=by
 have cM:∀ w,YB W w->YC 40 #[hvV x] w (YR (.bool (decide (yS x.sh))) w):=λw hb=>mP x w (hx.on hb hb.size)
 have cS:∀ w,YB W w->YC 77 #[rvV r] w (YR (.tuple #[.int .u64 (yE r.rt),YI (zN r.rt).1]) w):=λw hb=>r12Sum_any r w (hr.on hb hb.size)
 have cP:∀ w,YB W w->YC 78 #[.slice x.A x.es.length x.cap,.string (mkS r.name),yB r.ver] w (YR (YI (yD x.sh.es r.name r.ver)) w):=λw hb=>nT x.A x.cap x.es r.name r.ver w (hx.es.on hb hb.size) hr.sn.2.1 hr.sn.2.2
 have hl0:x.sh.es.length=x.es.length:=by simp [Hv.sh]
 have hn5:=hx.es.n
 have hmz:1<=x.es.length+1:=by omega
 have hPR:∀ v ob,PutR13 x r v ob↔((nX x.sh r.rt).2=0∧∃ A c,v= .tuple #[hvV ⟨x.name,A,c,x.es++[⟨r,yE r.rt,false⟩]⟩,YI 0]/\Sl 69 11 (.slice A (x.es++[(⟨r,yE r.rt,false⟩:Ev)]).length c) (x.es++[(⟨r,yE r.rt,false⟩:Ev)]).length ((x.es++[(⟨r,yE r.rt,false⟩:Ev)]).flatMap evC) ob)\/((nX x.sh r.rt).2≠0/\v= .tuple #[hvV hv0,YI (nX x.sh r.rt).2]/\ob=[]):=λv ob=>Iff.rfl
 simp only [hPR]
 clear hPR
 have hc64:∀ z,yD x.sh.es r.name r.ver=z->(nX x.sh r.rt).2=if yS x.sh then if (zN r.rt).1=0 then if z= -1 then if x.es.length=64 then 10 else 0 else 8 else (zN r.rt).1 else 1:=λz e=>by
  subst e
  unfold nX
  rw [hl0]
  have e:yD x.sh.es r.rt.name r.rt.ver=yD x.sh.es r.name r.ver:=rfl
  rw [e]
  split<;>(try split)<;>(try split)<;>(try split)<;>rfl
 have hfew:=λh:yS x.sh=>h.few
 rw [hl0] at hfew
 obtain ⟨z,hz⟩:∃ z,yD x.sh.es r.name r.ver=z:=⟨_,rfl⟩
 have hge:=place_ge x.sh.es r.name r.ver
 rw [hz] at cP hge
 have hp:=hc64 z hz
 clear hc64 hz
 generalize (nX x.sh r.rt).2=p at hp
 have hout:∀ (q:Int) (w:World),p=q->q≠0->Own [] W w []→∃ v ob,Ending.returned (.tuple #[hvV hv0,YI q])= .returned v/\((p=0∧∃ A c,v= .tuple #[hvV ⟨x.name,A,c,x.es++[⟨r,yE r.rt,false⟩]⟩,YI 0]/\Sl 69 11 (.slice A (x.es++[(⟨r,yE r.rt,false⟩:Ev)]).length c) (x.es++[(⟨r,yE r.rt,false⟩:Ev)]).length ((x.es++[(⟨r,yE r.rt,false⟩:Ev)]).flatMap evC) ob)\/(p≠0/\v= .tuple #[hvV hv0,YI p]/\ob=[]))/\Own [] W w ob:=λq w e h0 hO=>⟨_,[],rfl,.inr ⟨e▸h0,by rw [e],rfl⟩,hO⟩
 refine z8 Tryz.func44 (zZ [] λb2=>zZ [] λb3=>zS [] λb4=>z6 (v:= .bool (decide (yS x.sh))) [2] (λw hO=>cM w hO.below) (fY 9 (yS x.sh) (λhm=> ?_) (λhm=> ?_)))
 rotate_left
 ·exact nJ [0] 0 (hvV hv0) (YI 1) λw hO=>hout 1 w (by rw [hp,if_neg hm]) (by decide) hO.no
 rw [if_pos hm] at hp
 have hfew:=hfew hm
 refine z6 (v:= .tuple #[.int .u64 (yE r.rt),YI (zN r.rt).1]) [1] (λw hO=>cS w hO.below) (kT 19 [] ((zN r.rt).1=0) (λhc=> ?_) (λhc=> ?_))
 rotate_left
 ·exact nJ [0] 0 (hvV hv0) (YI (zN r.rt).1) λw hO=>hout _ w (by rw [hp,if_neg hc]) hc hO.no
 rw [if_pos hc] at hp
 refine z6 (v:=YI z) [2,1,1] (λw hO=>cP w hO.below) (zD 30 [] (z>=0) (λh30=> ?_) (λh30=> ?_))
 ·exact nJ [0] 0 (hvV hv0) (YI 8) λw hO=>hout _ w (by rw [hp,if_neg Om]) (by decide) hO.no
 rw [if_pos Om] at hp
 refine zD 36 [2] ((x.es.length:Int)>=64) (λh36=> ?_) (λh36=> ?_)
 ·exact nJ [0] 0 (hvV hv0) (YI 10) λw hO=>hout _ w (by rw [hp,if_pos Om]) (by decide) hO.no
 rw [if_neg Om] at hp
 subst hp
 have hrd:∀ w,Own [] W w [⟨b4,ZM,24⟩,⟨b3,(rvV r).cells,47⟩,hvB b2 x]->Reads evC w w.heap.size x.A x.es:=λw hO=>hx.es.top.on hO.below hO.size
 have hrd2:∀ b46 w,Own [] W w (⟨b46,(evV ⟨r,yE r.rt,false⟩).cells,69⟩::[⟨b4,ZM,24⟩,⟨b3,(rvV r).cells,47⟩,hvB b2 x])->Reads evC w w.heap.size x.A x.es:=λb46 w hO=>hx.es.top.on hO.below hO.size
 refine gQ 11 [] [⟨b4,ZM,24⟩,⟨b3,(rvV r).cells,47⟩,hvB b2 x] (λw hO=>hO.past 0 _) (x_h2 [2,2,1] 4 8 (yW (g:=evC) (T:=69) (sz:=11) (cp:=x.cap) x.es [⟨b4,ZM,24⟩,⟨b3,(rvV r).cells,47⟩,hvB b2 x] [] [] [⟨b4,ZM,24⟩,⟨b3,(rvV r).cells,47⟩,hvB b2 x] [⟨b4,ZM,24⟩,⟨b3,(rvV r).cells,47⟩,hvB b2 x] (λw hO=>hO) (λo w hO=>(hO.sublist (List.sublist_append_left _ _)).sublist (List.sublist_append_left _ _)) gE evC_one (λw hO=>hrd w hO) (Sl.nil _ _) (by omega) λv1 o1 hS=>zY [] 8 (k7 1 69 (evV ⟨r,yE r.rt,false⟩).cells λb46=> ?_)) (k7 1 69 (evV ⟨r,yE r.rt,false⟩).cells λb46=>zY [] 4 (yW (g:=evC) (T:=69) (sz:=11) (cp:=x.cap) x.es (⟨b46,(evV ⟨r,yE r.rt,false⟩).cells,69⟩::[⟨b4,ZM,24⟩,⟨b3,(rvV r).cells,47⟩,hvB b2 x]) [] [] (⟨b46,(evV ⟨r,yE r.rt,false⟩).cells,69⟩::[⟨b4,ZM,24⟩,⟨b3,(rvV r).cells,47⟩,hvB b2 x]) [⟨b4,ZM,24⟩,⟨b3,(rvV r).cells,47⟩,hvB b2 x] (λw hO=>hO) (λo w hO=>(hO.sublist (List.sublist_append_left _ _)).sublist (List.Sublist.trans (List.sublist_cons_self _ _) (List.sublist_append_left _ _))) gE evC_one (λw hO=>hrd2 b46 w hO) (Sl.nil _ _) (by omega) λv1 o1 hS=> ?_)))
 all_goals
  obtain ⟨A1,c1,rfl⟩:=Sl.form hS
  refine zY [] 9 (gV (T:=69) (sz:=11) (⟨b46,(evV ⟨r,yE r.rt,false⟩).cells,69⟩::[⟨b4,ZM,24⟩,⟨b3,(rvV r).cells,47⟩,hvB b2 x]) o1 [] 0 (⟨b46,(evV ⟨r,yE r.rt,false⟩).cells,69⟩::(([⟨b4,ZM,24⟩,⟨b3,(rvV r).cells,47⟩,hvB b2 x]:List Blk)++o1++[])) [⟨b4,ZM,24⟩,⟨b3,(rvV r).cells,47⟩,hvB b2 x] (λw hO=>hO.cast (by simp only [List.append_assoc,List.cons_append,List.nil_append])) (λo w hO=>(hO.sublist (List.sublist_append_left _ _)).sublist (List.Sublist.trans (List.sublist_cons_self _ _) (List.sublist_append_left _ _))) hS (m:=1) (cp:=1) Om λv2 o2 hS2=> ?_)
  obtain ⟨A2,c2,rfl⟩:=Sl.form hS2
  have e1:0+x.es.length+1=(x.es++[(⟨r,yE r.rt,false⟩:Ev)]).length:=by rw [List.length_append,List.length_singleton];omega
  have e2:[]++x.es.flatMap evC++(evV ⟨r,yE r.rt,false⟩).cells.toList=(x.es++[(⟨r,yE r.rt,false⟩:Ev)]).flatMap evC:=by rw [List.flatMap_append,List.flatMap_singleton];rfl
  refine nJ [1] 1 (.agg #[.string (mkS x.name),.slice A2 (0+x.es.length+1) c2]) (YI 0) λw hO=> ?_
  have hO':=hO.past 4 (o2++[])
  clear hO
  have hS3:∀ k,0+x.es.length+1=k->k=(x.es++[(⟨r,yE r.rt,false⟩:Ev)]).length→∃ v ob,Ending.returned (.tuple #[.agg #[.string (mkS x.name),.slice A2 k c2],YI 0])= .returned v/\(((0:Int)=0∧∃ A c,v= .tuple #[hvV ⟨x.name,A,c,x.es++[⟨r,yE r.rt,false⟩]⟩,YI 0]/\Sl 69 11 (.slice A (x.es++[(⟨r,yE r.rt,false⟩:Ev)]).length c) (x.es++[(⟨r,yE r.rt,false⟩:Ev)]).length ((x.es++[(⟨r,yE r.rt,false⟩:Ev)]).flatMap evC) ob)\/((0:Int)≠0/\v= .tuple #[hvV hv0,YI 0]/\ob=[]))/\Own [] W w ob:=λk hk hk2=>by
   subst hk
   rw [hk2] at hS2 ⊢
   exact ⟨_,o2,rfl,.inl ⟨rfl,A2,c2,rfl,Sl.to hS2 rfl e2⟩,hO'.cast (by simp)⟩
  exact hS3 _ rfl e1
end
section
set_option linter.unnecessarySimpa false
theorem put_is {s:Sh}{r:Rt}(h:yS s)(hc:(zN r).1=0)(hl:s.es.length<64):nX s r=if yD s.es r.name r.ver= -1 then (⟨s.name,s.es++[⟨r,yE r,false⟩]⟩,0) else (nilSh,8):=by
 unfold nX
 rw [if_pos h,if_pos hc,if_neg (show ¬ s.es.length=64 by omega)]
def kO:YL:=[111,110,101]
def s0v:Hv:=⟨[111,110,101],none,0,[]⟩
def r0v:Rv:=⟨[98],1,0,0,[],[],none,0,[],none,0,[],none,0,[]⟩
theorem r0_in (w:World):RcIn w w.heap.size r0v:=⟨λh=>absurd h (by decide),(λn h=>by cases h),(λn h=>by cases h),λh=>absurd h (by decide),⟨λh=>absurd h (by decide),(λn h=>by cases h),by decide,(λn h=>by cases h),(λn h=>by cases h),(λn h=>by cases h)⟩,by decide,(λn h=>by cases h),(λn h=>by cases h),by decide,⟨by decide,by decide,by decide⟩,(λn h=>by cases h),(λn h=>by cases h),(λn h=>by cases h)⟩
theorem chk0:(zN r0v.rt).1=0:=by kernel_rfl
def es0 (y:Bool):List Et:=[⟨r0v.rt,yE r0v.rt,y⟩]
end
section
set_option linter.unnecessarySimpa false
theorem RecO.inn {x:Rv}{ob L:List Blk}{M:List Nat}{W w:World}(h:RecO x ob)(hO:Own M W w L)(hs:∀ b∈ob,b∈L)(hB:BndR x.rt)(hF:FewR x.rt 4096):RcIn w w.heap.size x:=by
 obtain ⟨o1,o2,o4,o7,o8,rfl,h1,h4,h7⟩:=h
 exact rec_inn h1 h4 h7 hO (λb hb=>hs b (by simp [hb])) (λb hb=>hs b (by simp [hb])) (λb hb=>hs b (by simp [hb])) (λb hb=>hs b (by simp [hb])) (λb hb=>hs b (by simp [hb])) hB hF
def ParV (s:YL)(v:Value)(ob:List Blk):Prop:=∃ x,v= .tuple #[rvV x,YI (readT s).2.1,YI (readT s).2.2]/\x.rt=(readT s).1/\RecO x ob/\BndR x.rt/\FewR x.rt 4096
def awS1:YL:=[112,97,99,107,97,103,101,32,97,112,112,32,49,46,48,46,48,10,110,101,101,100,10,97,110,121,32,98,32,120,32,102,117,108,108,32,94,49,10,119,104,101,110,32,111,115,32,61,32,120,10,98,97,114,32,99,32,42,10,102,101,97,116,117,114,101,32,121,32,98,47,122,10]
def awS2:YL:=[112,97,99,107,97,103,101,32,97,112,112,32,49,46,48,46,48,10,97,110,121,32,98,32,45,32,102,117,108,108,32,42,10]
end
section
theorem nmF_word:∀ j,j<4->wdL (nmF j)=true/\(zI (nmF j)).1=1/\(zI (nmF j)).2.1=nmF j
 |0,_=>⟨by kernel_rfl,by kernel_rfl,by kernel_rfl⟩
 |1,_=>⟨by kernel_rfl,by kernel_rfl,by kernel_rfl⟩
 |2,_=>⟨by kernel_rfl,by kernel_rfl,by kernel_rfl⟩
 |3,_=>⟨by kernel_rfl,by kernel_rfl,by kernel_rfl⟩
theorem opt_kind:∀ j,j<4->(zI ([63]++kQ j)).1=2
 |0,_=>by kernel_rfl
 |1,_=>by kernel_rfl
 |2,_=>by kernel_rfl
 |3,_=>by kernel_rfl
theorem pull_kind:∀ j,j<5->(zI (y0 j++[47]++[120])).1=3
 |0,_=>by kernel_rfl
 |1,_=>by kernel_rfl
 |2,_=>by kernel_rfl
 |3,_=>by kernel_rfl
 |4,_=>by kernel_rfl
def four (a b c d:Bool):List YL:=(if a then [nmF 0] else [])++((if b then [nmF 1] else [])++((if c then [nmF 2] else [])++if d then [nmF 3] else []))
theorem rise_16:∀ a b c d,yX (four a b c d)=true:=by decide
theorem rise_four (keep:Nat->Bool):yX (((List.range 4).filter keep).map nmF)=true:=by
 have e:List.range 4=[0,1,2,3]:=rfl
 have h:=rise_16 (keep 0) (keep 1) (keep 2) (keep 3)
 rw [e]
 unfold four at h
 cases h0:keep 0<;>cases h1:keep 1<;>cases h2:keep 2<;>cases h3:keep 3<;>simp only [h0,h1,h2,h3] at h<;>simpa [List.filter,h0,h1,h2,h3] using h
theorem feats_may {own:Nat}{keep:Nat->Bool}{x:Rv}(h:RecG own keep x):qQ (y5 x.fts)=true:=by
 have hn:(y5 x.fts).map Ft.name=((List.range 4).filter keep).map nmF:=by
  rw [←h.fts.names];unfold y5;rw [List.map_map];rfl
 have hin:∀ f∈y5 x.fts,∃ j,j<4/\f.name=nmF j:=λf hf=>by
  have:f.name∈(y5 x.fts).map Ft.name:=List.mem_map_of_mem hf
  rw [hn] at this
  obtain ⟨j,hj,e⟩:=List.mem_map.1 this
  exact ⟨j,List.mem_range.1 (List.mem_filter.1 hj).1,e.symm⟩
 have his:∀ j,j<4->keep j=true->isT (y5 x.fts) (nmF j)=true:=λj hj hk=>by
  have:nmF j∈(y5 x.fts).map Ft.name:=by rw [hn];exact List.mem_map_of_mem (List.mem_filter.2 ⟨List.mem_range.2 hj,hk⟩)
  obtain ⟨f,hf,e⟩:=List.mem_map.1 this
  unfold isT findT
  rw [Bool.or_eq_true]
  exact .inr (List.findIdx?_isSome.trans (List.any_eq_true.2 ⟨f,hf,decide_eq_true e⟩))
 unfold qQ
 simp only [Bool.and_eq_true,decide_eq_true_eq,List.all_eq_true]
 refine ⟨⟨⟨?_,λf hf=> ?_⟩,by rw [hn];exact rise_four keep⟩,λf hf=> ?_⟩
 ·have e:=congrArg List.length hn
  rw [List.length_map,List.length_map] at e
  have:=List.length_filter_le keep (List.range 4)
  rw [List.length_range] at this;omega
 ·obtain ⟨j,hj,e⟩:=hin f hf
  rw [e];exact (nmF_word j hj).1
 ·obtain ⟨y,hy,rfl⟩:=List.mem_map.1 hf
  have hg:=h.fts.each y hy
  unfold x2
  simp only [Bool.and_eq_true,decide_eq_true_eq,List.all_eq_true]
  refine ⟨⟨Nat.le_trans hg.len Om,hg.rise⟩,λs hs=> ?_⟩
  unfold gK
  simp only [Bool.and_eq_true,Bool.or_eq_true,decide_eq_true_eq]
  rcases hg.all s hs with ⟨m,hm,hne,rfl⟩|⟨m,hm,w,hw,rfl⟩|⟨j,hj,hk,rfl⟩
  ·rcases (h.needs m hm).opt with e|⟨j,hj,e⟩
   ·exact absurd e hne
   ·rw [e,opt_kind j hj];exact ⟨by omega,.inl Om⟩
  ·have key:∀ (a:Bool) (u:Wv),mC own a u->(zI (u.name++[47]++[120])).1=3:=λa u hu=>by
    obtain ⟨k,_,e⟩:=hu.name
    rw [e];exact pull_kind _ Om
   have h3:(zI (w.name++[47]++[120])).1=3:=by
    rcases (h.needs m hm).any with ⟨u,e,hu⟩|⟨u,z,e,_,_⟩
    ·rw [hw] at e;injection e with e1 _;rw [e1];exact key _ _ hu
    ·rw [hw] at e;simp at e
   rw [h3];exact ⟨by omega,.inl Om⟩
  ·obtain ⟨_,k1,k2⟩:=nmF_word j hj
   rw [k1,k2];exact ⟨by omega,.inr (his j hj hk)⟩
end
section
theorem check_is {r:Rt}(h1:nmL r.name=true)(h2:r.ver.may=true)(h3:r.needs.length<=8)(h4:r.bars.length<=8)(h5:∀ n∈r.needs,xF r.name n=0)(h6:∀ b∈r.bars,gP r.name b=0)(h7:qQ r.fts=true)(h8:∀ f∈r.fts,y8 (yL r.needs) f.of=0)(h9:(yT r).length<=4096):zN r=(0,0):=by
 have hp:xE r=(0,0):=by
  unfold xE
  rw [kA h5,if_neg (by simp),kA h6,if_neg (by simp),if_neg (by simp [h7]),kA h8]
 unfold zN
 rw [if_neg (by simp [h1]),if_neg (by simp [h2]),if_neg Om,hp,if_neg (by simp),if_neg Om]
theorem few_all12:∀ op∈[(7:Int),6,3,1,2],∀ a:Nat,a<3→∀ b:Nat,b<2->x6 (Co.print ⟨op,3,⟨(a:Int),(b:Int),0,[],[]⟩⟩)=true:=by decide+kernel
theorem few_plain {t:YL}(h:FewT t):x6 t=true:=by
 rcases h with rfl|⟨c,hc,rfl⟩
 ·decide+kernel
 ·obtain ⟨a,b,ha,hb,hv⟩:=hc.v
  have e:c=⟨c.op,3,⟨(a:Int),(b:Int),0,[],[]⟩⟩:=by rw [←hv,←hc.parts]
  rw [e]
  refine few_all12 c.op ?_ a ha b hb
  rcases hc.op with e|e|e|e|e<;>rw [e]<;>decide
theorem when_all:∀ k:Nat,k<3→∀ c:Nat,c<2→∀ j:Nat,j<4->yM (bV k++fV c++kQ j)=true:=by decide+kernel
theorem mI {t:YL}(h:WhenT t):yM t=true:=by
 rcases h with rfl|⟨k,c,j,hk,rfl⟩
 ·decide+kernel
 ·have hj:∃ i,i<4/\kQ j=kQ i:=by
   by_cases h:j<4
   ·exact ⟨j,h,rfl⟩
   ·exact ⟨3,by decide,by unfold kQ;rw [if_neg Om,if_neg Om,if_neg Om];rfl⟩
  have hc:∃ i,i<2/\fV c=fV i:=by
   by_cases h:c<2
   ·exact ⟨c,h,rfl⟩
   ·exact ⟨1,by decide,by unfold fV;rw [if_neg Om];rfl⟩
  obtain ⟨i,hi,e⟩:=hj
  obtain ⟨d,hd,e2⟩:=hc
  rw [e,e2];exact when_all k hk d hd i hi
theorem nameT_apart:∀ a:Nat,a<5→∀ b:Nat,b<5->a≠b->y0 a≠y0 b:=by decide
theorem kind_opt:∀ j:Nat,j<4->zI ([63]++kQ j)=(2,kQ j,[]):=by decide+kernel
theorem kind_pull:∀ j:Nat,j<5->zI (y0 j++[47]++[120])=(3,y0 j,[120]):=by decide+kernel
theorem verG_all:∀ a:Nat,a<3→∀ b:Nat,b<2→∀ q∈[(([]:YL),([]:YL)),([114,99,46,49],[]),([],[55])],(Ver.mk a b 0 q.1 q.2).may=true/\(Ver.mk a b 0 q.1 q.2).print.length<=20:=by decide+kernel
theorem mH {own:Nat}{al:Bool}{u:Wv}(h:mC own al u):k6 (y0 (own % 5)) u.wt al=0:=by
 obtain ⟨k,hk,e⟩:=h.name
 have hne:u.name≠y0 (own % 5):=by rw [e];exact nameT_apart _ Om _ Om Om
 have hf:qM u.fs al=true:=by
  rcases h.fs with e|⟨ha,e|e⟩
  ·rw [e];cases al<;>decide
  ·rw [e,ha];decide
  ·rw [e,ha];decide
 unfold k6
 rw [if_neg (show ¬ nmL u.wt.name=false by rw [show u.wt.name=u.name from rfl,e,pB];simp),if_neg (show ¬ u.wt.name=_ from hne),if_neg (show ¬ x6 u.wt.rng=false by rw [show u.wt.rng=u.rng from rfl,few_plain h.rng];simp),if_neg (show ¬ qM u.wt.fs al=false by rw [show u.wt.fs=u.fs from rfl,hf];simp)]
theorem need_zero {own:YL}{n:Nt}(h1:n.any≠[])(h2:n.any.length<=3)(h3:∀ x∈n.any,k6 own x (decide (n.any.length=1))=0)(h4:yM n.wh=true)(h5:n.opt=[]\/wdL n.opt=true):xF own n=0:=by
 unfold xF
 rw [if_neg h1,if_neg Om,if_neg (by rw [gL h3];simp),if_neg (by simp [h4]),if_neg (λh=>by
  rcases h5 with e|e
  ·exact h.1 e
  ·rw [e] at h;exact absurd h.2 (by simp))]
theorem needG_zero {own:Nat}{n:Nv}(h:NeedG own n):xF (y0 (own % 5)) n.nt=0:=by
 have hop:n.nt.opt=[]\/wdL n.nt.opt=true:=by
  rcases h.opt with e|⟨j,_,e⟩
  ·exact .inl e
  ·exact .inr (by rw [show n.nt.opt=n.opt from rfl,e];exact wordT_ok j)
 rcases h.any with ⟨w,e,hw⟩|⟨w,u,e,hw,hu⟩
 ·have e':n.nt.any=[w.wt]:=by unfold Nv.nt;rw [e];rfl
  refine need_zero (by rw [e'];simp) (by rw [e'];simp) (λx hx=> ?_) (mI h.wh) hop
  rw [e'] at hx ⊢
  rw [List.mem_singleton.1 hx];exact mH hw
 ·have e':n.nt.any=[w.wt,u.wt]:=by unfold Nv.nt;rw [e];rfl
  refine need_zero (by rw [e'];simp) (by rw [e'];simp) (λx hx=> ?_) (mI h.wh) hop
  rw [e'] at hx ⊢
  simp only [List.mem_cons,List.not_mem_nil,or_false] at hx
  rcases hx with rfl|rfl
  ·exact mH hw
  ·exact mH hu
theorem barG_zero {own:Nat}{b:Bv}(h:BarG own b):gP (y0 (own % 5)) b.bt=0:=by
 obtain ⟨k,hk,e⟩:=h.name
 have hne:b.name≠y0 (own % 5):=by rw [e];exact nameT_apart _ Om _ Om Om
 unfold gP
 rw [if_neg (show ¬ nmL b.bt.name=false by rw [show b.bt.name=b.name from rfl,e,pB];simp),if_neg (show ¬ b.bt.name=_ from hne),if_neg (show ¬ x6 b.bt.rng=false by rw [show b.bt.rng=b.rng from rfl,few_plain h.rng];simp),if_neg (show ¬ yM b.bt.wh=false by rw [show b.bt.wh=b.wh from rfl,mI h.wh];simp)]
theorem item_zero {own:Nat}{keep:Nat->Bool}{x:Rv}(h:RecG own keep x){s:YL}(hs:ItemG x.needs keep s):yL x.rt.needs s=0/\s.length<=7:=by
 unfold yL wordOf
 rcases hs with ⟨m,hm,hne,rfl⟩|⟨m,hm,w,hw,rfl⟩|⟨j,hj,hk,rfl⟩
 ·rcases (h.needs m hm).opt with e|⟨j,hj,e⟩
  ·exact absurd e hne
  ·have ho:optR x.rt.needs m.opt=true:=by
    unfold optR
    exact List.any_eq_true.2 ⟨m.nt,List.mem_map_of_mem hm,decide_eq_true rfl⟩
   have h4:=mF j
   rw [e] at ho ⊢
   rw [kind_opt j hj]
   refine ⟨?_,by rw [List.length_append];simp only [List.length_cons,List.length_nil];omega⟩
   rw [if_neg (λq=>by rw [ho] at q;exact absurd q.2 (by simp)),if_neg (λq=>absurd (show (2:Int)=3 from q.1) (by decide))]
 ·have key:∃ a,mC own a w:=by
   rcases (h.needs m hm).any with ⟨u,e,hu⟩|⟨u,z,e,_,_⟩
   ·rw [hw] at e;injection e with e1 _;exact ⟨true,e1▸hu⟩
   ·rw [hw] at e;simp at e
  obtain ⟨a,hu⟩:=key
  obtain ⟨k,hk,e⟩:=hu.name
  have hp:pulR x.rt.needs w.name=true:=by
   unfold pulR
   refine List.any_eq_true.2 ⟨m.nt,List.mem_map_of_mem hm, ?_⟩
   unfold nY Nv.nt
   rw [hw]
   exact decide_eq_true rfl
  have h4:=nameT_len ((own+1+k) % 5)
  rw [e] at hp ⊢
  rw [kind_pull _ Om]
  refine ⟨?_,by simp only [List.length_append,List.length_cons,List.length_nil];omega⟩
  rw [if_neg (λq=>absurd (show (3:Int)=2 from q.1) (by decide)),if_neg (λq=>by rw [hp] at q;exact absurd q.2 (by simp))]
 ·obtain ⟨_,k1,_⟩:=nmF_word j hj
  rw [k1]
  refine ⟨by rw [if_neg (λq=>absurd q.1 (by decide)),if_neg (λq=>absurd q.1 (by decide))], ?_⟩
  unfold nmF dfl
  repeat' split
  all_goals simp
theorem rec_good {own:Nat}{keep:Nat->Bool}{x:Rv}(h:RecG own keep x):zN x.rt=(0,0)/\(yT x.rt).length<=3000:=by
 have hn:nmL x.rt.name=true:=by rw [show x.rt.name=x.name from rfl,h.name];exact pB _
 obtain ⟨a,b,ha,hb,e1,e2,e3⟩:=h.ver
 have hv:x.rt.ver.may=true/\x.rt.ver.print.length<=20:=by
  have e:x.rt.ver=Ver.mk a b 0 x.pre x.bld:=by show Ver.mk x.maj x.min x.pat x.pre x.bld=_;rw [e1,e2,e3]
  rw [e]
  refine verG_all a ha b hb (x.pre,x.bld) ?_
  rcases h.pb with ⟨e,e'⟩|⟨e,e'⟩|⟨e,e'⟩<;>rw [e,e']<;>simp
 have hN:∀ n∈x.rt.needs,xF x.rt.name n=0:=λn hn=>by
  obtain ⟨m,hm,rfl⟩:=List.mem_map.1 hn
  rw [show x.rt.name=x.name from rfl,h.name];exact needG_zero (h.needs m hm)
 have hB:∀ n∈x.rt.bars,gP x.rt.name n=0:=λn hn=>by
  obtain ⟨m,hm,rfl⟩:=List.mem_map.1 hn
  rw [show x.rt.name=x.name from rfl,h.name];exact barG_zero (h.bars m hm)
 have hF:∀ f∈x.rt.fts,y8 (yL x.rt.needs) f.of=0/\(xM f).length<=57:=λf hf=>by
  obtain ⟨y,hy,rfl⟩:=List.mem_map.1 hf
  have hg:=h.fts.each y hy
  refine ⟨gL λs hs=>(item_zero h (hg.all s hs)).1, ?_⟩
  have hnm:y.name.length<=7:=by
   have:y.name∈x.fts.map Fv.name:=List.mem_map_of_mem hy
   rw [h.fts.names] at this
   obtain ⟨j,hj,e⟩:=List.mem_map.1 this
   rw [←e]
   unfold nmF dfl
   repeat' split
   all_goals simp
  have:=jn_most 32 7 (l:=x1::y.name::y.of) λs hs=>by
   rcases List.mem_cons.1 hs with rfl|hs
   ·decide
   ·rcases List.mem_cons.1 hs with rfl|hs
    ·exact hnm
    ·exact (item_zero h (hg.all s hs)).2
  have hl:=hg.len
  show (zE 32 (x1::y.name::y.of)++[10]).length<=57
  simp only [List.length_append,List.length_cons,List.length_nil] at this ⊢
  omega
 have l1:x.rt.needs.length<=2:=by rw [show x.rt.needs.length=x.needs.length from List.length_map ..];exact h.nlen
 have l2:x.rt.bars.length<=1:=by rw [show x.rt.bars.length=x.bars.length from List.length_map ..];exact h.blen
 have l3:x.rt.fts.length<=4:=by
  have e:=congrArg List.length h.fts.names
  rw [List.length_map,List.length_map] at e
  have:=List.length_filter_le keep (List.range 4)
  rw [List.length_range] at this
  rw [show x.rt.fts.length=x.fts.length from List.length_map ..];omega
 have hT:(yT x.rt).length<=3000:=by
  have k1:=wI x8 900 (l:=x.rt.needs) λn hx=>needT_short (hN n hx)
  have k2:=wI qB 300 (l:=x.rt.bars) λn hx=>barT_short (hB n hx)
  have k3:=wI xM 57 (l:=x.rt.fts) λf hx=>(hF f hx).2
  have k4:=gZ hn
  unfold yT gB
  simp only [List.length_append,txPack,List.length_cons,List.length_nil];omega
 exact ⟨check_is hn hv.1 Om Om hN hB (feats_may h) (λf hf=>(hF f hf).1) Om,hT⟩
end
section
def moreV (r:Rt):Rt:={r with ver:={r.ver with maj:=r.ver.maj+1}}
def bareR12 (r:Rt):Rt:={r with fts:=[]}
def zoo:Bt:=⟨[122,111,111],[42],[]⟩
end
section
set_option linter.unnecessarySimpa false
structure MadeR (x:Rv)(ob:List Blk):Prop where
 mem:RecO x ob
 gen:∃ own keep,RecG own keep x
 chk:zN x.rt=(0,0)
 len:(yT x.rt).length<=3000
 bnd:BndR x.rt
 few:FewR x.rt 4096
theorem made_of {x:Rv}{ob:List Blk}{own:Nat}{keep:Nat->Bool}(h:RecG own keep x)(hR:RecO x ob):MadeR x ob:=by
 obtain ⟨g1,g2⟩:=rec_good h
 have hb:=chk_bnd (r:=x.rt) (by rw [g1])
 exact ⟨hR,⟨own,keep,h⟩,g1,g2,hb.1,hb.2⟩
theorem MadeR.inn {x:Rv}{ob L:List Blk}{M:List Nat}{W w:World}(h:MadeR x ob)(hO:Own M W w L)(hs:∀ b∈ob,b∈L):RcIn w w.heap.size x:=h.mem.inn hO hs h.bnd h.few
end
section
set_option linter.unnecessarySimpa false
structure MadeN (nm:YL)(y:Hv)(o1 o2:List Blk):Prop where
 may:yS y.sh
 name:y.name=nm
 own:LsO 69 11 evC esO y.A y.cap y.es o1 o2
 gen:∀ e∈y.es,∃ own keep,RecG own keep e.rec'
abbrev MadeS:=MadeN kO
theorem MadeN.sho {nm:YL}{y:Hv}{o1 o2:List Blk}(h:MadeN nm y o1 o2):ShO y (o1++o2):=⟨o1,o2,rfl,h.own⟩
theorem LsO.more {A A':Option Addr}{c c':Nat}{xs:List Ev}{o1 o1' o2 ob:List Blk}{x:Ev}(h:LsO 69 11 evC esO A c xs o1 o2)(ht:Sl 69 11 (.slice A' (xs.length+1) c') (xs.length+1) ((xs++[x]).flatMap evC) o1')(hx:esO x ob):LsO 69 11 evC esO A' c' (xs++[x]) o1' (o2++ob):=
 h.add (by rw [List.flatMap_append,List.flatMap_singleton] at ht;exact ht) hx
theorem shelf_genN (v:Value)(l:List Int)(i0:Nat)(nm:YL)(most:Nat)(W:World)(hv:ReadsI W W.heap.size v l)(hl:l.length<=9223372036854775807)(hm:most<=8)(hi0:i0+82*most<=1000)(hnm0:nmL nm=true):YC 15 #[v,YI (i0:Int),.string (mkS nm),YI (most:Int)] W λe w'=>∃ v' ob,e= .returned v'/\(∃ y o1 o2,v'=hvV y/\ob=o1++o2/\MadeN nm y o1 o2/\y.es.length<=most)/\Own [] W w' ob:=by
 obtain ⟨n,hn,hnm⟩:=yG (atL l i0) (most+1) Om
 have f0:=x3 hv hl i0 ((most+1:Nat):Int) Om Om Om hn
 refine z8 Tryz.func15 (zS [] λb8=>zS [] λb9=> ?_)
 refine zO (α:=Nat×Hv×List Blk×List Blk) (λ(k,y,o1,o2)=>[(0,v),(1,YI (i0:Int)),(3,YI (most:Int)),(8,Zp b8 0),(9,Zp b9 0),(10,YI (k:Int))]) (λ(k,y,o1,o2)=>[hvB b9 y,⟨b8,ZM,24⟩]++(o1++o2)) (λ(k,y,o1,o2) m=>(k<=most/\MadeN nm y o1 o2/\y.es.length<=k)/\m=most-k) (0,⟨nm,none,0,[]⟩,[],[]) most [0] ⟨⟨Nat.zero_le _,⟨⟨hnm0,Nat.zero_le _,(λe h=>by cases h),List.Pairwise.nil⟩,rfl,LsO.nil,λe h=>by cases h⟩,Nat.le_refl _⟩,rfl⟩ ?_
 rintro ⟨k,y,o1,o2⟩ mm g kk ⟨⟨hk,hM,hlen⟩,hmm⟩ nx hkk
 subst hkk
 have hfin:∀ w,Own [] W w (o1++o2)→∃ v' ob,Ending.returned (hvV y)= .returned v'/\(∃ y o1 o2,v'=hvV y/\ob=o1++o2/\MadeN nm y o1 o2/\y.es.length<=most)/\Own [] W w ob:=λw hO=>⟨_,_,rfl,⟨y,o1,o2,rfl,rfl,hM,by omega⟩,hO⟩
 refine zD 18 [] ((k:Int)<(most:Int)) (λh18=>x_i 24 [] ((most+1:Nat):Int) (z6 [] (λw hO=>f0 w hO.below) (zD 26 [] ((k:Int)<(n:Int)) (λh26=> ?_) (λh26=> ?_)))) (λh18=> ?_)
 rotate_left
 ·exact j7 [0,1] 1 (hvV y) λw hO=>hfin w (hO.past 2 _)
 ·exact j7 [0,1] 1 (hvV y) λw hO=>hfin w (hO.past 2 _)
 obtain ⟨q,hq,hq4⟩:=yG (atL l (i0+1+82*k+80)) 4 (by decide)
 obtain ⟨r9,hr9,_⟩:=yG (atL l (i0+1+82*k+81)) 9 (by decide)
 have f1:=x3 hv hl (i0+1+82*k+80) 4 Om (by decide) (by decide) hq
 have f2:=x3 hv hl (i0+1+82*k+81) 9 Om (by decide) (by decide) hr9
 refine x_i 32 [] ((i0+1:Nat):Int) (x_i 34 [] ((82*k:Nat):Int) (x_i 35 [] ((i0+1+82*k:Nat):Int) (x_i 38 [] ((i0+1:Nat):Int) (x_i 40 [] ((82*k:Nat):Int) (x_i 41 [] ((i0+1+82*k:Nat):Int) (x_i 42 [] ((i0+1+82*k+80:Nat):Int) (z6 [] (λw hO=>f1 w hO.below) (x_i 44 [] ((1+q:Nat):Int) (xH (R:=λv ob=>∃ x,v=rvV x/\(∃ own keep,RecG own keep x)/\MadeR x ob) [] (λw hO=>(record_gen v l (i0+1+82*k) (1+q) w ((hv.below hO.below).more hO.below.size) hl Om Om).mono λe w' ⟨x,ob,q1,⟨q2,q3⟩,q4⟩=>⟨_,ob,q1,⟨x,rfl,⟨_,_,q2⟩,made_of q2 q3⟩,q4⟩) ?_)))))))))
 rintro _ obr ⟨x,rfl,hG,hX⟩
 have hc0:(zN x.rt).1=0:=by rw [hX.chk]
 have hyl:y.sh.es.length=y.es.length:=by simp [Hv.sh]
 have hpz:=put_is hM.may hc0 Om
 refine zS [] λb11=>xH (k:=44) (args:= #[hvV y,rvV x]) (R:=PutR13 y x) [0,1,0] (λw hO=> ?_) ?_
 ·have hO':=hO.past 3 ((o1++o2)++obr)
  clear hO
  exact r13Put_any y x w (hM.sho.inn hO' (λb hb=>List.mem_append_left _ hb) hM.may) (hX.inn hO' (λb hb=>List.mem_append_right _ hb))
 rintro v3 o3 hP
 rcases hP with ⟨hp0,A,c,rfl,hS⟩|⟨hp0,rfl,rfl⟩
 rotate_left
 ·generalize (nX y.sh x.rt).2=p at*
  refine zS [] λb12=>zD 53 [0] (p=0) (λh=>absurd h hp0) (λ_=>x_i 29 [] ((k+1:Nat):Int) (zP [] ([hvB b9 y,⟨b8,ZM,24⟩]++(o1++o2)) (λw hO=>own_cnt obr (hO.past 2 ([hvB b9 y,⟨b8,ZM,24⟩]++(o1++o2)++obr++[])) λf=>by simp only [List.countP_append,List.countP_cons,List.countP_nil,List.cons_append,List.nil_append];omega) (nx (k+1,y,o1,o2) (most-(k+1)) [] Om ⟨⟨by omega,hM,by omega⟩,rfl⟩ Kr Kr)))
 have hle1:(y.es++[(⟨x,yE x.rt,false⟩:Ev)]).length=y.es.length+1:=by simp
 obtain ⟨ga,cur,rfl,rfl,_⟩:=Sl.block hS Om
 rw [hle1] at hS
 obtain ⟨hS2,hfit⟩:=Sl.putLast gE hS ⟨x,yE x.rt,decide ((r9:Int)=1)⟩ 10 #[.bool (decide ((r9:Int)=1))] (by show 10+1<=11;omega) rfl
 have hpl:yD y.sh.es x.rt.name x.rt.ver= -1:=by
  apply Classical.byContradiction
  intro h
  rw [hpz,if_neg h] at hp0
  exact absurd hp0 (by decide)
 have hMay:yS (⟨y.name,some ⟨ga,0,none⟩,c,y.es++[⟨x,yE x.rt,decide ((r9:Int)=1)⟩]⟩:Hv).sh:=by
  refine may_core (s:=⟨y.sh.name,y.sh.es++[⟨x.rt,yE x.rt,false⟩]⟩) rfl ?_ (put_may hM.may hc0 hpl Om)
  simp [Hv.sh,Ev.et,coreE]
 have hNew:MadeN nm ⟨y.name,some ⟨ga,0,none⟩,c,y.es++[⟨x,yE x.rt,decide ((r9:Int)=1)⟩]⟩ [⟨ga,yR cur (y.es.length*11+10) #[.bool (decide ((r9:Int)=1))],69⟩] (o2++obr):=⟨hMay,hM.name,hM.own.more hS2 hX.mem,λe he=>by
  rcases List.mem_append.1 he with he|he
  ·exact hM.gen e he
  ·rw [List.mem_singleton.1 he];exact hG⟩
 refine zS [] λb12=>zP [0,0,2] ([⟨ga,cur,69⟩,⟨b9, #[.string (mkS y.name),.slice (some ⟨ga,0,none⟩) (y.es++[(⟨x,yE x.rt,false⟩:Ev)]).length c],24⟩,⟨b8,ZM,24⟩]++(o2++obr)) (λw hO=> ?_) ?_
 ·have hO':=hO.past 0 ([⟨b12, #[.string (mkS y.name),.slice (some ⟨ga,0,none⟩) (y.es++[(⟨x,yE x.rt,false⟩:Ev)]).length c],24⟩,rvB b11 x,⟨b9, #[.string (mkS y.name),.slice (some ⟨ga,0,none⟩) (y.es++[(⟨x,yE x.rt,false⟩:Ev)]).length c],24⟩,⟨b8,ZM,24⟩]++(o1++o2)++obr++[⟨ga,cur,69⟩])
  clear hO
  exact own_cnt (⟨b12, #[.string (mkS y.name),.slice (some ⟨ga,0,none⟩) (y.es++[(⟨x,yE x.rt,false⟩:Ev)]).length c],24⟩::rvB b11 x::o1) hO' λp=>by simp only [List.countP_append,List.countP_cons,List.countP_nil,List.cons_append,List.nil_append];omega
 refine gQ 16 [] [⟨b9, #[.string (mkS y.name),.slice (some ⟨ga,0,none⟩) (y.es++[(⟨x,yE x.rt,false⟩:Ev)]).length c],24⟩] (λw hO=>hO.nth 1 _) (vU 60 [0,0] (YI (IntKind.i64.wrap (((y.es++[(⟨x,yE x.rt,false⟩:Ev)]).length:Int) -1))) (YI ((y.es.length:Nat):Int)) (by rw [hle1,IntWalk.i64_in _ Om];congr 1;omega) (x_i 63 [] ((i0+1:Nat):Int) (x_i 65 [] ((82*k:Nat):Int) (x_i 66 [] ((i0+1+82*k:Nat):Int) (x_i 67 [] ((i0+1+82*k+81:Nat):Int) (zY [] 13 (z6 [] (λw hO=>f2 w hO.below) (bQ 50070 [] 15 (b:=ga) (off:=0) rfl (y.es++[(⟨x,yE x.rt,false⟩:Ev)]).length c y.es.length 11 Om ?_))))))))
 refine vU 71 [] (Zp ga (0+(y.es.length:Int).toNat*11+10)) (Zp ga (y.es.length*11+10)) (by rw [Int.toNat_natCast,Nat.zero_add]) (x_sto 0 ⟨ga,cur,69⟩ (y.es.length*11+10) 1 (.bool (decide ((r9:Int)=1))) ([⟨ga,cur,69⟩,⟨b9, #[.string (mkS y.name),.slice (some ⟨ga,0,none⟩) (y.es++[(⟨x,yE x.rt,false⟩:Ev)]).length c],24⟩,⟨b8,ZM,24⟩]++(o2++obr)) hfit ?_)
 refine x_i 29 [] ((k+1:Nat):Int) (zP [] ([⟨b9, #[.string (mkS y.name),.slice (some ⟨ga,0,none⟩) (y.es++[(⟨x,yE x.rt,decide ((r9:Int)=1)⟩:Ev)]).length c],24⟩,⟨b8,ZM,24⟩]++([⟨ga,yR cur (y.es.length*11+10) #[.bool (decide ((r9:Int)=1))],69⟩]++(o2++obr))) (λw hO=> ?_) ?_)
 ·have hO':=hO.past 0 ([⟨ga,yR cur (y.es.length*11+10) (Value.bool (decide ((r9:Int)=1))).cells,69⟩,⟨b9, #[.string (mkS y.name),.slice (some ⟨ga,0,none⟩) (y.es++[(⟨x,yE x.rt,false⟩:Ev)]).length c],24⟩,⟨b8,ZM,24⟩]++(o2++obr))
  clear hO
  have e2:(y.es++[(⟨x,yE x.rt,false⟩:Ev)]).length=(y.es++[(⟨x,yE x.rt,decide ((r9:Int)=1)⟩:Ev)]).length:=by simp
  rw [e2] at hO'
  exact own_cnt [] hO' λp=>by
   show List.countP p ([⟨ga,yR cur (y.es.length*11+10) #[.bool (decide ((r9:Int)=1))],69⟩,⟨b9, #[.string (mkS y.name),.slice (some ⟨ga,0,none⟩) (y.es++[(⟨x,yE x.rt,decide ((r9:Int)=1)⟩:Ev)]).length c],24⟩,⟨b8,ZM,24⟩]++(o2++obr))=_
   simp only [List.countP_append,List.countP_cons,List.countP_nil,List.cons_append,List.nil_append];omega
 exact nx (k+1,⟨y.name,some ⟨ga,0,none⟩,c,y.es++[⟨x,yE x.rt,decide ((r9:Int)=1)⟩]⟩,[⟨ga,yR cur (y.es.length*11+10) #[.bool (decide ((r9:Int)=1))],69⟩],o2++obr) (most-(k+1)) [] Om ⟨⟨by omega,hNew,by simp;omega⟩,rfl⟩ Kr Kr
end
section
set_option linter.unnecessarySimpa false
def gS:YL:=[116,119,111]
def zooN:YL:=[122,111,111]
theorem hvC_one (y:Hv):∀ u∈hvC y,u.oneCell'=true:=λu hu=>by
 simp only [hvC,List.mem_cons,List.not_mem_nil,or_false] at hu
 rcases hu with rfl|rfl<;>rfl
theorem ps_nil (w:World):PsIn w w.heap.size none []:=⟨λh=>absurd h (by decide),(λp h=>by cases h),by decide⟩
theorem ps_one {w:World}{b:Nat}{fr:Nat×Nat}(p:Pn)(h1:p.name.length<=1000000)(h2:p.shelf.length<=1000000)(h:w.heap[b]?=some (.cells #[.string (mkS p.name),.string (mkS p.shelf)] 66 fr)):PsIn w w.heap.size (some ⟨b,0,none⟩) [p]:=
 ⟨Reads.lit9 h rfl,λq hq=>by rw [List.mem_singleton.1 hq];exact ⟨h1,h2⟩,by show 1<=5000;decide⟩
theorem same15_any (A B:Option Addr)(ca cb:Nat)(l:List Nat)(W:World)(ha:Reads (λi=>[vZ i]) W W.heap.size A l)(hb:Reads (λi=>[vZ i]) W W.heap.size B l)(hn:l.length<=5000):YC 29 #[.slice A l.length ca,.slice B l.length cb] W (YR (.bool true) W):=by
 refine z8 Tryz.func29 (kT 10 [] ((l.length:Int)=(l.length:Int)) (λ_=> ?_) (λh=>absurd rfl h))
 refine zO (α:=Nat) (λi=>[(0,.slice A l.length ca),(1,.slice B l.length cb),(5,YI (i:Int))]) (λ_=>[]) (λi m=>i<=l.length/\m=l.length-i) 0 l.length [] ⟨Nat.zero_le _,rfl⟩ ?_
 rintro i mm g kk ⟨hi,hmm⟩ nx hkk
 subst hkk
 refine zD 14 [] ((i:Int)<(l.length:Int)) (λh14=> ?_) (λh14=> ?_)
 rotate_left
 ·exact z7 [] Z4 λw hO=>⟨rfl,hO.below⟩
 have hj:i<l.length:=by omega
 obtain ⟨ab,ao,hA,hel⟩:=ha.elem (sz:=1) (λ_=>rfl) i hj
 obtain ⟨bb,bo,hB,hel2⟩:=hb.elem (sz:=1) (λ_=>rfl) i hj
 have q1:∀ w,YB W w->(loadVar 3 ⟨ab,ao+i*1+0,none⟩).run YP w= .ok (YI (l[i]:Int)) w:=λw hw=>hel w hw _ 0 _ Kr
 have q2:∀ w,YB W w->(loadVar 3 ⟨bb,bo+i*1+0,none⟩).run YP w= .ok (YI (l[i]:Int)) w:=λw hw=>hel2 w hw _ 0 _ Kr
 generalize l[i]=p at*
 refine zK 19 [] hA l.length ca i 1 hj (zH 20 [] 3 ab (ao+i*1+0) (YI (p:Int)) (λw hO=>q1 w hO.below) (zK 23 [] hB l.length cb i 1 hj (zH 24 [] 3 bb (bo+i*1+0) (YI (p:Int)) (λw hO=>q2 w hO.below) (kT 25 [] ((p:Int)=(p:Int)) (λ_=> ?_) (λh=>absurd rfl h)))))
 exact x_i 5 [] ((i+1:Nat):Int) (nx (i+1) (l.length-(i+1)) [] Om ⟨hj,rfl⟩ Kr Kr)
structure ShopG (A:Option Addr)(c:Nat)(xs:List Hv)(o1 o2:List Blk):Prop where
 own:LsO 24 2 hvC ShO A c xs o1 o2
 may:q6 (shs xs)=true
 few:xs.length<=2
 names:∀ x∈xs,x.name=kO\/x.name=gS
 nodup:xs.Pairwise λa b=>a.name≠b.name
theorem ls_in {w:World}{A:Option Addr}{c:Nat}{xs:List Hv}{o1 o2 L:List Blk}{M:List Nat}{W:World}(h:LsO 24 2 hvC ShO A c xs o1 o2)(hM:∀ x∈xs,yS x.sh)(hn:xs.length<=5000)(hO:Own M W w L)(hs:∀ b∈o1++o2,b∈L):HsIn w w.heap.size A xs:=
 ⟨Sl.reads h.top rfl hO λb hb=>hs b (List.mem_append_left _ hb),λx hx=>by
  obtain ⟨o,h1,h2⟩:=h.each x hx
  exact h1.inn hO (λb hb=>hs b (List.mem_append_right _ (h2 b hb))) (hM x hx),hn⟩
theorem may_of {xs:List Hv}(hl:xs.length<=4)(hM:∀ x∈xs,yS x.sh)(hd:xs.Pairwise λa b=>a.name≠b.name):q6 (shs xs)=true:=by
 refine mayH_of (by rw [List.length_map];exact hl) λi hi=> ?_
 have hi':i<xs.length:=by rw [List.length_map] at hi;exact hi
 refine ⟨by rw [List.getElem_map];exact hM _ (List.getElem_mem hi'),nmd_at hi λj hj=> ?_⟩
 rw [List.getElem_map,List.getElem_map]
 exact List.pairwise_iff_getElem.1 hd j i Om hi' hj
theorem may_all {xs:List Hv}(h:q6 (shs xs)=true):∀ x∈xs,yS x.sh:=λx hx=>by
 obtain ⟨i,hi,rfl⟩:=List.getElem_of_mem hx
 have:=(mayH_ok h (i:=i) (by rw [List.length_map];exact hi)).1
 rw [List.getElem_map] at this;exact this
theorem shop_gen (v:Value)(l:List Int)(W:World)(hv:ReadsI W W.heap.size v l)(hl:l.length<=9223372036854775807):YC 30 #[v,YI 0] W λe w'=>∃ v' ob,e= .returned v'/\(∃ A c xs o1 o2,v'= .slice A xs.length c/\ob=o1++o2/\ShopG A c xs o1 o2)/\Own [] W w' ob:=by
 obtain ⟨k,hk,hk3⟩:=yG (atL l 0) 3 (by decide)
 have f0:=x3 hv hl 0 3 Om (by decide) (by decide) hk
 refine z8 Tryz.func30 (x_i 8 [] 1 (xH (k:=15) (args:= #[v,YI ((1:Nat):Int),.string (mkS kO),YI ((8:Nat):Int)]) (R:=λv ob=>∃ y o1 o2,v=hvV y/\ob=o1++o2/\MadeN kO y o1 o2/\y.es.length<=8) [] (λw hO=>shelf_genN v l 1 kO 8 w ((hv.below hO.below).more hO.below.size) hl (by decide) (by decide) Kr) ?_))
 rintro _ _ ⟨y,o1,o2,rfl,rfl,hY,_⟩
 have hyO:=hY.sho
 have hyM:=hY.may
 have hyN:=hY.name
 clear hY
 generalize o1++o2=o at*
 refine gX [] 1 24 #[.string (mkS y.name),.slice y.A y.es.length y.cap] λbl=>(z6 (v:=YI (k:Int)) [] (λw hO=>f0 w hO.below) (zD 14 [] ((k:Int)=1) (λh14=> ?_) (λh14=> ?_)))
 rotate_left
 ·refine z7 [] (.slice (some ⟨bl,0,none⟩) 1 1) λw hO=>⟨_,_,rfl,⟨some ⟨bl,0,none⟩,1,[y],[hvB bl y],o,rfl,rfl,⟨dM rfl (by show 1<=maxLen;decide),λx hx=>by rw [List.mem_singleton.1 hx];exact ⟨o,hyO,λb hb=>hb⟩⟩,may_of (by show 1<=4;decide) (λx hx=>by rw [List.mem_singleton.1 hx];exact hyM) (List.pairwise_singleton _ _),by show 1<=2;decide,λx hx=>by rw [List.mem_singleton.1 hx];exact .inl hyN,List.pairwise_singleton _ _⟩,hO.past 0 ([hvB bl y]++o)⟩
 refine x_i 18 [] 660 (xH (k:=15) (args:= #[v,YI ((660:Nat):Int),.string (mkS gS),YI ((4:Nat):Int)]) (R:=λv ob=>∃ y o1 o2,v=hvV y/\ob=o1++o2/\MadeN gS y o1 o2/\y.es.length<=4) [] (λw hO=>shelf_genN v l 660 gS 4 w ((hv.below hO.below).more hO.below.size) hl (by decide) (by decide) Kr) ?_)
 rintro _ _ ⟨z,p1,p2,rfl,rfl,hZ,_⟩
 have hzO:=hZ.sho
 have hzM:=hZ.may
 have hzN:=hZ.name
 clear hZ
 generalize p1++p2=p at*
 refine gX [] 1 24 #[.string (mkS z.name),.slice z.A z.es.length z.cap] λbm=>(x_app (T:=24) (sz:=2) (m:=1) (cp:=1) [] [hvB bm z] [hvB bl y] (o++p) 0 (hvB bm z::hvB bl y::(o++p)) (λw hO=>hO) (dM (N:=1) rfl (by show 1<=maxLen;decide)) (by decide) λv' ob' hS=> ?_)
 obtain ⟨A',c',rfl⟩:=Sl.form hS
 refine z7 [] (.slice A' (1+1) c') λw hO=> ?_
 have hO':=hO.past 1 (ob'++(o++p))
 clear hO
 exact ⟨_,_,rfl,⟨A',c',[y,z],ob',o++p,rfl,rfl,⟨hS,λx hx=>by
  simp only [List.mem_cons,List.not_mem_nil,or_false] at hx
  rcases hx with rfl|rfl
  ·exact ⟨o,hyO,λb hb=>List.mem_append_left _ hb⟩
  ·exact ⟨p,hzO,λb hb=>List.mem_append_right _ hb⟩⟩,may_of (by show 2<=4;decide) (λx hx=>by
  simp only [List.mem_cons,List.not_mem_nil,or_false] at hx
  rcases hx with rfl|rfl
  ·exact hyM
  ·exact hzM) (by rw [List.pairwise_pair,hyN,hzN];decide),by show 2<=2;decide,λx hx=>by
  simp only [List.mem_cons,List.not_mem_nil,or_false] at hx
  rcases hx with rfl|rfl
  ·exact .inl hyN
  ·exact .inr hzN,by rw [List.pairwise_pair,hyN,hzN];decide⟩,hO'⟩
theorem mayN0 {nm:YL}(h:nmL nm=true):yS ⟨nm,[]⟩:=⟨h,Nat.zero_le _,(λe h=>by cases h),List.Pairwise.nil⟩
theorem mayN1 {nm:YL}(h:nmL nm=true):yS ⟨nm,es0 false⟩:=may_core (s:=⟨nm,es0 false⟩) rfl rfl (put_may (mayN0 h) chk0 (place_none.2 (λe h=>by cases h)) (by show 0<64;decide))
theorem putN0 {nm:YL}(h:nmL nm=true):nX ⟨nm,[]⟩ r0v.rt=(⟨nm,es0 false⟩,0):=by
 rw [put_is (mayN0 h) chk0 (by show 0<64;decide),if_pos (place_none.2 (λe h=>by cases h))];rfl
def hv1 (nm:YL)(A:Option Addr)(c:Nat):Hv:=⟨nm,A,c,[⟨r0v,yE r0v.rt,false⟩]⟩
theorem put13 {nm:YL}(h:nmL nm=true){v:Value}{ob:List Blk}(hP:PutR13 ⟨nm,none,0,[]⟩ r0v v ob):∃ A c,v= .tuple #[hvV (hv1 nm A c),YI 0]/\Sl 69 11 (.slice A 1 c) 1 (evC ⟨r0v,yE r0v.rt,false⟩) ob:=by
 have e:(nX (⟨nm,none,0,[]⟩:Hv).sh r0v.rt).2=0:=by rw [show (⟨nm,none,0,[]⟩:Hv).sh=⟨nm,[]⟩ from rfl,putN0 h]
 rcases hP with ⟨_,A,c,rfl,hS⟩|⟨h0,_⟩
 ·exact ⟨A,c,rfl,Sl.to hS rfl (by simp)⟩
 ·exact absurd e h0
theorem hv1_in {nm:YL}(h:nmL nm=true){A:Option Addr}{c:Nat}{ob L:List Blk}{M:List Nat}{W w:World}(hS:Sl 69 11 (.slice A 1 c) 1 (evC ⟨r0v,yE r0v.rt,false⟩) ob)(hO:Own M W w L)(hs:∀ b∈ob,b∈L):ShIn w w.heap.size (hv1 nm A c):=
 ⟨⟨Sl.reads (g:=evC) (n:=1) (l:=[⟨r0v,yE r0v.rt,false⟩]) (by rw [List.flatMap_singleton];exact hS) rfl hO hs,λe he=>by rw [List.mem_singleton.1 he];exact r0_in w,by show 1<=5000;decide⟩,by obtain ⟨_,_,_,_,h,_⟩:=Sl.block hS (by decide);exact h,Nat.le_trans (gZ h) (by decide)⟩
theorem oneN_ok:nmL kO=true:=by kernel_rfl
theorem twoN_ok:nmL gS=true:=by kernel_rfl
def shA:Sh:=⟨kO,es0 false⟩
def shB:Sh:=⟨gS,es0 false⟩
theorem ab_may:q6 [shA,shB]=true:=mayH_of (by decide) λi hi=>by
 rcases i with _|_|i
 ·exact ⟨mayN1 oneN_ok,nmd_at hi λj hj=>by omega⟩
 ·exact ⟨mayN1 twoN_ok,nmd_at hi λj hj=>by
   obtain rfl:j=0:=by omega
   show kO≠gS;decide⟩
 ·exact absurd hi (by show ¬ i+1+1<2;omega)
theorem aa_may:q6 [shA,shA]=false:=Bool.eq_false_iff.2 λh=>by
 have h2:=(mayH_ok h (i:=1) (by decide)).2
 have h3:g6 [shA,shA] shA.name=(((0:Nat):Int),0):=wQ (i:=0) (by decide) (λx hx=>by simp at hx) (by show decide (shA.name=shA.name)=true;simp)
 rw [show ([shA,shA]:List Sh)[1].name=shA.name from rfl,h3] at h2
 exact absurd (congrArg Prod.fst h2) (by decide)
theorem ab_has:yK [shA,shB] [] [98]=(0,0):=by
 rw [from_nil ab_may];exact wQ (i:=0) (by decide) (λx hx=>by simp at hx) Kr
theorem ab_pin:yK [shA,shB] [⟨[98],gS⟩] [98]=(1,0):=by
 unfold yK
 rw [if_pos ab_may,if_pos Kr,if_pos Kr]
 show g6 [shA,shB] gS=_
 exact wQ (i:=1) (by decide) (λx hx=>by
  have:x=shA:=by simpa using hx
  subst this;decide) (by decide)
theorem ab_no:yK [shA,shB] [] [99]=(0,9):=by
 rw [from_nil ab_may];exact jZ λx hx=>by
  simp only [List.mem_cons,List.not_mem_nil,or_false] at hx
  rcases hx with rfl|rfl<;>kernel_rfl
theorem awake15_any (W:World)(hK:RecLib W):YC 22 #[] W (YR (.bool true) W):=by
 have cPut:∀ nm,nmL nm=true→∀ w,YC 44 #[hvV ⟨nm,none,0,[]⟩,rvV r0v] w λe w'=>∃ v ob,e= .returned v/\(∃ A c,v= .tuple #[hvV (hv1 nm A c),YI 0]/\Sl 69 11 (.slice A 1 c) 1 (evC ⟨r0v,yE r0v.rt,false⟩) ob)/\Own [] w w' ob:=λnm hnm w=>
  (r13Put_any ⟨nm,none,0,[]⟩ r0v w ⟨⟨λh=>absurd h (Nat.lt_irrefl 0),(λe h=>by cases h),Nat.zero_le _⟩,Nat.le_refl _,Nat.le_trans (gZ hnm) (by decide)⟩ (r0_in w)).mono λe w' ⟨v,ob,q1,q2,q3⟩=>⟨v,ob,q1,put13 hnm q2,q3⟩
 refine z8 Tryz.func22 (zS [] λb1=>xH (R:=λv ob=>∃ A c,v= .tuple #[hvV (hv1 kO A c),YI 0]/\Sl 69 11 (.slice A 1 c) 1 (evC ⟨r0v,yE r0v.rt,false⟩) ob) [0,0] (λw hO=>cPut kO oneN_ok w) ?_)
 rintro _ oA ⟨A,ca,rfl,hA⟩
 refine zS [] λb2=>xH (R:=λv ob=>∃ A c,v= .tuple #[hvV (hv1 gS A c),YI 0]/\Sl 69 11 (.slice A 1 c) 1 (evC ⟨r0v,yE r0v.rt,false⟩) ob) [0,1] (λw hO=>cPut gS twoN_ok w) ?_
 rintro _ oB ⟨B,cb,rfl,hB⟩
 have hin:∀ w b fr,Own [] W w (oA++oB)->w.heap[b]?=some (.cells #[.string (mkS kO),.slice A 1 ca,.string (mkS gS),.slice B 1 cb] 24 fr)->HsIn w w.heap.size (some ⟨b,0,none⟩) [hv1 kO A ca,hv1 gS B cb]:=λw b fr hO hg=>⟨Reads.lit9 hg rfl,λx hx=>by
  simp only [List.mem_cons,List.not_mem_nil,or_false] at hx
  rcases hx with rfl|rfl
  ·exact hv1_in oneN_ok hA hO λb hb=>List.mem_append_left _ hb
  ·exact hv1_in twoN_ok hB hO λb hb=>List.mem_append_right _ hb,by show 2<=5000;decide⟩
 have hin2:∀ w b fr,Own [] W w (oA++oB)->w.heap[b]?=some (.cells #[.string (mkS kO),.slice A 1 ca,.string (mkS kO),.slice A 1 ca] 24 fr)->HsIn w w.heap.size (some ⟨b,0,none⟩) [hv1 kO A ca,hv1 kO A ca]:=λw b fr hO hg=>⟨Reads.lit9 hg rfl,λx hx=>by
  simp only [List.mem_cons,List.not_mem_nil,or_false] at hx
  rcases hx with rfl|rfl<;>exact hv1_in oneN_ok hA hO λb hb=>List.mem_append_left _ hb,by show 2<=5000;decide⟩
 have cF:∀ w b fr n z,yK [shA,shB] [] n=z->Own [] W w (oA++oB)->w.heap[b]?=some (.cells #[.string (mkS kO),.slice A 1 ca,.string (mkS gS),.slice B 1 cb] 24 fr)->YC 23 #[.slice (some ⟨b,0,none⟩) 2 2,.slice none 0 0,.string (mkS n)] w (YR (.tuple #[YI z.1,YI z.2]) w):=λw b fr n z hz hO hg=>by
  subst hz
  exact bW (some ⟨b,0,none⟩) none 2 0 [hv1 kO A ca,hv1 gS B cb] [] n w (hin w b fr hO hg) (ps_nil w) (hK.on hO.below)
 have cP:∀ w b fr b' fr',Own [] W w (oA++oB)->w.heap[b]?=some (.cells #[.string (mkS kO),.slice A 1 ca,.string (mkS gS),.slice B 1 cb] 24 fr)->w.heap[b']?=some (.cells #[.string (mkS [98]),.string (mkS gS)] 66 fr')->YC 23 #[.slice (some ⟨b,0,none⟩) 2 2,.slice (some ⟨b',0,none⟩) 1 1,.string (mkS [98])] w (YR (.tuple #[YI 1,YI 0]) w):=λw b fr b' fr' hO hg hp=>by
  have h:=bW (some ⟨b,0,none⟩) (some ⟨b',0,none⟩) 2 1 [hv1 kO A ca,hv1 gS B cb] [⟨[98],gS⟩] [98] w (hin w b fr hO hg) (ps_one ⟨[98],gS⟩ (by decide) (by decide) hp) (hK.on hO.below)
  rw [show shs [hv1 kO A ca,hv1 gS B cb]=[shA,shB] from rfl,ab_pin] at h;exact h
 have cM:∀ w b fr,Own [] W w (oA++oB)->w.heap[b]?=some (.cells #[.string (mkS kO),.slice A 1 ca,.string (mkS gS),.slice B 1 cb] 24 fr)->YC 27 #[.slice (some ⟨b,0,none⟩) 2 2] w (YR (.bool true) w):=λw b fr hO hg=>by
  have h:=fN (some ⟨b,0,none⟩) 2 [hv1 kO A ca,hv1 gS B cb] w (hin w b fr hO hg) (hK.on hO.below)
  rw [show shs [hv1 kO A ca,hv1 gS B cb]=[shA,shB] from rfl,ab_may] at h;exact h
 have cN:∀ w b fr,Own [] W w (oA++oB)->w.heap[b]?=some (.cells #[.string (mkS kO),.slice A 1 ca,.string (mkS kO),.slice A 1 ca] 24 fr)->YC 27 #[.slice (some ⟨b,0,none⟩) 2 2] w (YR (.bool false) w):=λw b fr hO hg=>by
  have h:=fN (some ⟨b,0,none⟩) 2 [hv1 kO A ca,hv1 kO A ca] w (hin2 w b fr hO hg) (hK.on hO.below)
  rw [show shs [hv1 kO A ca,hv1 kO A ca]=[shA,shA] from rfl,aa_may] at h;exact h
 clear hin hin2 cPut
 refine zS [] λb4=>gX [0,1,0] 2 24 #[.string (mkS kO),.slice A 1 ca,.string (mkS gS),.slice B 1 cb] λl1=> ?_
 refine z6 (v:= .tuple #[YI 0,YI 0]) [] (λw hO=>by
  have h1:=hO.past 4 (oA++oB)
  have h2:=(hO.nth 0 ⟨l1, #[.string (mkS kO),.slice A 1 ca,.string (mkS gS),.slice B 1 cb],24⟩).get (i:=0) rfl
  clear hO
  exact cF w l1 _ [98] (0,0) ab_has h1 h2) ?_
 refine gX [2,1] 2 24 #[.string (mkS kO),.slice A 1 ca,.string (mkS gS),.slice B 1 cb] λl2=>gX [] 1 66 #[.string (mkS [98]),.string (mkS gS)] λl3=> ?_
 refine z6 (v:= .tuple #[YI 1,YI 0]) [] (λw hO=>by
  have h1:=hO.past 6 (oA++oB)
  have h2:=(hO.nth 1 ⟨l2, #[.string (mkS kO),.slice A 1 ca,.string (mkS gS),.slice B 1 cb],24⟩).get (i:=0) rfl
  have h3:=(hO.nth 0 ⟨l3, #[.string (mkS [98]),.string (mkS gS)],66⟩).get (i:=0) rfl
  clear hO
  exact cP w l2 _ l3 _ h1 h2 h3) ?_
 refine gX [4,3] 2 24 #[.string (mkS kO),.slice A 1 ca,.string (mkS gS),.slice B 1 cb] λl4=> ?_
 refine z6 (v:= .tuple #[YI 0,YI 9]) [] (λw hO=>by
  have h1:=hO.past 7 (oA++oB)
  have h2:=(hO.nth 0 ⟨l4, #[.string (mkS kO),.slice A 1 ca,.string (mkS gS),.slice B 1 cb],24⟩).get (i:=0) rfl
  clear hO
  exact cF w l4 _ [99] (0,9) ab_no h1 h2) ?_
 refine gX [5,4] 2 24 #[.string (mkS kO),.slice A 1 ca,.string (mkS gS),.slice B 1 cb] λl5=> ?_
 refine z6 (v:= .bool true) [] (λw hO=>by
  have h1:=hO.past 8 (oA++oB)
  have h2:=(hO.nth 0 ⟨l5, #[.string (mkS kO),.slice A 1 ca,.string (mkS gS),.slice B 1 cb],24⟩).get (i:=0) rfl
  clear hO
  exact cM w l5 _ h1 h2) ?_
 refine gX [6,6] 2 24 #[.string (mkS kO),.slice A 1 ca,.string (mkS kO),.slice A 1 ca] λl6=> ?_
 exact z6 (v:= .bool false) [] (λw hO=>by
  have h1:=hO.past 9 (oA++oB)
  have h2:=(hO.nth 0 ⟨l6, #[.string (mkS kO),.slice A 1 ca,.string (mkS kO),.slice A 1 ca],24⟩).get (i:=0) rfl
  clear hO
  exact cN w l6 _ h1 h2) (z7 [] Z4 λw hO=>⟨rfl,hO.below⟩)
end
section
set_option linter.unnecessarySimpa false
theorem list_parts {xs:List Hv}{ps:List Pn}{n:YL}{v:Value}{ob:List Blk}(h:ListR xs ps n v ob):∃ (a:Int) (z:Int) (t:List Nat) (A:Option Addr) (c:Nat),v= .tuple #[YI a,.slice A t.length c,YI z]/\Sl 3 1 (.slice A t.length c) t.length (t.map vZ) ob/\((z≠0/\z=(yK (shs xs) ps n).2/\t=[])∨∃ i,∃ hi:i<xs.length,yK (shs xs) ps n=((i:Int),0)/\a=(i:Int)/\z=0/\wC xs[i].sh n t):=by
 rcases h with ⟨h0,rfl,rfl⟩|⟨i,hi,e,u,t,rfl,hS,hL⟩
 ·exact ⟨0,_,[],none,0,rfl,Sl.nil _ _,.inl ⟨h0,rfl,rfl⟩⟩
 ·obtain ⟨A,c,rfl⟩:=Sl.form hS
  exact ⟨(i:Int),0,t,A,c,rfl,hS,.inr ⟨i,hi,e,rfl,rfl,hL⟩⟩
theorem list_len {s:Sh}(hM:yS s){n:YL}{t:List Nat}(h:wC s n t):t.length<=5000:=by
 have h1:=h.1.length_eq
 have h2:=pF (l:=s.es) (n:=n) s.es.length
 have h3:=hM.few
 omega
theorem sl_ints {v:Option Addr}{c:Nat}{t:List Nat}{ob L:List Blk}{M:List Nat}{W w:World}(h:Sl 3 1 (.slice v t.length c) t.length (t.map vZ) ob)(hO:Own M W w L)(hs:∀ b∈ob,b∈L):Reads (λi=>[vZ i]) w w.heap.size v t:=
 Sl.reads (g:=λi=>[vZ i]) (by rw [←List.map_eq_flatMap];exact h) rfl hO hs
end
section
set_option linter.unnecessarySimpa false
def plI (r:Int×Int):Int:=if r.2=0 then r.1 else-1
theorem nmd_found {l:List Sh}{i:Nat}(hi:i<l.length):(g6 l l[i].name).2=0:=by
 rcases vP (λs:Sh=>decide (s.name=l[i].name)) l 12 with ⟨_,h2⟩|⟨j,hj,e,_,_⟩
 ·have:=h2 l[i] (List.getElem_mem hi);simp at this
 ·show (wD _ l 12).2=0;rw [e]
theorem place15_any (A:Option Addr)(cap:Nat)(xs:List Hv)(n:YL)(W:World)(hx:HsIn W W.heap.size A xs):YC 65 #[.slice A xs.length cap,.string (mkS n)] W (YR (YI (plI (g6 (shs xs) n))) W):=by
 have hn:=hx.n
 obtain ⟨r,hr⟩:∃ r,g6 (shs xs) n=r:=⟨_,rfl⟩
 have hend:(∀ y∈shs xs,decide (y.name=n)=false)->r=(0,12):=λh=>hr▸jZ h
 have hat:=λ(i:Nat) (hi:i<(shs xs).length)=>wQ (p:=λs:Sh=>decide (s.name=n)) (z:=12) hi
 change ∀ (i:Nat) (hi:i<(shs xs).length),(∀ x∈(shs xs).take i,decide (x.name=n)=false)->decide ((shs xs)[i].name=n)=true->g6 (shs xs) n=((i:Int),0) at hat
 rw [hr] at hat ⊢
 refine z8 Tryz.func65 (zO (α:=Nat) (λi=>[(0,.slice A xs.length cap),(1,.string (mkS n)),(5,YI (i:Int))]) (λ_=>[]) (λi m=>(i<=xs.length∧∀ y∈(shs xs).take i,decide (y.name=n)=false)/\m=xs.length-i) 0 xs.length [] ⟨⟨Nat.zero_le _,λy h=>by simp at h⟩,rfl⟩ ?_)
 rintro i mm g kk ⟨⟨hi,hno⟩,hmm⟩ nx hkk
 subst hkk
 refine zD 9 [] ((i:Int)<(xs.length:Int)) (λh9=> ?_) (λh9=> ?_)
 rotate_left
 ·exact z7 [] (YI (-1)) λw hO=>⟨by rw [hend (dQ (by rw [List.length_map];omega) hno)];rfl,hO.below⟩
 have hj:i<xs.length:=by omega
 have hjm:i<(shs xs).length:=by rw [List.length_map];omega
 obtain ⟨eb,eo,hA,hel⟩:=hx.top.elem wH i hj
 have hel0:∀ w,YB W w->(loadVar 9 ⟨eb,eo+i*2+0,none⟩).run YP w= .ok (.string (mkS xs[i].name)) w:=λw hw=>hel w hw _ 0 _ Kr
 have h1:=hat i hjm hno
 have h2:=qf_no (q:=λs:Sh=>decide (s.name=n)) hjm hno
 rw [List.getElem_map] at h1 h2
 have h1':xs[i].name=n->r=((i:Int),0):=λh=>h1 (decide_eq_true h)
 have h2':¬ xs[i].name=n→∀ y∈(shs xs).take (i+1),decide (y.name=n)=false:=λh=>h2 (decide_eq_false h)
 clear h1 h2
 generalize xs[i].name=s at*
 refine zK 14 [] hA xs.length cap i 2 hj (zH 16 [] 9 eb (eo+i*2+0) (.string (mkS s)) (λw hO=>hel0 w hO.below) (kJ 18 [] s n (λh=> ?_) (λh=> ?_)))
 ·exact z7 [] (YI (i:Int)) λw hO=>⟨by rw [h1' h];rfl,hO.below⟩
 ·exact x_i 5 [] ((i+1:Nat):Int) (nx (i+1) (xs.length-(i+1)) [] Om ⟨⟨hj,h2' h⟩,rfl⟩ Kr Kr)
theorem mayR15_any (A:Option Addr)(cap:Nat)(xs:List Hv)(W:World)(hx:HsIn W W.heap.size A xs):YC 28 #[.slice A xs.length cap] W (YR (.bool (q6 (shs xs))) W):=by
 have hxl:(shs xs).length=xs.length:=List.length_map ..
 have hn5:=hx.n
 have hno:∀ w,YB W w->(xs.length<=4→∃ i,i<xs.length/\okH (shs xs) i=false)->(Ending.returned (.bool false)= .returned (.bool (q6 (shs xs))))/\YB W w:=λw hb h=>⟨(by
  refine congrArg (λq=>Ending.returned (.bool q)) (Eq.symm (Bool.eq_false_iff.2 λq=> ?_))
  obtain ⟨i,hi,hf⟩:=h (hxl▸mayH_few q)
  unfold q6 at q
  rw [Bool.and_eq_true] at q
  have:=pR (by rw [hxl];exact hi) q.2
  rw [this] at hf;cases hf),hb⟩
 refine z8 Tryz.func28 (zD 6 [] ((xs.length:Int)>4) (λh9=> ?_) (λh9=> ?_))
 ·exact z7 [] Z5 λw hO=>hno w hO.below λh=>by omega
 refine zO (α:=Nat) (λi=>[(0,.slice A xs.length cap),(3,YI (i:Int))]) (λ_=>[]) (λi m=>(i<=xs.length∧∀ j,j<i->okH (shs xs) j=true)/\m=xs.length-i) 0 xs.length [] ⟨⟨Nat.zero_le _,λj h=>by omega⟩,rfl⟩ ?_
 rintro i mm g kk ⟨⟨hi,hok⟩,hmm⟩ nx hkk
 subst hkk
 refine zD 10 [] ((i:Int)<(xs.length:Int)) (λh13=> ?_) (λh13=> ?_)
 rotate_left
 ·exact z7 [] Z4 λw hO=>⟨by
   have:q6 (shs xs)=true:=by
    unfold q6
    rw [Bool.and_eq_true]
    exact ⟨decide_eq_true Om,nZ λj hj=>hok j Om⟩
   rw [this],hO.below⟩
 have hj:i<xs.length:=by omega
 have hjm:i<(shs xs).length:=by omega
 obtain ⟨eb,eo,hA,hel⟩:=hx.top.elem wH i hj
 have hel0:∀ w,YB W w->(loadVar 24 ⟨eb,eo+i*2+0,none⟩).run YP w= .ok (hvV xs[i]) w:=λw hw=>hel w hw _ 0 _ Kr
 have hel1:∀ w,YB W w->(loadVar 9 ⟨eb,eo+i*2+0,none⟩).run YP w= .ok (.string (mkS xs[i].name)) w:=λw hw=>hel w hw _ 0 _ Kr
 have hsi:=hx.each _ (List.getElem_mem hj)
 have hq:=okH_is hjm
 have hf:=nmd_found hjm
 rw [List.getElem_map] at hq hf
 generalize xs[i]=u at*
 have cN:∀ w,YB W w->YC 65 #[.slice A xs.length cap,.string (mkS u.name)] w (YR (YI (plI (g6 (shs xs) u.sh.name))) w):=λw hw=>place15_any A cap xs u.name w (hx.on hw hw.size)
 have cM:∀ w,YB W w->YC 40 #[hvV u] w (YR (.bool (decide (yS u.sh))) w):=λw hw=>mP u w (hsi.on hw hw.size)
 have hpl:plI (g6 (shs xs) u.sh.name)=(g6 (shs xs) u.sh.name).1:=if_pos hf
 rw [hpl] at cN
 generalize g6 (shs xs) u.sh.name=p at*
 refine zK 15 [] hA xs.length cap i 2 hj (zH 16 [] 24 eb (eo+i*2+0) (hvV u) (λw hO=>hel0 w hO.below) (z6 (v:= .bool (decide (yS u.sh))) [] (λw hO=>cM w hO.below) (fY 17 (yS u.sh) (λh29=> ?_) (λh29=> ?_))))
 rotate_left
 ·exact z7 [] Z5 λw hO=>hno w hO.below λ_=>⟨i,hj,Bool.eq_false_iff.2 λh=>h29 (hq.1 h).1⟩
 refine zK 23 [] hA xs.length cap i 2 hj (zH 25 [] 9 eb (eo+i*2+0) (.string (mkS u.name)) (λw hO=>hel1 w hO.below) (z6 (v:=YI p.1) [] (λw hO=>cN w hO.below) (kT 28 [] (p.1=(i:Int)) (λh26=> ?_) (λh26=> ?_))))
 rotate_left
 ·exact z7 [] Z5 λw hO=>hno w hO.below λ_=>⟨i,hj,Bool.eq_false_iff.2 λh=>h26 (hq.1 h).2⟩
 have hst:=hq.2 ⟨h29,h26⟩
 exact x_i 3 [] ((i+1:Nat):Int) (nx (i+1) (xs.length-(i+1)) [] Om ⟨⟨hj,λj hji=>by
  rcases Nat.lt_succ_iff_lt_or_eq.1 hji with h|h
  ·exact hok j h
  ·rw [h];exact hst⟩,rfl⟩ Kr Kr)
theorem pinsR15_any (A:Option Addr)(cap:Nat)(ps:List Pn)(W:World)(hx:PsIn W W.heap.size A ps):YC 64 #[.slice A ps.length cap] W (YR (.bool (pC ps)) W):=by
 have hn5:=hx.n
 have hno:∀ i,i<ps.length->okP ps i=false→∀ w,YB W w->(Ending.returned (.bool false)= .returned (.bool (pC ps)))/\YB W w:=λi hi hf w hb=>⟨(by
  refine congrArg (λq=>Ending.returned (.bool q)) (Eq.symm (Bool.eq_false_iff.2 λq=> ?_))
  have:=pR hi q
  rw [this] at hf;cases hf),hb⟩
 refine z8 Tryz.func64 (zO (α:=Nat) (λi=>[(0,.slice A ps.length cap),(3,YI (i:Int))]) (λ_=>[]) (λi m=>(i<=ps.length∧∀ j,j<i->okP ps j=true)/\m=ps.length-i) 0 ps.length [] ⟨⟨Nat.zero_le _,λj h=>by omega⟩,rfl⟩ ?_)
 rintro i mm g kk ⟨⟨hi,hok⟩,hmm⟩ nx hkk
 subst hkk
 refine zD 7 [] ((i:Int)<(ps.length:Int)) (λh9=> ?_) (λh9=> ?_)
 rotate_left
 ·exact z7 [] Z4 λw hO=>⟨by rw [show pC ps=true from nZ λj hj=>hok j Om],hO.below⟩
 have hj:i<ps.length:=by omega
 obtain ⟨eb,eo,hA,hel⟩:=hx.top.elem fH i hj
 have hel0:∀ w,YB W w->(loadVar 9 ⟨eb,eo+i*2+0,none⟩).run YP w= .ok (.string (mkS ps[i].name)) w:=λw hw=>hel w hw _ 0 _ Kr
 have hel1:∀ w,YB W w->(loadVar 9 ⟨eb,eo+i*2+1,none⟩).run YP w= .ok (.string (mkS ps[i].shelf)) w:=λw hw=>hel w hw _ 1 _ Kr
 have hq:okP ps i=(nmL ps[i].name && nmL ps[i].shelf && Op.bytesLess (yV (ps.map Pn.name) i) ps[i].name):=by unfold okP;rw [List.getElem?_eq_getElem hj]
 have hsn:=hx.sn _ (List.getElem_mem hj)
 have hno:=hno i hj
 have hprev:0<i→∃ fb fo,A=some ⟨fb,fo,none⟩∧∀ w,YB W w->(loadVar 9 ⟨fb,fo+(i-1)*2+0,none⟩).run YP w= .ok (.string (mkS (yV (ps.map Pn.name) i))) w:=λh0=>by
  obtain ⟨fb,fo,hB,hel2⟩:=hx.top.elem fH (i-1) Om
  refine ⟨fb,fo,hB,λw hw=> ?_⟩
  have e:yV (ps.map Pn.name) i=(ps[i-1]'Om).name:=by
   unfold yV
   rw [dif_pos ⟨h0,by rw [List.length_map];omega⟩,List.getElem_map]
  rw [e]
  exact hel2 w hw _ 0 _ Kr
 have hstep:okP ps i=true→∀ j,j<i+1->okP ps j=true:=λh j hji=>by
  rcases Nat.lt_succ_iff_lt_or_eq.1 hji with h2|h2
  ·exact hok j h2
  ·rw [h2];exact h
 have hl0:i=0->yV (ps.map Pn.name) i=[]:=by rintro rfl;rfl
 generalize okP ps i=o at*
 generalize yV (ps.map Pn.name) i=la at*
 have hz:i=0->la=[]->Op.bytesLess la ps[i].name=true\/nmL ps[i].name=false:=λ_ h=>by
  cases h2:nmL ps[i].name with
  |false=>exact .inr rfl
  |true=>exact .inl (by rw [h];exact pE λe=>by rw [e,show nmL []=false from by kernel_rfl] at h2;cases h2)
 generalize ps[i].name=pn at*
 generalize ps[i].shelf=pf at*
 have cN:∀ w,YC 76 #[.string (mkS pn)] w (YR (.bool (nmL pn)) w):=λw=>qH pn w hsn.1
 have cS:∀ w,YC 76 #[.string (mkS pf)] w (YR (.bool (nmL pf)) w):=λw=>qH pf w hsn.2
 refine zK 12 [] hA ps.length cap i 2 hj (zH 14 [] 9 eb (eo+i*2+0) (.string (mkS pn)) (λw hO=>hel0 w hO.below) (z6 (v:= .bool (nmL pn)) [] (λw hO=>cN w) (zL 15 (nmL pn) (λh15=> ?_) (λh15=> ?_))))
 rotate_left
 ·exact z7 [] Z5 λw hO=>hno (by rw [hq,h15];rfl) w hO.below
 refine zK 20 [] hA ps.length cap i 2 hj (zH 22 [] 9 eb (eo+i*2+1) (.string (mkS pf)) (λw hO=>hel1 w hO.below) (z6 (v:= .bool (nmL pf)) [] (λw hO=>cS w) (zL 23 (nmL pf) (λh23=> ?_) (λh23=> ?_))))
 rotate_left
 ·exact z7 [] Z5 λw hO=>hno (by rw [hq,h15,h23];rfl) w hO.below
 refine zD 28 [] ((i:Int)>0) (λh28=> ?_) (λh28=> ?_)
 ·obtain ⟨fb,fo,hB,hel2⟩:=hprev Om
  refine vU 32 [] (YI (IntKind.i64.wrap ((i:Int) -1))) (YI ((i-1:Nat):Int)) (by rw [IntWalk.i64_in _ (by omega)];congr 1;omega) (zK 33 [] hB ps.length cap (i-1) 2 (by omega) (zH 35 [] 9 fb (fo+(i-1)*2+0) (.string (mkS la)) (λw hO=>hel2 w hO.below) (zK 38 [] hA ps.length cap i 2 hj (zH 40 [] 9 eb (eo+i*2+0) (.string (mkS pn)) (λw hO=>hel0 w hO.below) (x_sge 41 [] la pn (λh41=> ?_) (λh41=> ?_))))))
  ·exact x_i 3 [] ((i+1:Nat):Int) (nx (i+1) (ps.length-(i+1)) [] Om ⟨⟨hj,hstep (by rw [hq,h15,h23,h41];rfl)⟩,rfl⟩ Kr Kr)
  ·exact z7 [] Z5 λw hO=>hno (by rw [hq,h15,h23,h41];rfl) w hO.below
 ·have hi0:i=0:=by omega
  have hbl:Op.bytesLess la pn=true:=(hz hi0 (hl0 hi0)).resolve_right λq=>by rw [h15] at q;cases q
  exact x_i 3 [] ((i+1:Nat):Int) (nx (i+1) (ps.length-(i+1)) [] Om ⟨⟨hj,hstep (by rw [hq,h15,h23,hbl];rfl)⟩,rfl⟩ Kr Kr)
theorem hasR15_any (x:Hv)(n:YL)(W:World)(hx:ShIn W W.heap.size x):YC 66 #[hvV x,.string (mkS n)] W (YR (.bool (jY n x.sh)) W):=by
 obtain ⟨hE,hle,_⟩:=hx
 have hn:=hE.n
 refine z8 Tryz.func66 (zZ [] λb2=>zO (α:=Nat) (λi=>[(1,.string (mkS n)),(2,Zp b2 0),(5,YI (i:Int))]) (λ_=>[hvB b2 x]) (λi m=>(i<=x.es.length∧∀ y∈x.es.take i,decide (y.rec'.name=n)=false)/\m=x.es.length-i) 0 x.es.length [] ⟨⟨Nat.zero_le _,λy h=>by simp at h⟩,rfl⟩ ?_)
 rintro i mm g kk ⟨⟨hi,hno⟩,hmm⟩ nx hkk
 subst hkk
 refine zD 10 [0] ((i:Int)<(x.es.length:Int)) (λh9=> ?_) (λh9=> ?_)
 rotate_left
 ·refine z7 [] Z5 λw hO=>⟨?_,hO.below⟩
  have hall:=dQ (show x.es.length<=i by omega) hno
  refine congrArg (λq=>Ending.returned (.bool q)) (Bool.eq_false_iff.2 λh=> ?_).symm
  obtain ⟨y,hy,h⟩:=List.any_eq_true.1 h
  obtain ⟨u,hu,rfl⟩:=List.mem_map.1 hy
  have:=hall u hu
  rw [show decide (u.et.rc.name=n)=decide (u.rec'.name=n) from rfl,this] at h;cases h
 have hj:i<x.es.length:=by omega
 obtain ⟨eb,eo,hA,hel⟩:=hE.top.elem gE i hj
 have hgo:=qf_no (q:=λy:Ev=>decide (y.rec'.name=n)) hj hno
 have hel0:∀ w,YB W w->(loadVar 9 ⟨eb,eo+i*11+0,none⟩).run YP w= .ok (.string (mkS x.es[i].rec'.name)) w:=λw hw=>hel w hw _ 0 _ Kr
 have hyes:=any_cases (n:=n) hj
 have hyes':x.es[i].rec'.name=n->jY n x.sh=true:=λh=>hyes (decide_eq_true h)
 have hgo':¬ x.es[i].rec'.name=n→∀ y∈x.es.take (i+1),decide (y.rec'.name=n)=false:=λh=>hgo (decide_eq_false h)
 clear hyes hgo
 generalize x.es[i].rec'.name=s at*
 refine zK 16 [0] hA x.es.length x.cap i 11 hj (zH 19 [] 9 eb (eo+i*11+0) (.string (mkS s)) (λw hO=>hel0 w hO.below) (kJ 21 [] s n (λh=> ?_) (λh=> ?_)))
 ·exact z7 [] Z4 λw hO=>⟨by rw [hyes' h],hO.below⟩
 ·exact x_i 5 [] ((i+1:Nat):Int) (nx (i+1) (x.es.length-(i+1)) [] Om ⟨⟨hj,hgo' h⟩,rfl⟩ Kr Kr)
theorem fromR15_any (A B:Option Addr)(cap cb:Nat)(xs:List Hv)(ps:List Pn)(n:YL)(W:World)(hx:HsIn W W.heap.size A xs)(hp:PsIn W W.heap.size B ps):YC 24 #[.slice A xs.length cap,.slice B ps.length cb,.string (mkS n)] W (YR (.tuple #[YI (yK (shs xs) ps n).1,YI (yK (shs xs) ps n).2]) W):=by
 have cM:∀ w,YB W w->YC 28 #[.slice A xs.length cap] w (YR (.bool (q6 (shs xs))) w):=λw hw=>mayR15_any A cap xs w (hx.on hw hw.size)
 have cP:∀ w,YB W w->YC 64 #[.slice B ps.length cb] w (YR (.bool (pC ps)) w):=λw hw=>pinsR15_any B cb ps w (hp.on hw hw.size)
 have hn5:=hp.n
 have hm5:=hx.n
 refine z8 Tryz.func24 (z6 (v:= .bool (q6 (shs xs))) [] (λw hO=>cM w hO.below) (zL 12 (q6 (shs xs)) (λh11=> ?_) (λh11=> ?_)))
 rotate_left
 ·exact zU [] (YI 0) (YI 1) λw hO=>⟨j8 (by unfold yK;rw [if_neg (by rw [h11];decide)]),hO.below⟩
 refine z6 (v:= .bool (pC ps)) [] (λw hO=>cP w hO.below) (zL 15 (pC ps) (λh14=> ?_) (λh14=> ?_))
 rotate_left
 ·exact zU [] (YI 0) (YI 15) λw hO=>⟨j8 (by unfold yK;rw [if_pos h11,if_neg (by rw [h14];decide)]),hO.below⟩
 have hF0:(∀ y∈ps,decide (y.name=n)=false)->yK (shs xs) ps n=hasH (shs xs) n:=λh=>by
  unfold yK
  rw [if_pos h11,if_pos h14,show pinI ps n=(0,9) from jZ h,if_neg (by decide)]
 have hF1:∀ i (hi:i<ps.length),(∀ y∈ps.take i,decide (y.name=n)=false)->ps[i].name=n->yK (shs xs) ps n=g6 (shs xs) ps[i].shelf:=λi hi h0 h1=>by
  unfold yK
  rw [if_pos h11,if_pos h14,show pinI ps n=((i:Int),0) from wQ hi h0 (decide_eq_true h1),if_pos rfl]
  show g6 (shs xs) (pinS ps (i:Int).toNat)=_
  rw [Int.toNat_natCast]
  unfold pinS
  rw [List.getElem?_eq_getElem hi];rfl
 refine zO (α:=Nat) (λi=>[(0,.slice A xs.length cap),(1,.slice B ps.length cb),(2,.string (mkS n)),(8,YI (i:Int))]) (λ_=>[]) (λi m=>(i<=ps.length∧∀ y∈ps.take i,decide (y.name=n)=false)/\m=ps.length-i) 0 ps.length [] ⟨⟨Nat.zero_le _,λy h=>by simp at h⟩,rfl⟩ ?_
 rintro i mm g kk ⟨⟨hi,hno⟩,hmm⟩ nx hkk
 subst hkk
 refine zD 20 [] ((i:Int)<(ps.length:Int)) (λh20=> ?_) (λh20=> ?_)
 ·have hj:i<ps.length:=by omega
  obtain ⟨eb,eo,hA,hel⟩:=hp.top.elem fH i hj
  have hel0:∀ w,YB W w->(loadVar 9 ⟨eb,eo+i*2+0,none⟩).run YP w= .ok (.string (mkS ps[i].name)) w:=λw hw=>hel w hw _ 0 _ Kr
  have hel1:∀ w,YB W w->(loadVar 9 ⟨eb,eo+i*2+1,none⟩).run YP w= .ok (.string (mkS ps[i].shelf)) w:=λw hw=>hel w hw _ 1 _ Kr
  have hgo:=qf_no (q:=λy:Pn=>decide (y.name=n)) hj hno
  have hgo':¬ ps[i].name=n→∀ y∈ps.take (i+1),decide (y.name=n)=false:=λh=>hgo (decide_eq_false h)
  have hF1:=hF1 i hj hno
  clear hgo
  generalize ps[i].name=pn at*
  generalize ps[i].shelf=pf at*
  refine zK 25 [] hA ps.length cb i 2 hj (zH 27 [] 9 eb (eo+i*2+0) (.string (mkS pn)) (λw hO=>hel0 w hO.below) (wT 29 [] pn n (λh=> ?_) (λh=> ?_)))
  rotate_left
  ·exact x_i 8 [] ((i+1:Nat):Int) (nx (i+1) (ps.length-(i+1)) [] Om ⟨⟨hj,hgo' h⟩,rfl⟩ Kr Kr)
  rw [hF1 h]
  refine zK 33 [] hA ps.length cb i 2 hj (zH 35 [] 9 eb (eo+i*2+1) (.string (mkS pf)) (λw hO=>hel1 w hO.below) (z6 (v:=YI (plI (g6 (shs xs) pf))) [] (λw hO=>place15_any A cap xs pf w (hx.on hO.below hO.size)) ?_))
  rcases vP (λs:Sh=>decide (s.name=pf)) (shs xs) 12 with ⟨e,_⟩|⟨j,_,e,_,_⟩
  ·have e':g6 (shs xs) pf=(0,12):=e
   rw [e']
   exact zU [] (YI 0) (YI 12) λw hO=>⟨rfl,hO.below⟩
  ·have e':g6 (shs xs) pf=((j:Int),0):=e
   rw [e']
   refine vU 36 [] (YI (plI ((j:Int),0))) (YI (j:Int)) rfl (zD 38 [] ((j:Int)<0) (λh=>absurd h Om) (λ_=> ?_))
   exact zU [] (YI (j:Int)) (YI 0) λw hO=>⟨rfl,hO.below⟩
 rw [hF0 (dQ (show ps.length<=i by omega) hno)]
 clear nx
 refine zO (α:=Nat) (λi=>[(0,.slice A xs.length cap),(2,.string (mkS n)),(10,YI (i:Int))]) (λ_=>[]) (λi m=>(i<=xs.length∧∀ y∈(shs xs).take i,jY n y=false)/\m=xs.length-i) 0 xs.length [] ⟨⟨Nat.zero_le _,λy h=>by simp at h⟩,rfl⟩ ?_
 clear hno
 rintro i2 m2 g2 kk ⟨⟨hi2,hno⟩,hm2⟩ nx hkk
 subst hkk
 refine zD 43 [] ((i2:Int)<(xs.length:Int)) (λh20=> ?_) (λh20=> ?_)
 rotate_left
 ·exact zU [] (YI 0) (YI 9) λw hO=>⟨j8 (jZ (dQ (by rw [List.length_map];omega) hno)),hO.below⟩
 have hj:i2<xs.length:=by omega
 have hjm:i2<(shs xs).length:=by rw [List.length_map];omega
 obtain ⟨eb,eo,hA,hel⟩:=hx.top.elem wH i2 hj
 have hel0:∀ w,YB W w->(loadVar 24 ⟨eb,eo+i2*2+0,none⟩).run YP w= .ok (hvV xs[i2]) w:=λw hw=>hel w hw _ 0 _ Kr
 have hsi:=hx.each _ (List.getElem_mem hj)
 have h1:=wQ (p:=jY n) (z:=9) hjm hno
 have h2:=qf_no (q:=jY n) hjm hno
 rw [List.getElem_map] at h1 h2
 generalize xs[i2]=u at*
 refine zK 48 [] hA xs.length cap i2 2 hj (zH 49 [] 24 eb (eo+i2*2+0) (hvV u) (λw hO=>hel0 w hO.below) (z6 (v:= .bool (jY n u.sh)) [] (λw hO=>hasR15_any u n w (hsi.on hO.below hO.size)) (zL 51 (jY n u.sh) (λh=> ?_) (λh=> ?_))))
 ·exact zU [] (YI (i2:Int)) (YI 0) λw hO=>⟨j8 (h1 h),hO.below⟩
 ·exact x_i 10 [] ((i2+1:Nat):Int) (nx (i2+1) (xs.length-(i2+1)) [] Om ⟨⟨hj,h2 h⟩,rfl⟩ Kr Kr)
end
section
set_option linter.unnecessarySimpa false
theorem cmp_tra {a b c:Ver}(ha:a.may=true)(hb:b.may=true)(hc:c.may=true)(h1:zX a b<0)(h2:zX b c<0):zX a c<0:=by
 rcases order_on ha hb hc with h|h|⟨h3,h4⟩
 ·omega
 ·omega
 ·have:¬ zX a c=0:=λq=>by have:=(h4.2 q).1;omega
  omega
theorem ins_list {s:Sh}(hM:yS s){n:YL}{i:Nat}(hi:i<s.es.length)(hin:(s.es[i]?.map λe=>e.rc.name)=some n){l:List Nat}(hp:l.Perm (v6 s.es n i))(hs:l.Pairwise λa b=>zX (yU s.es a) (yU s.es b)<0){k:Nat}(hk:k<=l.length)(h1:∀ j (hj:j<k),zX (yU s.es (l[j]'Om)) (yU s.es i)<0)(h2:∀ (h:k<l.length),¬ zX (yU s.es l[k]) (yU s.es i)<0):(l.take k++[i]++l.drop k).Perm (v6 s.es n (i+1))/\(l.take k++[i]++l.drop k).Pairwise λa b=>zX (yU s.es a) (yU s.es b)<0:=by
 have hidx:v6 s.es n (i+1)=v6 s.es n i++[i]:=by rw [v6,if_pos hin]
 have hm:∀ {a},a∈l->a<i/\(s.es[a]?.map λe=>e.rc.name)=some n:=λha=>idx_mem.1 (hp.mem_iff.1 ha)
 have q:∀ {a:Nat},a<s.es.length->(yU s.es a).may=true:=λ{a} ha=>by
  rw [qU ha];exact (yN (hM.ok _ (List.getElem_mem ha)).1).2.1
 have hsp:(l.take k++l.drop k).Pairwise λa b=>zX (yU s.es a) (yU s.es b)<0:=by rw [List.take_append_drop];exact hs
 obtain ⟨p1,p2,p3⟩:=List.pairwise_append.1 hsp
 have hlo:∀ a∈l.take k,zX (yU s.es a) (yU s.es i)<0:=λa ha=>by
  obtain ⟨j,hj,rfl⟩:=List.mem_take_iff_getElem.1 ha
  exact h1 j Om
 have hhi:∀ b∈l.drop k,zX (yU s.es i) (yU s.es b)<0:=λb hb=>by
  have hkl:k<l.length:=by
   apply Classical.byContradiction
   intro h
   rw [List.drop_of_length_le Om] at hb;cases hb
  have hmk:=hm (List.getElem_mem hkl)
  have hne:=name_apart hM hmk.2 hin Om
  have h3:=h2 hkl
  have h4:=qI (q (a:=l[k]) Om) (q hi)
  have h5:zX (yU s.es i) (yU s.es l[k])<0:=by omega
  rw [List.drop_eq_getElem_cons hkl] at hb p2
  rcases List.mem_cons.1 hb with rfl|hb
  ·exact h5
  ·have h6:=(List.pairwise_cons.1 p2).1 b hb
   have hmb:=hm (List.mem_of_mem_drop (List.mem_of_mem_tail (l:=l.drop k) (by rw [List.drop_eq_getElem_cons hkl];exact hb)))
   exact cmp_tra (q hi) (q (a:=l[k]) Om) (q (a:=b) Om) h5 h6
 refine ⟨?_, ?_⟩
 ·rw [hidx]
  have e1:(l.take k++[i]++l.drop k).Perm (l.take k++l.drop k++[i]):=by
   rw [List.append_assoc,List.append_assoc]
   exact List.Perm.append_left _ List.perm_append_comm
  rw [List.take_append_drop] at e1
  exact e1.trans (List.Perm.append_right _ hp)
 ·rw [List.append_assoc,List.pairwise_append]
  refine ⟨p1,List.pairwise_cons.2 ⟨hhi,p2⟩,λa ha b hb=> ?_⟩
  rcases List.mem_cons.1 hb with rfl|hb
  ·exact hlo a ha
  ·exact p3 a ha b hb
theorem jN {M:List Nat}{W w:World}{x y:Blk}{o ob:List Blk}(h:Own M W w ([x,y]++o++ob)):Own M W w ([y]++ob):=h.sublist (List.Sublist.cons _ (List.cons_sublist_cons.2 (by show List.Sublist ob (o++ob);exact List.sublist_append_right _ _)))
abbrev jU (i:Nat):List Value:=[vZ i]
theorem g7 (i:Nat):(jU i).length=1:=rfl
theorem qW (i:Nat):∀ u∈jU i,u.oneCell'=true:=λu hu=>by rw [List.mem_singleton.1 hu];rfl
theorem bE (l:List Nat):l.flatMap jU=l.map vZ:=by rw [List.map_eq_flatMap]
theorem r13List_any (x:Hv)(nm:YL)(W:World)(hx:ShIn W W.heap.size x)(hM:yS x.sh):YC 33 #[hvV x,.string (mkS nm)] W λe w'=>∃ v ob,e= .returned v/\(∃ l:List Nat,Sl 3 1 v l.length (l.map vZ) ob/\wC x.sh nm l)/\Own [] W w' ob:=by
 have cM:∀ w,YB W w->YC 40 #[hvV x] w (YR (.bool true) w):=λw hb=>by
  have h:=mP x w (hx.on hb hb.size)
  rw [decide_eq_true hM] at h;exact h
 have hxl:x.sh.es.length=x.es.length:=by simp [Hv.sh]
 have hn64:x.es.length<=64:=hxl▸hM.few
 have hver:∀ p (hp:p<x.es.length),yU x.sh.es p=x.es[p].rec'.ver:=λp hp=>by rw [qU Om];simp [Hv.sh];rfl
 have hbl:0<x.es.length→∃ eb eo,x.A=some ⟨eb,eo,none⟩∧∀ w,YB W w→∀ p (hp:p<x.es.length),(loadVar 9 ⟨eb,eo+p*11+0,none⟩).run YP w= .ok (.string (mkS x.es[p].rec'.name)) w/\(loadVar 42 ⟨eb,eo+p*11+1,none⟩).run YP w= .ok (yB x.es[p].rec'.ver) w:=λh0=>by
  obtain ⟨eb,eo,hA,_⟩:=hx.es.top.elem (P:=YP) gE 0 h0
  refine ⟨eb,eo,hA,λw hw p hp=> ?_⟩
  obtain ⟨fb,fo,hB,hel⟩:=hx.es.top.elem (P:=YP) gE p hp
  rw [hA] at hB
  simp only [Option.some.injEq,Addr.mk.injEq] at hB
  obtain ⟨rfl,rfl,_⟩:=hB
  exact ⟨hel w hw _ 0 _ Kr,hel w hw _ 1 _ Kr⟩
 refine z8 Tryz.func33 (zZ [] λb2=>z6 (v:= .bool true) [0] (λw hO=>cM w hO.below) ?_)
 refine zO (α:=Nat×List Nat×Value×List Blk) (λ(i,l,v,ob)=>[(1,.string (mkS nm)),(2,Zp b2 0),(5,v),(6,YI (i:Int))]) (λ(i,l,v,ob)=>[hvB b2 x]++ob) (λ(i,l,v,ob) m=>(i<=x.es.length/\Sl 3 1 v l.length (l.map vZ) ob/\l.Perm (v6 x.sh.es nm i)/\(l.Pairwise λa b=>zX (yU x.sh.es a) (yU x.sh.es b)<0)/\(l=[]->v= .slice none 0 0/\ob=[]))/\m=x.es.length-i) (0,[],.slice none 0 0,[]) x.es.length [] ⟨⟨Nat.zero_le _,Sl.nil _ _,List.Perm.refl _,List.Pairwise.nil,λ_=>⟨rfl,rfl⟩⟩,rfl⟩ ?_
 rintro ⟨i,l,v,ob⟩ mm g kk ⟨⟨hi,hv,hp,hs,hnil⟩,hmm⟩ nx hkk
 subst hkk
 refine zD 15 [0] ((i:Int)<(x.es.length:Int)) (λh15=> ?_) (λh15=> ?_)
 rotate_left
 ·obtain rfl:i=x.es.length:=by omega
  exact z7 [] v λw hO=>⟨v,ob,rfl,⟨l,hv,by unfold wC;rw [hxl];exact ⟨hp,hs⟩⟩,hO.past 1 ob⟩
 have hj:i<x.es.length:=by omega
 obtain ⟨eb,eo,hA,hld⟩:=hbl Om
 have hnm:(x.sh.es[i]?.map λe=>e.rc.name)=some x.es[i].rec'.name:=by simp [Hv.sh,hj];rfl
 have hid:v6 x.sh.es nm (i+1)=if (some x.es[i].rec'.name:Option YL)=some nm then v6 x.sh.es nm i++[i] else v6 x.sh.es nm i:=by rw [v6,hnm]
 have q1:∀ w,YB W w->(loadVar 9 ⟨eb,eo+i*11+0,none⟩).run YP w= .ok (.string (mkS x.es[i].rec'.name)) w:=λw hw=>(hld w hw i hj).1
 have q2:∀ w,YB W w->(loadVar 42 ⟨eb,eo+i*11+1,none⟩).run YP w= .ok (yB (yU x.sh.es i)) w:=λw hw=>by rw [hver i hj];exact (hld w hw i hj).2
 have hsn:∀ p (hp:p<x.es.length),(yU x.sh.es p).pre.length<=1000000/\(yU x.sh.es p).build.length<=1000000:=λp hp=>by rw [hver p hp];exact ⟨(hx.es.each _ (List.getElem_mem hp)).sn.2.1,(hx.es.each _ (List.getElem_mem hp)).sn.2.2⟩
 have q3:∀ p,p<x.es.length→∀ w,YB W w->(loadVar 42 ⟨eb,eo+p*11+1,none⟩).run YP w= .ok (yB (yU x.sh.es p)) w:=λp hp w hw=>by rw [hver p hp];exact (hld w hw p hp).2
 have hins:= @ins_list x.sh hM nm i Om
 rw [hnm] at hins
 generalize x.es[i].rec'.name=un at*
 refine zK 21 [0] hA x.es.length x.cap i 11 hj (zH 24 [] 9 eb (eo+i*11+0) (.string (mkS un)) (λw hO=>q1 w hO.below) (wT 26 [] un nm (λh26=> ?_) (λh26=> ?_)))
 rotate_left
 ·rw [if_neg (by simpa using h26)] at hid
  exact x_i 6 [] ((i+1:Nat):Int) (nx (i+1,l,v,ob) (x.es.length-(i+1)) [] Om ⟨⟨hj,hv,by rw [hid];exact hp,hs,hnil⟩,rfl⟩ Kr Kr)
 have hins:= @hins (by rw [h26]) l hp hs
 have hlm:∀ a∈l,a<i:=λa ha=>(idx_mem.1 (hp.mem_iff.1 ha)).1
 have hll:l.length<=64:=by have h:=hp.length_eq;have:=pF (l:=x.sh.es) (n:=nm) i;omega
 cases l with
 |nil=>
  obtain ⟨rfl,rfl⟩:=hnil rfl
  obtain ⟨f1,f2⟩:= @hins 0 (Nat.le_refl _) (λj hj=>absurd hj Om) (λh=>absurd h (by simp))
  refine jQ 0 [] (vE 11 [] (x_h2 [] 3 5 (yW (g:=jU) (T:=3) (sz:=1) (cp:=0) (A:=none) ([]:List Nat) [hvB b2 x] [] [] [hvB b2 x] [hvB b2 x] (λw hO=>hO) (λo w hO=>(hO.sublist (List.sublist_append_left _ _)).sublist (List.sublist_append_left _ _)) g7 qW (λw hO h=>absurd h (Nat.lt_irrefl 0)) (Sl.nil _ _) (by decide) λv1 oA hA1=>zY [] 5 (k7 1 3 #[YI (i:Int)] λbl=> ?_)) (k7 1 3 #[YI (i:Int)] λbl=>zY [] 3 (yW (g:=jU) (T:=3) (sz:=1) (cp:=0) (A:=none) ([]:List Nat) [⟨bl, #[YI (i:Int)],3⟩,hvB b2 x] [] [] [⟨bl, #[YI (i:Int)],3⟩,hvB b2 x] [hvB b2 x] (λw hO=>hO) (λo w hO=>((hO.sublist (List.sublist_append_left _ _)).sublist (List.sublist_append_left _ _)).sublist (List.sublist_cons_self _ _)) g7 qW (λw hO h=>absurd h (Nat.lt_irrefl 0)) (Sl.nil _ _) (by decide) λv1 oA hA1=> ?_))))
  all_goals
   obtain ⟨A1,c1,rfl⟩:=Sl.form hA1
   refine zY [] 6 (gV (T:=3) (sz:=1) (m:=1) (cp:=1) [⟨bl, #[YI (i:Int)],3⟩,hvB b2 x] oA [] 0 (⟨bl, #[YI (i:Int)],3⟩::hvB b2 x::(oA++[])) [hvB b2 x] (λw hO=>hO.cast (by simp)) (λo w hO=>((hO.sublist (List.sublist_append_left _ _)).sublist (List.sublist_append_left _ _)).sublist (List.sublist_cons_self _ _)) hA1 (by decide) λv2 oB hB=> ?_)
   obtain ⟨A2,c2,rfl⟩:=Sl.form hB
   refine zY [] 10 (yW (g:=jU) (T:=3) (sz:=1) (cp:=0) (A:=none) ([]:List Nat) [⟨bl, #[YI (i:Int)],3⟩,hvB b2 x] oB [] ([⟨bl, #[YI (i:Int)],3⟩,hvB b2 x]++oB++[]) [hvB b2 x] (λw hO=>hO) (λo w hO=>((hO.sublist (List.sublist_append_left _ _)).sublist (List.sublist_append_left _ _)).sublist (List.sublist_cons_self _ _)) g7 qW (λw hO h=>absurd h (Nat.lt_irrefl 0)) hB (by decide) λv3 oC hC=> ?_)
   exact x_i 6 [] ((i+1:Nat):Int) (zP [] ([hvB b2 x]++oC) (λw hO=>by
    have h1:=hO.past 1 ([hvB b2 x]++oC++[])
    clear hO
    exact h1.cast (by simp)) (nx (i+1,[i],v3,oC) (x.es.length-(i+1)) [] Om ⟨⟨hj,Sl.to hC rfl rfl,f1,f2,λh=>by cases h⟩,rfl⟩ Kr Kr))
 |cons a0 lr=>
 generalize hlq:a0::lr=l at*
 have hl0:0<l.length:=by rw [←hlq];simp
 clear hnil hlq
 obtain ⟨A,c,rfl⟩:=Sl.form hv
 obtain ⟨gv,cur,hT,_,hcap,_⟩:=Sl.block hv hl0
 have hlk:∀ w,Own [] W w ([hvB b2 x]++ob)→∀ k (hk:k<l.length),(loadVar 3 ⟨gv,0+k*1+0,none⟩).run YP w= .ok (YI (l[k]:Int)) w:=λw hO k hk=>by
  obtain ⟨b,off,e,hel⟩:=(Sl.reads (g:=jU) (by rw [bE];exact hv) rfl hO λb hb=>List.mem_append_right _ hb).elem (sz:=1) g7 k hk
  rw [hT] at e
  simp only [Option.some.injEq,Addr.mk.injEq] at e
  obtain ⟨rfl,rfl,_⟩:=e
  exact hel w (Below.refl _ _) _ 0 _ Kr
 have hrd:∀ w L,Own [] W w L->(∀ b∈ob,b∈L)->Reads jU w w.heap.size (some ⟨gv,0,none⟩) l:=λw L hO hs=>by
  have h:=Sl.reads (g:=jU) (by rw [bE];exact hv) rfl hO hs
  rw [hT] at h;exact h
 refine zO (α:=Nat) (λk=>[(1,.string (mkS nm)),(2,Zp b2 0),(5,.slice A l.length c),(6,YI (i:Int)),(7,YI (k:Int))]) (λ_=>[hvB b2 x]++ob) (λk m=>(k<=l.length∧∀ j (hj:j<k) (hjl:j<l.length),zX (yU x.sh.es l[j]) (yU x.sh.es i)<0)/\m=l.length-k) 0 l.length [] ⟨⟨Nat.zero_le _,λj hj=>absurd hj Om⟩,rfl⟩ ?_
 rintro k m2 g2 kk ⟨⟨hk,hlt⟩,hm2⟩ nx2 hkk
 subst hkk
 refine zD 30 [] ((k:Int)<(l.length:Int)) (λh30=> ?_) (λh30=> ?_)
 ·have hkl:k<l.length:=by omega
  have hlx:=hlm _ (List.getElem_mem hkl)
  have hgo:zX (yU x.sh.es l[k]) (yU x.sh.es i)<0→∀ j (hj:j<k+1) (hjl:j<l.length),zX (yU x.sh.es l[j]) (yU x.sh.es i)<0:=λh j hjk hjl=>by
   rcases Nat.lt_succ_iff_lt_or_eq.1 hjk with h2|h2
   ·exact hlt j h2 hjl
   ·subst h2;exact h
  have hlk1:=λw hO=>hlk w hO k hkl
  have hst:¬ zX (yU x.sh.es l[k]) (yU x.sh.es i)<0→∀ (h:k<l.length),¬ zX (yU x.sh.es l[k]) (yU x.sh.es i)<0:=λh _=>h
  generalize l[k]=p at hlx hgo hlk1 hst
  have hpx:p<x.es.length:=by omega
  have cC:∀ w,YC 68 #[yB (yU x.sh.es p),yB (yU x.sh.es i)] w (YR (YI (zX (yU x.sh.es p) (yU x.sh.es i))) w):=λw=>m6 _ _ w (hsn p hpx).1 (hsn p hpx).2 (hsn i hj).1 (hsn i hj).2
  refine zK 36 [0] hT l.length c k 1 hkl (zH 37 [] 3 gv (0+k*1+0) (YI (p:Int)) (λw hO=>by
   have h1:=hO.past 0 ([hvB b2 x]++ob)
   clear hO
   exact hlk1 w h1) (zK 38 [] hA x.es.length x.cap p 11 hpx (zH 41 [] 42 eb (eo+p*11+1) (yB (yU x.sh.es p)) (λw hO=>q3 p hpx w hO.below) (zK 45 [0] hA x.es.length x.cap i 11 hj (zH 48 [] 42 eb (eo+i*11+1) (yB (yU x.sh.es i)) (λw hO=>q2 w hO.below) (z6 (v:=YI (zX (yU x.sh.es p) (yU x.sh.es i))) [] (λw hO=>cC w) (zD 50 [] (zX (yU x.sh.es p) (yU x.sh.es i)<0) (λh50=> ?_) (λh50=> ?_))))))))
  ·exact x_i 7 [] ((k+1:Nat):Int) (nx2 (k+1) (l.length-(k+1)) [] Om ⟨⟨hkl,hgo h50⟩,rfl⟩ Kr Kr)
  ·obtain ⟨f1,f2⟩:= @hins k hk (λj hj=>hlt j hj Om) (hst h50)
   clear nx2 hlk
   refine vE 11 [] (xh_slhi 50056 [] 2 hT l.length c 1 (k:Int) Om Om (.slice (some ⟨gv,0,none⟩) k c) (by rw [Int.toNat_natCast]) (xh_sllo 50063 [] 9 hT l.length c 1 (k:Int) Om Om (.slice (some ⟨gv,0+(if c=k then 0 else k*1),none⟩) (l.length-k) (c-k)) (by rw [Int.toNat_natCast]) ?_))
   have htk:(l.take k).length=k:=by rw [List.length_take];omega
   have hdk:(l.drop k).length=l.length-k:=List.length_drop ..
   have hrt:∀ w L,Own [] W w L->(∀ b∈ob,b∈L)->Reads jU w w.heap.size (some ⟨gv,0,none⟩) (l.take k):=λw L hO hs=>(hrd w L hO hs).fst k
   have hrp:∀ w L,Own [] W w L->(∀ b∈ob,b∈L)->Reads jU w w.heap.size (some ⟨gv,0+(if c=k then 0 else k*1),none⟩) (l.drop k):=λw L hO hs=>Reads.from_ g7 (hrd w L hO hs) hcap k
   have hfin:l.take k++[i]++l.drop k≠[]:=by simp
   have hlen3:(0+k+1)+(l.length-k)=(l.take k++[i]++l.drop k).length:=by simp only [List.length_append,List.length_cons,List.length_nil,htk,hdk];omega
   have hcel:([]++(l.take k).flatMap jU++ #[(YI (i:Int):Value)].toList)++(l.drop k).flatMap jU=(l.take k++[i]++l.drop k).map vZ:=by
    rw [bE,bE,List.map_append,List.map_append];rfl
   generalize htt:l.take k=tk at*
   generalize hdd:l.drop k=dk at*
   subst htk
   rw [←hdk] at hlen3 ⊢
   refine x_h2 [] 3 5 (yW (g:=jU) (T:=3) (sz:=1) (cp:=c) (A:=some ⟨gv,0,none⟩) tk [hvB b2 x] [] ob ([hvB b2 x]++ob) ([hvB b2 x]++ob) (λw hO=>hO) (λo w hO=>hO.sublist (List.Sublist.append_right (List.sublist_append_left _ _) _)) g7 qW (λw hO=>hrt w _ hO λb hb=>List.mem_append_right _ hb) (Sl.nil _ _) (by omega) λv1 oA hA1=>zY [] 5 (k7 1 3 #[YI (i:Int)] λbl=> ?_)) (k7 1 3 #[YI (i:Int)] λbl=>zY [] 3 (yW (g:=jU) (T:=3) (sz:=1) (cp:=c) (A:=some ⟨gv,0,none⟩) tk [⟨bl, #[YI (i:Int)],3⟩,hvB b2 x] [] ob (⟨bl, #[YI (i:Int)],3⟩::([hvB b2 x]++ob)) ([hvB b2 x]++ob) (λw hO=>hO) (λo w hO=>jN hO) g7 qW (λw hO=>hrt w _ hO λb hb=>List.mem_append_right _ hb) (Sl.nil _ _) (by omega) λv1 oA hA1=> ?_))
   all_goals
    obtain ⟨A1,c1,rfl⟩:=Sl.form hA1
    refine zY [] 6 (gV (T:=3) (sz:=1) (m:=1) (cp:=1) [⟨bl, #[YI (i:Int)],3⟩,hvB b2 x] oA ob 0 (⟨bl, #[YI (i:Int)],3⟩::hvB b2 x::(oA++ob)) ([hvB b2 x]++ob) (λw hO=>hO.cast (by simp)) (λo w hO=>jN hO) hA1 Om λv2 oB hB=> ?_)
    obtain ⟨A2,c2,rfl⟩:=Sl.form hB
    refine zY [] 10 (yW (g:=jU) (T:=3) (sz:=1) (cp:=c-tk.length) (A:=some ⟨gv,0+(if c=tk.length then 0 else tk.length*1),none⟩) dk [⟨bl, #[YI (i:Int)],3⟩,hvB b2 x] oB ob ([⟨bl, #[YI (i:Int)],3⟩,hvB b2 x]++oB++ob) ([hvB b2 x]++ob) (λw hO=>hO) (λo w hO=>jN hO) g7 qW (λw hO=>hrp w _ hO λb hb=>List.mem_append_right _ hb) hB Om λv3 oC hC=> ?_)
    exact x_i 6 [] ((i+1:Nat):Int) (zP [] ([hvB b2 x]++oC) (λw hO=>by
     have h1:=hO.past 1 ([hvB b2 x]++oC++ob)
     clear hO
     exact h1.sublist (List.sublist_append_left _ _)) (nx (i+1,tk++[i]++dk,v3,oC) (x.es.length-(i+1)) [] Om ⟨⟨hj,Sl.to hC hlen3 hcel,f1,f2,λh=>absurd h hfin⟩,rfl⟩ Kr Kr))
 ·obtain ⟨f1,f2⟩:= @hins k hk (λj hj=>hlt j hj Om) (λh=>absurd h Om)
  clear nx2 hlk
  refine vE 11 [] (xh_slhi 50056 [] 2 hT l.length c 1 (k:Int) Om Om (.slice (some ⟨gv,0,none⟩) k c) (by rw [Int.toNat_natCast]) (xh_sllo 50063 [] 9 hT l.length c 1 (k:Int) Om Om (.slice (some ⟨gv,0+(if c=k then 0 else k*1),none⟩) (l.length-k) (c-k)) (by rw [Int.toNat_natCast]) ?_))
  have htk:(l.take k).length=k:=by rw [List.length_take];omega
  have hdk:(l.drop k).length=l.length-k:=List.length_drop ..
  have hrt:∀ w L,Own [] W w L->(∀ b∈ob,b∈L)->Reads jU w w.heap.size (some ⟨gv,0,none⟩) (l.take k):=λw L hO hs=>(hrd w L hO hs).fst k
  have hrp:∀ w L,Own [] W w L->(∀ b∈ob,b∈L)->Reads jU w w.heap.size (some ⟨gv,0+(if c=k then 0 else k*1),none⟩) (l.drop k):=λw L hO hs=>Reads.from_ g7 (hrd w L hO hs) hcap k
  have hfin:l.take k++[i]++l.drop k≠[]:=by simp
  have hlen3:(0+k+1)+(l.length-k)=(l.take k++[i]++l.drop k).length:=by simp only [List.length_append,List.length_cons,List.length_nil,htk,hdk];omega
  have hcel:([]++(l.take k).flatMap jU++ #[(YI (i:Int):Value)].toList)++(l.drop k).flatMap jU=(l.take k++[i]++l.drop k).map vZ:=by
   rw [bE,bE,List.map_append,List.map_append];rfl
  generalize htt:l.take k=tk at*
  generalize hdd:l.drop k=dk at*
  subst htk
  rw [←hdk] at hlen3 ⊢
  refine x_h2 [] 3 5 (yW (g:=jU) (T:=3) (sz:=1) (cp:=c) (A:=some ⟨gv,0,none⟩) tk [hvB b2 x] [] ob ([hvB b2 x]++ob) ([hvB b2 x]++ob) (λw hO=>hO) (λo w hO=>hO.sublist (List.Sublist.append_right (List.sublist_append_left _ _) _)) g7 qW (λw hO=>hrt w _ hO λb hb=>List.mem_append_right _ hb) (Sl.nil _ _) (by omega) λv1 oA hA1=>zY [] 5 (k7 1 3 #[YI (i:Int)] λbl=> ?_)) (k7 1 3 #[YI (i:Int)] λbl=>zY [] 3 (yW (g:=jU) (T:=3) (sz:=1) (cp:=c) (A:=some ⟨gv,0,none⟩) tk [⟨bl, #[YI (i:Int)],3⟩,hvB b2 x] [] ob (⟨bl, #[YI (i:Int)],3⟩::([hvB b2 x]++ob)) ([hvB b2 x]++ob) (λw hO=>hO) (λo w hO=>jN hO) g7 qW (λw hO=>hrt w _ hO λb hb=>List.mem_append_right _ hb) (Sl.nil _ _) (by omega) λv1 oA hA1=> ?_))
  all_goals
   obtain ⟨A1,c1,rfl⟩:=Sl.form hA1
   refine zY [] 6 (gV (T:=3) (sz:=1) (m:=1) (cp:=1) [⟨bl, #[YI (i:Int)],3⟩,hvB b2 x] oA ob 0 (⟨bl, #[YI (i:Int)],3⟩::hvB b2 x::(oA++ob)) ([hvB b2 x]++ob) (λw hO=>hO.cast (by simp)) (λo w hO=>jN hO) hA1 Om λv2 oB hB=> ?_)
   obtain ⟨A2,c2,rfl⟩:=Sl.form hB
   refine zY [] 10 (yW (g:=jU) (T:=3) (sz:=1) (cp:=c-tk.length) (A:=some ⟨gv,0+(if c=tk.length then 0 else tk.length*1),none⟩) dk [⟨bl, #[YI (i:Int)],3⟩,hvB b2 x] oB ob ([⟨bl, #[YI (i:Int)],3⟩,hvB b2 x]++oB++ob) ([hvB b2 x]++ob) (λw hO=>hO) (λo w hO=>jN hO) g7 qW (λw hO=>hrp w _ hO λb hb=>List.mem_append_right _ hb) hB Om λv3 oC hC=> ?_)
   exact x_i 6 [] ((i+1:Nat):Int) (zP [] ([hvB b2 x]++oC) (λw hO=>by
    have h1:=hO.past 1 ([hvB b2 x]++oC++ob)
    clear hO
    exact h1.sublist (List.sublist_append_left _ _)) (nx (i+1,tk++[i]++dk,v3,oC) (x.es.length-(i+1)) [] Om ⟨⟨hj,Sl.to hC hlen3 hcel,f1,f2,λh=>absurd h hfin⟩,rfl⟩ Kr Kr))
end
section
open Go.ChangeShapes Go.WideShapes Go.ChangeAt Go.RowKit
theorem open_texts {H:Type}{enc:TypeId×Value->H}{W:World}{base:Nat}{v:Value}{d:DataW H}{ps:List MemPlace}(hval:Value.okWide YP W .any base 85 v)
  (h:DataW.Trod enc YP W 0 (λ_=>true) true 85 v d ps):∃ l:List YL,ReadsT W W.heap.size v l/\l.length<=maxLen∧∀ x∈l,x.length<=maxLen:=by
 obtain ⟨A,len,cap,rfl⟩:=okWide_slice Tryz.underlying85 hval
 obtain ⟨fuel,hf⟩:=h
 rcases open_strings Tryz.underlying85 Tryz.underlying9 strCells1 hf with ⟨hcs,_⟩|⟨a,len',cap',ss,hcs,_,hl,hm,hz,_,hcell,hws⟩
 ·simp [Value.cells] at hcs
  obtain ⟨rfl,rfl,rfl⟩:=hcs
  exact ⟨[],⟨none,0,rfl,λh=>by cases h⟩,by simp,by simp⟩
 ·simp [Value.cells] at hcs
  obtain ⟨rfl,rfl,rfl⟩:=hcs
  simp only [if_true] at hz
  have hlen:((ss.take len).map (·.data.toList)).length=len:=by rw [List.length_map,List.length_take];omega
  refine ⟨(ss.take len).map (·.data.toList),⟨some a,cap,by rw [hlen],λh0=>⟨a,rfl, ?_,λj hj=> ?_⟩⟩,by rw [hlen];omega,λx hx=> ?_⟩
  ·have:=cell_lt (hcell 0 Om)
   rwa [d6] at this
  ·have hj2:j<ss.length:=by omega
   rw [hcell j hj2,List.getElem_map,List.getElem_take]
   simp only [List.getD,List.getElem?_eq_getElem hj2,Option.getD_some]
   rfl
  ·obtain ⟨s,hs,rfl⟩:=List.mem_map.1 hx
   have:=hws s (List.mem_of_mem_take hs)
   rw [q7];exact this
theorem powType:(Tryz.prog.globals[3]?).map (·.type)=some 350:=by kernel_rfl
theorem powNamed : Tryz.prog.globalNamed "internal/strconv.uint64pow10" = some 3 := by kernel_rfl
theorem powCells:Tryz.prog.cellsOf 350=20:=by kernel_rfl
theorem u64Cells:Tryz.prog.cellsOf 67=1:=by kernel_rfl
theorem hasTab_of {W : World} {l : List (String × DataW Unit)} (h : laidMetH YP l W) (e : (l.filter fun x => x.1 == "internal/strconv.uint64pow10") = [("internal/strconv.uint64pow10", Lib.tabData .u64 Lib.pow10Tab)]) : HasTab W := by
 have h2 := h.filter (fun x => x.1 == "internal/strconv.uint64pow10")
 rw [e] at h2
 exact Lib.tabBelow_of_tabIs (Lib.tabIs_of_head (rest:=[]) powNamed powType Tryz.underlying350 Tryz.underlying67 u64Cells powCells h2)
end
section
open Go.ChangeShapes Go.WideShapes Go.ChangeAt Go.RowKit
theorem cells_of_strs {H:Type}{enc:TypeId×Value->H}{P:Program}{w:World}{base:Nat}{sp:Nat->Bool}{held:Bool}{fuel:Nat}{t e:TypeId}{n:Nat}{cs:List Value}{ss:List YL}{p:List MemPlace}
  (ht:P.underlying t=some (.array n e)) (he:P.underlying e=some .string) (hce:P.cellsOf e=1) (hct:P.cellsOf t=n)
  (h:DataW.trod enc P w base sp held fuel t cs=some (.agg (ss.map λs=> .lit (.string s)),p)):cs=ss.map λs=>Value.string (mkS s):=by
 cases fuel with
 |zero=>simp [DataW.trod] at h
 |succ fuel=>
  simp only [DataW.trod,ht,hce,hct,Nat.mul_one] at h
  split at h
  ·rename_i hl
   obtain ⟨xs,hm,hx⟩:=Option.map_eq_some_iff.1 h
   have hxs:xs.map (·.1)=ss.map λs=>(DataW.lit (.string s):DataW H):=by
    have:=congrArg Prod.fst hx
    simpa using this
   have hxl:xs.length=n:=by simpa using Lib.mapM_length hm
   have hzl:ss.length=n:=by
    have:=congrArg List.length hxs
    simp at this
    omega
   apply List.ext_getElem?
   intro i
   by_cases hi:i<n
   ·obtain ⟨b,hb,hf⟩:=Lib.mapM_at hm i i (by simp [hi])
    obtain ⟨s,hc,rfl,_⟩:=DataW.trod_string he hf
    have h1:cs[i]?=some (.string s):=by
     have:=congrArg (·[0]?) hc
     simpa [List.getElem?_take,List.getElem?_drop] using this
    have h2:(xs.map (·.1))[i]?=some (DataW.lit (.string s.data.toList):DataW H):=by simp [hb]
    rw [hxs] at h2
    simp only [List.getElem?_map,Option.map_eq_some_iff,DataW.lit.injEq,Lit.string.injEq] at h2
    obtain ⟨z',hz',e9⟩:=h2
    rw [h1,List.getElem?_map,hz',e9]
    show some (Value.string s)=some (Value.string (mkS s.data.toList))
    rw [show mkS s.data.toList=s from by cases s;unfold mkS;simp]
   ·rw [List.getElem?_eq_none (by omega),List.getElem?_eq_none (by simp;omega)]
  ·cases h
theorem keysType:(Tryz.prog.globals[2]?).map (·.type)=some 112:=by kernel_rfl
theorem keysNamed : Tryz.prog.globalNamed "linchpin/mark.keys" = some 2 := by kernel_rfl
theorem keysCells:Tryz.prog.cellsOf 112=3:=by kernel_rfl
theorem mkLib_of {W : World} {l : List (String × DataW Unit)} (h : laidMetH YP l W) (e : (l.filter fun x => x.1 == "linchpin/mark.keys") = [("linchpin/mark.keys", .agg [.lit (.string [111, 115]), .lit (.string [97, 114, 99, 104]), .lit (.string [97, 98, 105])])]) : MkLib W := by
 have h2 := h.filter (fun x => x.1 == "linchpin/mark.keys")
 rw [e] at h2
 obtain ⟨ps,⟨g',t',cs,fuel,p,q,hg',ht',hvar,hd,_,hps⟩,_,hcell⟩:=h2
 obtain rfl:=Option.some.inj (keysNamed.symm.trans hg')
 obtain rfl:=Option.some.inj (keysType.symm.trans ht')
 have hcs:cs.toList=[[111,115],[97,114,99,104],[97,98,105]].map λs=>Value.string (mkS s):=cells_of_strs (n:=3) Tryz.underlying112 Tryz.underlying9 strCells1 keysCells hd
 have hsz:cs.size=3:=by rw [←Array.length_toList,hcs];rfl
 have hm:MemPlace.cell 2 0∈ps:=by
  rw [hps]
  refine List.mem_append_left _ (List.mem_append_left _ ?_)
  exact MemPlace.mem_row.2 ⟨0,by rw [hsz];decide,rfl⟩
 obtain ⟨⟨c,t,hb⟩,_⟩:=hcell _ _ hm
 have hv : W.var? YP "linchpin/mark.keys" = some c := by
  unfold World.var?
  rw [keysNamed]
  simp only [Option.bind_some,hb]
 have hcc:c=cs:=Option.some.inj (hv.symm.trans hvar)
 refine ⟨(Array.getElem?_eq_some_iff.1 hb).1,t, ?_⟩
 rw [hb,hcc]
 congr 2
 apply Array.toList_inj.1
 rw [hcs]
 rfl
end
section
open Go.ChangeShapes Go.WideShapes Go.ChangeAt Go.RowKit
theorem open_nums {H:Type}{enc:TypeId×Value->H}{W:World}{base:Nat}{v:Value}{d:DataW H}{ps:List MemPlace}(hval:Value.okWide YP W .any base 30 v)
  (h:DataW.Trod enc YP W 0 (λ_=>true) true 30 v d ps):∃ l:List Int,ReadsI W W.heap.size v l/\l.length<=maxLen:=by
 obtain ⟨A,len,cap,rfl⟩:=okWide_slice Tryz.underlying30 hval
 obtain ⟨fuel,hf⟩:=h
 rcases open_ints Tryz.underlying30 Tryz.underlying3 Kr hf with ⟨hcs,_⟩|⟨a,len',cap',zs,hcs,_,hl,hm,hz,_,hcell,_⟩
 ·simp [Value.cells] at hcs
  obtain ⟨rfl,rfl,rfl⟩:=hcs
  exact ⟨[],⟨none,0,rfl,λh=>by cases h⟩,by simp⟩
 ·simp [Value.cells] at hcs
  obtain ⟨rfl,rfl,rfl⟩:=hcs
  simp only [if_true] at hz
  have hlen:(zs.take len).length=len:=by rw [List.length_take];omega
  refine ⟨zs.take len,⟨some a,cap,by rw [hlen],λh0=>⟨a,rfl, ?_,λj hj=> ?_⟩⟩,by rw [hlen];omega⟩
  ·have:=cell_lt (hcell 0 Om)
   rwa [add_block] at this
  ·have hj2:j<zs.length:=by omega
   rw [hcell j hj2,List.getElem_take]
   simp only [List.getD,List.getElem?_eq_getElem hj2,Option.getD_some]
end
end Go.Proofs.YtflhcaljcoekpaaGreatDoor
