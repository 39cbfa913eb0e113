import Derived.Test.YtobimfnmnkegdaaGreatDoorMC7

section
/-
 A parameter that is a manifest, where what came in is of bounded bulk. Conditions: the row's own, and the bound.
-/
namespace Go.Proofs.YtobimfnmnkegdaaGreatDoor
open Go.ChangeShapes Go.WideShapes Go.ChangeAt Go.RowKit Go.Deep
set_option maxRecDepth 100000
set_option linter.unusedVariables false
set_option linter.unusedSimpArgs false

section
variable {H:Type}{enc:TypeId×Value->H}{W:World}
theorem size_pm16:Tryz.prog.cellsOf 57=2:=by kernel_rfl
theorem size_ho16:Tryz.prog.cellsOf 59=2:=by kernel_rfl
theorem size_pms16:Tryz.prog.cellsOf 41=1:=by kernel_rfl
theorem size_hos16:Tryz.prog.cellsOf 42=1:=by kernel_rfl
theorem size_mv16:Tryz.prog.cellsOf 44=11:=by kernel_rfl
def PmK (K:Nat)(y:Pn):Prop:=y.name.length<=K/\y.shelf.length<=K
def HoK (K:Nat)(y:Ho):Prop:=y.name.length<=K/\y.rg.length<=K
theorem cells_pmK {K:Nat}{fuel:Nat}{cs:List Value}{x:DataW H×List MemPlace}(h:DataW.trod enc YP W 0 (λ_=>true) true fuel 57 cs=some x)(hK:Rows.uptoBulk x.1<=K):∃ y:Pn,cs=pmC y/\PmK K y:=by
 obtain ⟨xs,n,_,rfl,hl,hxl,hg⟩:=DataW.trod_struct Tryz.underlying57 h
 rw [size_pm16] at hl
 match cs,hl with
 | [c0,c1],_=>
  have g:∀ i,i<2→∃ y,xs[i]?=some y:=λi hi=>⟨_,List.getElem?_eq_getElem (by rw [hxl];exact hi)⟩
  obtain ⟨y0,e0⟩:=g 0 Om
  obtain ⟨y1,e1⟩:=g 1 Om
  obtain ⟨s0,h0,k0⟩:=xE ((hg 0 _ rfl).trans e0) (Nat.le_trans (xM e0) hK)
  obtain ⟨s1,h1,k1⟩:=xE ((hg 1 _ rfl).trans e1) (Nat.le_trans (xM e1) hK)
  have q0:List.take (Tryz.prog.cellsOf 9) (List.drop 0 [c0,c1])=_:=h0
  rw [kD] at q0
  have q1:List.take (Tryz.prog.cellsOf 9) (List.drop 1 [c0,c1])=_:=h1
  rw [kD] at q1
  obtain rfl:c0=_:=List.singleton_inj.1 q0
  obtain rfl:c1=_:=List.singleton_inj.1 q1
  exact ⟨⟨s0,s1⟩,rfl,⟨k0,k1⟩⟩
theorem cells_pmsK {K:Nat}{fuel:Nat}{cs:List Value}{x:DataW H×List MemPlace}(h:DataW.trod enc YP W 0 (λ_=>true) true fuel 41 cs=some x)(hK:Rows.uptoBulk x.1<=K):∃ (A:Option Addr) (cap:Nat) (l:List _),cs=[.slice A l.length cap]/\Reads pmC W W.heap.size A l/\l.length<=K∧∀ u∈l,(PmK K) u:=by
 rcases DataW.trod_slice Tryz.underlying41 h with ⟨hcs,_⟩|⟨a,len,cap,elems,rest,n,_,hcs,rfl,hb,hl,hm,hlen,hel,_,_⟩
 ·exact ⟨none,0,[],hcs,λh=>by simp at h,Nat.zero_le _,λu hu=>by cases hu⟩
 ·subst hcs
  rw [size_pm16] at hel
  have hn:=Nat.le_trans (wX (elems:=elems) (rest:=rest)) hK
  obtain ⟨l,hll,hr,he⟩:=qR (g:=pmC) (sz:=2) (p:=(PmK K)) (by decide) pZ (W:=W) (a:=a) (len:=len) λi hi=>by
   have h1:=hel i hi
   rw [List.getElem?_eq_getElem Om] at h1
   obtain ⟨cs,e1,e2⟩:=Option.bind_eq_some_iff.1 h1
   obtain ⟨c,e3,e4⟩:=cells_pmK (K:=K) e2 (Nat.le_trans (tG Om) hK)
   exact ⟨c,e4,by rw [e1,e3]⟩
  exact ⟨some a,cap,l,by rw [hll],hr,by omega,he⟩
theorem cells_hoK {K:Nat}{fuel:Nat}{cs:List Value}{x:DataW H×List MemPlace}(h:DataW.trod enc YP W 0 (λ_=>true) true fuel 59 cs=some x)(hK:Rows.uptoBulk x.1<=K):∃ y:Ho,cs=hoC y/\HoK K y:=by
 obtain ⟨xs,n,_,rfl,hl,hxl,hg⟩:=DataW.trod_struct Tryz.underlying59 h
 rw [size_ho16] at hl
 match cs,hl with
 | [c0,c1],_=>
  have g:∀ i,i<2→∃ y,xs[i]?=some y:=λi hi=>⟨_,List.getElem?_eq_getElem (by rw [hxl];exact hi)⟩
  obtain ⟨y0,e0⟩:=g 0 Om
  obtain ⟨y1,e1⟩:=g 1 Om
  obtain ⟨s0,h0,k0⟩:=xE ((hg 0 _ rfl).trans e0) (Nat.le_trans (xM e0) hK)
  obtain ⟨s1,h1,k1⟩:=xE ((hg 1 _ rfl).trans e1) (Nat.le_trans (xM e1) hK)
  have q0:List.take (Tryz.prog.cellsOf 9) (List.drop 0 [c0,c1])=_:=h0
  rw [kD] at q0
  have q1:List.take (Tryz.prog.cellsOf 9) (List.drop 1 [c0,c1])=_:=h1
  rw [kD] at q1
  obtain rfl:c0=_:=List.singleton_inj.1 q0
  obtain rfl:c1=_:=List.singleton_inj.1 q1
  exact ⟨⟨s0,s1⟩,rfl,⟨k0,k1⟩⟩
theorem cells_hosK {K:Nat}{fuel:Nat}{cs:List Value}{x:DataW H×List MemPlace}(h:DataW.trod enc YP W 0 (λ_=>true) true fuel 42 cs=some x)(hK:Rows.uptoBulk x.1<=K):∃ (A:Option Addr) (cap:Nat) (l:List _),cs=[.slice A l.length cap]/\Reads hoC W W.heap.size A l/\l.length<=K∧∀ u∈l,(HoK K) u:=by
 rcases DataW.trod_slice Tryz.underlying42 h with ⟨hcs,_⟩|⟨a,len,cap,elems,rest,n,_,hcs,rfl,hb,hl,hm,hlen,hel,_,_⟩
 ·exact ⟨none,0,[],hcs,λh=>by simp at h,Nat.zero_le _,λu hu=>by cases hu⟩
 ·subst hcs
  rw [size_ho16] at hel
  have hn:=Nat.le_trans (wX (elems:=elems) (rest:=rest)) hK
  obtain ⟨l,hll,hr,he⟩:=qR (g:=hoC) (sz:=2) (p:=(HoK K)) (by decide) tC (W:=W) (a:=a) (len:=len) λi hi=>by
   have h1:=hel i hi
   rw [List.getElem?_eq_getElem Om] at h1
   obtain ⟨cs,e1,e2⟩:=Option.bind_eq_some_iff.1 h1
   obtain ⟨c,e3,e4⟩:=cells_hoK (K:=K) e2 (Nat.le_trans (tG Om) hK)
   exact ⟨c,e4,by rw [e1,e3]⟩
  exact ⟨some a,cap,l,by rw [hll],hr,by omega,he⟩
theorem open_manB {base:Nat}{v:Value}{d:DataW H}{ps:List MemPlace}(hval:Value.okWide YP W .any base 44 v)(h:DataW.Trod enc YP W 0 (λ_=>true) true 44 v d ps)(hK:Rows.uptoBulk d<=1048576):∃ x:Mv,v=mvV x/\MnIn W W.heap.size x:=by
 obtain ⟨cs,hc,_⟩:=okWide_struct Tryz.underlying44 hval
 obtain ⟨fuel,hf⟩:=h
 obtain ⟨xs,n,_,hd,hl,hxl,hg⟩:=DataW.trod_struct Tryz.underlying44 hf
 obtain rfl:d= .agg (xs.map (·.1)):=congrArg Prod.fst hd
 rw [size_mv16] at hl
 have g:∀ i,i<3→∃ y,xs[i]?=some y:=λi hi=>⟨_,List.getElem?_eq_getElem (by rw [hxl];exact hi)⟩
 obtain ⟨y0,e0⟩:=g 0 Om
 obtain ⟨y1,e1⟩:=g 1 Om
 obtain ⟨y2,e2⟩:=g 2 Om
 obtain ⟨r,hr,kr⟩:=cells_rvK ((hg 0 _ rfl).trans e0) (Nat.le_trans (xM e0) hK)
 obtain ⟨pA,pc,pl,hp,rp,kp,tp⟩:=cells_pmsK ((hg 1 _ rfl).trans e1) (Nat.le_trans (xM e1) hK)
 obtain ⟨hA,hc',hl',hh,rh,kh,th⟩:=cells_hosK ((hg 2 _ rfl).trans e2) (Nat.le_trans (xM e2) hK)
 generalize hcv:v.cells.toList=L at*
 have hr2:List.take (Tryz.prog.cellsOf 29) (List.drop 0 L)=_:=hr
 have hp2:List.take (Tryz.prog.cellsOf 41) (List.drop 9 L)=_:=hp
 have hh2:List.take (Tryz.prog.cellsOf 42) (List.drop 10 L)=_:=hh
 rw [size_rv12] at hr2
 rw [size_pms16] at hp2
 rw [size_hos16] at hh2
 refine ⟨⟨r,pA,pc,pl,hA,hc',hl'⟩, ?_,⟨kr.inn,⟨rp,tp,kp⟩,⟨rh,th,kh⟩⟩⟩
 refine (back10 hc (hcv.trans (?_:L=rvC r++[.slice pA pl.length pc,.slice hA hl'.length hc']))).trans rfl
 match L,hl with
 | [c0,c1,c2,c3,c4,c5,c6,c7,c8,c9,c10],_=>
  obtain rfl:c9=_:=List.singleton_inj.1 hp2
  obtain rfl:c10=_:=List.singleton_inj.1 hh2
  have hr3:[c0,c1,c2,c3,c4,c5,c6,c7,c8]=rvC r:=hr2
  show [c0,c1,c2,c3,c4,c5,c6,c7,c8]++_=_
  rw [hr3]
end

end Go.Proofs.YtobimfnmnkegdaaGreatDoor
end
