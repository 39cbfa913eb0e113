/-
 What the statement's proof leans on: the ways of walking, plain mathematics, and what the program's functions return; each theorem says on what conditions.
-/
import Derived.Lib.MakeNoZero
import Derived.Laws.IdiomCopy
import Derived.Test.YteghandhpbmpgaaGreatDoorRC3
set_option maxRecDepth 1000000
set_option maxHeartbeats 8000000
set_option linter.unusedVariables false
set_option linter.unusedSimpArgs false
set_option linter.unnecessarySimpa false
namespace Go.Proofs.YteghandhpbmpgaaGreatDoor
open Go.RowKit

section
def sT (o:Oper):TypeId:=match o.op with
 | .store T _ _=>T
 |_=>0
def sP (o:Oper):Operand:=match o.op with
 | .store _ p _=>p
 |_=> .tmp 0
def sQ (o:Oper):Operand:=match o.op with
 | .store _ _ q=>q
 |_=> .tmp 0
def sDn (o:Oper):Bool:=o.dst.isNone
theorem sDn_is {o:Oper}(h:sDn o=true):o.dst=none:=by
 unfold sDn at h
 cases hd:o.dst with
 |none=>rfl
 |some d=>rw [hd] at h;cases h
section
variable {M:List Nat}{P:Program}{n:Nat}{ops:Array Oper}{W:World}{L L0:List Blk}{Q:Exit->Act->World->Prop}{fuel:Nat}{listed:Array Bool}{f:Nat->Value}
theorem hl_storeS {i:Nat}(oi:Oper)(k:Nat)(x:Blk){T:TypeId}{p q:Operand}{off:Nat}(v:Value)(sz:Nat)(hi':ops[i]?=some oi)(hw:zS ops n f oi=true)(ho:oi.op= .store T p q)(hd:oi.dst=none)(hL:L[k]?=some x)
  (hp:ev n f p= .pointer (some ⟨x.b,off,none⟩)) (hq:ev n f q=v) (hz:(P.info? T).map (·.size)=some sz) (hs:v.cells.size=sz) (hle:off+sz<=x.cs.size) (h1:(v.cells.toList.all λu=>u.oneCell')=true)
  (hsub:∀ w,Own M W w (L.set k ⟨x.b,zR x.cs off v.cells,x.ty⟩)->Own M W w L0)
  (h:p6 M P n ops W L0 Q fuel (listed.setIfInBounds i true) (L.set k ⟨x.b,zR x.cs off v.cells,x.ty⟩) f):tA M P n ops W L0 Q fuel listed i L f:=
 hs_step hi' hw λw hO=>by
  cases ht:P.info? T with
  |none=>rw [ht] at hz;cases hz
  |some t=>
   rw [ht] at hz
   have et:t.size=sz:=Option.some.inj hz
   have hst:=run_storeCells_at (P:=P) x.b off x.ty v.cells.toList 0 x.cs w (hO.get hL) (by simp;omega) (List.all_eq_true.1 h1)
   have hO':=hO.put hL (zR x.cs off v.cells)
   unfold Oper.wp
   rw [g8]
   have hr:(execOp (ev n f) oi).run P w= .ok .skip (w.setRow x.b (zR x.cs off v.cells)):=by
    unfold execOp
    simp only [ho,hp,hq,Instr.storeAt,Instr.sureAddr,Sem.run_bind,Sem.run_pure,Result.andThen_ok,storeVar,sizeOf,typeInfo,ht,hs,et,run_program]
    simp only [ne_eq,not_true_eq_false,if_false]
    have:(storeCells ⟨x.b,off,none⟩ v.cells.toList).run P w= .ok () (w.setRow x.b (zR x.cs off v.cells)):=by
     rw [hst];unfold zR;simp
    simp [this]
   rw [hr]
   show Own M W _ L0/\wpAnyH P .any ops Q (λw=>Own M W w L0) fuel (listed.setIfInBounds i true) ((Fr n f).put oi.dst undef) _
   rw [jJ,hd]
   exact ⟨hsub _ hO',h.go _ hO'⟩
end
section
variable {M:List Nat}{P:Program}{n:Nat}{W:World}{Q:Exit->Act->World->Prop}{c:Xc}
theorem x_sto (q:Nat)(x:Blk)(off sz:Nat)(v:Value)(L1:List Blk)(hle:off+sz<=x.cs.size)(hg:zF M P n W Q ⟨.ops (xA c) (xT c),c.k,L1.set q ⟨x.b,zR x.cs off v.cells,x.ty⟩,c.f⟩)
  (hkt:(c.L,c.top,zS (xA c) n c.f (xO c),(xO c).op,sDn (xO c),ev n c.f (sP (xO c)),ev n c.f (sQ (xO c)),L1[q]?,(P.info? (sT (xO c))).map (·.size),v.cells.size,v.cells.toList.all λu=>u.oneCell')
   =(L1,.ops (xA c) (xO c::xT c),true,.store (sT (xO c)) (sP (xO c)) (sQ (xO c)),true,.pointer (some ⟨x.b,off,none⟩),v,some x,some sz,sz,true):=by kernel_rfl):zF M P n W Q c:=by
 simp only [Prod.mk.injEq] at hkt
 obtain ⟨f1,e1,e2,e3,e4,e5,e6,e7,e8,e9,e10⟩:=hkt
 have:c=⟨.ops (xA c) (xO c::xT c),c.k,L1,c.f⟩:=by rw [←e1,←f1]
 rw [this]
 exact ⟨λhq=>s_storeS q x v sz e2 e3 (sDn_is e4) e7 e5 e6 e8 e9 hle e10 (hg.go hq)⟩
theorem xh_sto (q:Nat)(x:Blk)(off sz:Nat)(v:Value)(L1 L0:List Blk)(hle:off+sz<=x.cs.size)(hsub:∀ w,Own M W w (L1.set q ⟨x.b,zR x.cs off v.cells,x.ty⟩)->Own M W w L0)
  (hg:zF M P n W Q ⟨.hps (xA c) ((hS c).setIfInBounds (hI c) true) (hU c) (hL c),c.k,L1.set q ⟨x.b,zR x.cs off v.cells,x.ty⟩,c.f⟩)
  (hkt:(c.L,hL c,c.top,(xA c)[hI c]?,zS (xA c) n c.f (xO c),(xO c).op,sDn (xO c),ev n c.f (sP (xO c)),ev n c.f (sQ (xO c)),L1[q]?,(P.info? (sT (xO c))).map (·.size),v.cells.size,v.cells.toList.all λu=>u.oneCell')
   =(L1,L0,.hst (xA c) (hS c) (hU c) (hL c) (hI c),some (xO c),true,.store (sT (xO c)) (sP (xO c)) (sQ (xO c)),true,.pointer (some ⟨x.b,off,none⟩),v,some x,some sz,sz,true):=by kernel_rfl):zF M P n W Q c:=by
 simp only [Prod.mk.injEq] at hkt
 obtain ⟨f1,f2,e1,e0,e2,e3,e4,e5,e6,e7,e8,e9,e10⟩:=hkt
 have:c=⟨.hst (xA c) (hS c) (hU c) (hL c) (hI c),c.k,L1,c.f⟩:=by rw [←e1,←f1]
 rw [←f2] at hsub
 rw [this]
 exact ⟨λhq hs=>hl_storeS (xO c) q x v sz e0 e2 e3 (sDn_is e4) e7 e5 e6 e8 e9 hle e10 hsub (hg.go hq hsub)⟩
theorem xh_seqv (t:Nat)(h:List Nat)(i:Nat)(a b:List UInt8)(hg:zF M P n W Q (xHn (xgo P n t h c) i (.bool (decide (a=b)))))
  (hkt:(xgl P n t h c,pW n i (xgo P n t h c),(xOi i (xgo P n t h c)).op,ev n (xgo P n t h c).f (oX (xOi i (xgo P n t h c))),ev n (xgo P n t h c).f (oY (xOi i (xgo P n t h c))))
   =(xgr P n t h c,fF i (xgo P n t h c),.binOp .eql (oT (xOi i (xgo P n t h c))) (oX (xOi i (xgo P n t h c))) (oY (xOi i (xgo P n t h c))) (oU (xOi i (xgo P n t h c))),.string (mkS a),.string (mkS b)):=by kernel_rfl):zF M P n W Q c:=by
 simp only [Prod.mk.injEq] at hkt
 obtain ⟨hk,e1,e2,e3,e4⟩:=hkt
 exact zK h c hk (xtake (λw _=>gE e2 e3 e4 rfl w) hg e1)
theorem xh_sllo (t:Nat)(h:List Nat)(i:Nat){A:Option Addr}{b off:Nat}(hA:A=some ⟨b,off,none⟩)(N cp sz:Nat)(j:Int)(h0:0<=j)(h1:j<=N)(v:Value)(hv: .slice (some ⟨b,off+(if cp=j.toNat then 0 else j.toNat*sz),none⟩) (N-j.toNat) (cp-j.toNat)=v)(hg:zF M P n W Q (xHn (xgo P n t h c) i v))
  (hkt:(xgl P n t h c,pW n i (xgo P n t h c),(slQ (xOi i (xgo P n t h c))).2.2.2,ev n (xgo P n t h c).f (slQ (xOi i (xgo P n t h c))).2.1,ev n (xgo P n t h c).f (slQ (xOi i (xgo P n t h c))).2.2.1,P.underlying (slQ (xOi i (xgo P n t h c))).1,(P.info? (xEl P (slQ (xOi i (xgo P n t h c))).1)).map (·.size))
   =(xgr P n t h c,fF i (xgo P n t h c),true,.slice A N cp,YI j,some (.slice (xEl P (slQ (xOi i (xgo P n t h c))).1)),some sz):=by kernel_rfl):zF M P n W Q c:=by
 simp only [Prod.mk.injEq] at hkt
 obtain ⟨hk,e1,e2,e3,e4,e5,e6⟩:=hkt
 subst hA
 exact zK h c hk (xtake (λw _=>by rw [run_sllo (slQ_op e2) e3 e4 e5 e6 h0 h1 w,hv]) hg e1)
theorem xh_slhi (t:Nat)(h:List Nat)(i:Nat){A:Option Addr}{b off:Nat}(hA:A=some ⟨b,off,none⟩)(N cp sz:Nat)(j:Int)(h0:0<=j)(h1:j<=cp)(v:Value)(hv: .slice (some ⟨b,off,none⟩) j.toNat cp=v)(hg:zF M P n W Q (xHn (xgo P n t h c) i v))
  (hkt:(xgl P n t h c,pW n i (xgo P n t h c),(shQ (xOi i (xgo P n t h c))).2.2.2,ev n (xgo P n t h c).f (shQ (xOi i (xgo P n t h c))).2.1,ev n (xgo P n t h c).f (shQ (xOi i (xgo P n t h c))).2.2.1,P.underlying (shQ (xOi i (xgo P n t h c))).1,(P.info? (xEl P (shQ (xOi i (xgo P n t h c))).1)).map (·.size))
   =(xgr P n t h c,fF i (xgo P n t h c),true,.slice A N cp,YI j,some (.slice (xEl P (shQ (xOi i (xgo P n t h c))).1)),some sz):=by kernel_rfl):zF M P n W Q c:=by
 simp only [Prod.mk.injEq] at hkt
 obtain ⟨hk,e1,e2,e3,e4,e5,e6⟩:=hkt
 subst hA
 exact zK h c hk (xtake (λw _=>by rw [run_slhi (shQ_op e2) e3 e4 e5 e6 h0 h1 w,hv]) hg e1)
end
end
section
set_option linter.unnecessarySimpa false
def PutR (v:Value)(l:List (List UInt8))(s:List UInt8)(v':Value)(ob:List Blk):Prop:=(v'=v/\putT l s=l/\ob=[])\/SlT v' (putT l s) ob
end
section
def nmF (k:Nat):List UInt8:=if k=0 then dfl else if k=1 then [120] else if k=2 then [121] else [122]
def ItemG (needs:List Nv)(keep:Nat->Bool)(s:List UInt8):Prop:=
 (∃ m∈needs,¬ m.opt=[]/\s=[63]++m.opt)\/(∃ m∈needs,∃ w,m.any=[w]/\s=w.name++[47]++[120])∨∃ j,j<4/\keep j=true/\s=nmF j
structure OfG (needs:List Nv)(keep:Nat->Bool)(l:List (List UInt8))(b:Nat):Prop where
 rise:qK l=true
 len:l.length<=b
 all:∀ s∈l,ItemG needs keep s
structure FeatsG (needs:List Nv)(keep:Nat->Bool)(k:Nat)(xs:List Fv):Prop where
 names:xs.map Fv.name=((List.range k).filter keep).map nmF
 each:∀ x∈xs,OfG needs keep x.of 5
structure OfS (A:Option Addr)(c:Nat)(l:List (List UInt8))(o3:List Blk):Prop where
 ex:∃ o,SlT (.slice A l.length c) l o∧∀ b∈o,b∈o3
 bare:l=[]->A=none/\c=0
structure FtO (A:Option Addr)(c:Nat)(xs:List Fv)(o7 o2:List Blk):Prop where
 top:Sl 82 2 (.slice A xs.length c) xs.length (xs.flatMap fvC) o7
 each:∀ x∈xs,∃ o,SlT (.slice x.A x.of.length x.cap) x.of o∧∀ b∈o,b∈o2
theorem FtO.nil:FtO none 0 [] [] []:=⟨Sl.nil _ _,λx h=>by simp at h⟩
theorem FtO.more {A:Option Addr}{c:Nat}{xs:List Fv}{o7 o2 o2':List Blk}(h:FtO A c xs o7 o2)(hs:∀ b∈o2,b∈o2'):FtO A c xs o7 o2':=⟨h.top,λx hx=>by
 obtain ⟨o,h1,h2⟩:=h.each x hx
 exact ⟨o,h1,λb hb=>hs b (h2 b hb)⟩⟩
theorem FtO.add {A A':Option Addr}{c c':Nat}{xs:List Fv}{o7 o7' o2:List Blk}{x:Fv}(h:FtO A c xs o7 o2)(ht:Sl 82 2 (.slice A' (xs.length+1) c') (xs.length+1) (xs.flatMap fvC++fvC x) o7')(hx:∃ o,SlT (.slice x.A x.of.length x.cap) x.of o∧∀ b∈o,b∈o2):FtO A' c' (xs++[x]) o7' o2:=
 ⟨by rw [List.length_append,List.length_singleton,List.flatMap_append,List.flatMap_singleton];exact ht,λy hy=>by
  rcases List.mem_append.1 hy with hy|hy
  ·exact h.each y hy
  ·rw [List.mem_singleton.1 hy];exact hx⟩
end
section
theorem jO (x:Nv):(nvC x).length=3:=rfl
theorem p9 (x:Wv):(wvC x).length=4:=rfl
end
section
structure Bv where
 name:List UInt8
 rng:List UInt8
 wh:List UInt8
def bvC (x:Bv):List Value:=[.string (mkS x.name),.string (mkS x.rng),.string (mkS x.wh)]
structure BarG (own:Nat)(x:Bv):Prop where
 name:∃ k,k<4/\x.name=nameT ((own+1+k) % 5)
 rng:FewT x.rng
 wh:WhenT x.wh
structure NsO (A:Option Addr)(c:Nat)(xs:List Nv)(o1 o2:List Blk):Prop where
 top:Sl 74 3 (.slice A xs.length c) xs.length (xs.flatMap nvC) o1
 each:∀ x∈xs,∃ o,WsO x.A x.cap x.any o∧∀ b∈o,b∈o2
theorem NsO.nil:NsO none 0 [] [] []:=⟨Sl.nil _ _,λx h=>by simp at h⟩
structure Rv where
 name:List UInt8
 maj:Int
 min:Int
 pat:Int
 pre:List UInt8
 bld:List UInt8
 nA:Option Addr
 nc:Nat
 needs:List Nv
 bA:Option Addr
 bc:Nat
 bars:List Bv
 fA:Option Addr
 fc:Nat
 fts:List Fv
def rvC (x:Rv):List Value:=[.string (mkS x.name),YI x.maj,YI x.min,YI x.pat,.string (mkS x.pre),.string (mkS x.bld),.slice x.nA x.needs.length x.nc,.slice x.bA x.bars.length x.bc,.slice x.fA x.fts.length x.fc]
def rvV (x:Rv):Value:= .agg #[.string (mkS x.name),YI x.maj,YI x.min,YI x.pat,.string (mkS x.pre),.string (mkS x.bld),.slice x.nA x.needs.length x.nc,.slice x.bA x.bars.length x.bc,.slice x.fA x.fts.length x.fc]
def PbG (pre bld:List UInt8):Prop:=(pre=[]/\bld=[])\/(pre=[114,99,46,49]/\bld=[])\/(pre=[]/\bld=[55])
structure RecG (own:Nat)(keep:Nat->Bool)(x:Rv):Prop where
 name:x.name=nameT (own % 5)
 ver:∃ a b:Nat,a<3/\b<2/\x.maj=a/\x.min=b/\x.pat=0
 pb:PbG x.pre x.bld
 nlen:x.needs.length<=2
 needs:∀ m∈x.needs,NeedG own m
 blen:x.bars.length<=1
 bars:∀ b∈x.bars,BarG own b
 fts:FeatsG x.needs keep 4 x.fts
structure RecO (x:Rv)(ob:List Blk):Prop where
 ex:∃ o1 o2 o4 o7 o8,ob=o4++(o1++o2)++(o7++o8)/\NsO x.nA x.nc x.needs o1 o2/\Sl 80 3 (.slice x.bA x.bars.length x.bc) x.bars.length (x.bars.flatMap bvC) o4/\FtO x.fA x.fc x.fts o7 o8
theorem NsO.reads {A:Option Addr}{c:Nat}{xs:List Nv}{o1 o2 L:List Blk}{M:List Nat}{W w:World}(h:NsO A c xs o1 o2)(hO:Own M W w L)(h1:∀ b∈o1,b∈L)(h2:∀ b∈o2,b∈L):Reads nvC w w.heap.size A xs∧∀ m∈xs,Reads wvC w w.heap.size m.A m.any:=
 ⟨Sl.reads h.top rfl hO h1,λm hm=>by
  obtain ⟨o,⟨⟨p1,p2,rfl,hp,_⟩⟩,ho⟩:=h.each m hm
  exact Sl.reads hp rfl hO λb hb=>h2 b (ho b (List.mem_append_left _ hb))⟩
def NeedR (own:Nat)(v:Value)(ob:List Blk):Prop:=∃ x,v=nvV x/\NeedG own x/\WsO x.A x.cap x.any ob
end
section
def Wv.wt (x:Wv):Wt:=⟨x.name,x.rng,x.fs,x.bare⟩
def Nv.nt (x:Nv):Nt:=⟨x.any.map Wv.wt,x.wh,x.opt⟩
theorem pR (x:Bv):(bvC x).length=3:=rfl
def bvV (x:Bv):Value:= .agg #[.string (mkS x.name),.string (mkS x.rng),.string (mkS x.wh)]
def Bv.bt (x:Bv):Bt:=⟨x.name,x.rng,x.wh⟩
def Rv.ver (x:Rv):Ver:=⟨x.maj,x.min,x.pat,x.pre,x.bld⟩
def Rv.rt (x:Rv):Rt:=⟨x.name,x.ver,x.needs.map Nv.nt,x.bars.map Bv.bt,yO x.fts⟩
structure RcIn (w:World)(B:Nat)(x:Rv):Prop where
 needs:Reads nvC w B x.nA x.needs
 any:∀ n∈x.needs,Reads wvC w B n.A n.any
 wfs:∀ n∈x.needs,∀ u∈n.any,Reads yV w B u.A u.fs
 bars:Reads bvC w B x.bA x.bars
 fts:FtIn w B x.fA x.fts
 nn:x.needs.length<=5000
 na:∀ n∈x.needs,n.any.length<=5000
 nf:∀ n∈x.needs,∀ u∈n.any,u.fs.length<=5000
 nb:x.bars.length<=5000
 sn:x.name.length<=1000000/\x.pre.length<=1000000/\x.bld.length<=1000000
 sw:∀ n∈x.needs,n.wh.length<=1000000/\n.opt.length<=1000000
 su:∀ n∈x.needs,∀ u∈n.any,u.name.length<=1000000/\u.rng.length<=1000000∧∀ s∈u.fs,s.length<=1000000
 sb:∀ b∈x.bars,b.name.length<=1000000/\b.rng.length<=1000000/\b.wh.length<=1000000
theorem RcIn.on {w w':World}{B B':Nat}{x:Rv}(h:RcIn w B x)(hb:Below B w w')(hB:B<=B'):RcIn w' B' x:=
 ⟨h.needs.on hb hB,λn hn=>(h.any n hn).on hb hB,λn hn u hu=>(h.wfs n hn u hu).on hb hB,h.bars.on hb hB,h.fts.on hb hB,h.nn,h.na,h.nf,h.nb,h.sn,h.sw,h.su,h.sb⟩
structure RcSm (w:World)(B:Nat)(x:Rv):Prop where
 needs:Reads nvC w B x.nA x.needs
 any:∀ n∈x.needs,Reads wvC w B n.A n.any
 wfs:∀ n∈x.needs,∀ u∈n.any,Reads yV w B u.A u.fs
 bars:Reads bvC w B x.bA x.bars
 fts:FtIn w B x.fA x.fts
 nn:x.needs.length<=5000
 na:∀ n∈x.needs,n.any.length<=5000
 nf:∀ n∈x.needs,∀ u∈n.any,u.fs.length<=5000
 nb:x.bars.length<=5000
end
section
set_option linter.unnecessarySimpa false
theorem reads_t {w:World}{A:Option Addr}{cap:Nat}{l:List (List UInt8)}{B:Nat}(h:Reads yV w B A l)(hB:B<=B):ReadsT w B (.slice A l.length cap) l:=
 ⟨A,cap,rfl,λh0=>by
  obtain ⟨b,off,e,hlt,hc⟩:=h h0
  refine ⟨⟨b,off,none⟩,e,hlt,λj hj=> ?_⟩
  rw [xG]
  refine hc j _ ?_
  rw [←kS]
  unfold jM
  rw [List.getElem?_map,List.getElem?_eq_getElem hj];rfl⟩
theorem r12when_any (s:List UInt8)(W:World)(hs:s.length<=1000000):YC 118 #[.string (mkS s)] W (YR (.string (mkS (v8 s))) W):=by
 refine zE Tryz.func118 (x2 4 [] s [] (λh=> ?_) (λh=> ?_))
 ·exact z7 [] (.string ⟨#[]⟩) λw hO=>⟨by rw [show v8 s=[] from if_pos h];rfl,hO.below⟩
 ·refine zW 6 [] pA s (zW 7 [] (pA++s) [10] ?_ ?_) ?_
  ·exact z7 [] (.string (mkS (pA++s++[10]))) λw hO=>⟨by rw [show v8 s=pA++s++[10] from if_neg h],hO.below⟩
  ·unfold pA;simp only [List.length_append,List.length_cons,List.length_nil];omega
  ·unfold pA;simp only [List.length_cons,List.length_nil];omega
theorem r12wished_any (x:Wv)(W:World)(hv:Reads yV W W.heap.size x.A x.fs)(hn:x.fs.length<=5000)(ht:(kI x.wt).length<=100000000):YC 117 #[wvV x] W (YR (.string (mkS (kI x.wt))) W):=by
 have hT:(kI x.wt).length=4+x.name.length+1+(bF x.fs).length+1+4+1+x.rng.length+1:=by
  unfold kI dW txAny vN fG Wv.wt
  cases x.bare<;>simp only [List.length_append,List.length_cons,List.length_nil,if_true,Bool.false_eq_true,if_false]
 rw [hT] at ht
 have main:∀ (fl kd:List UInt8),fl=bF x.fs->kd=dW x.bare->txAny++x.name++[32]++fl++[32]++kd++[32]++x.rng++[10]=kI x.wt:=λfl kd h1 h2=>by rw [h1,h2];rfl
 have hk4:(dW x.bare).length=4:=by unfold dW;cases x.bare<;>rfl
 have hJ:∀ w,Below W.heap.size W w->x.fs≠[]->YC 119 #[.slice x.A x.fs.length x.cap,.int .u8 44] w (YR (.string (mkS (bF x.fs))) w):=λw hb hne=>by
  have hw:bF x.fs=zG 44 x.fs:=if_neg hne
  rw [hw]
  exact rjoin_any _ x.fs 44 w (reads_t (hv.on hb hb.size) (Nat.le_refl _)) (by rw [←hw];omega) Om
 refine zE Tryz.func117 (yN [] λb1=>dB 8 (α:=List UInt8) (λfl=>[(1,Zp b1 0),(3,.string (mkS fl)),(4,.string (mkS fG))]) (λ_=>[⟨b1, #[.string (mkS x.name),.string (mkS x.rng),.slice x.A x.fs.length x.cap,.bool x.bare],77⟩]) (λfl=>fl=bF x.fs) [0] (λnj=>x_now 8 ((0:Int)<(x.fs.length:Int)) (λh=> ?_) (λh=> ?_)) (λfl g hfl=> ?_))
 ·refine z8 (v:= .string (mkS (bF x.fs))) [0] (λw hO=>hJ w hO.below (λe=>by rw [e] at h;simp at h)) (nj (bF x.fs) [] rfl Kr)
 ·exact nj [45] [] (show [45]=bF x.fs from by unfold bF;rw [if_pos (List.eq_nil_of_length_eq_zero Om)]) Kr
 refine dB 13 (α:=List UInt8) (λkd=>[(1,Zp b1 0),(3,.string (mkS fl)),(4,.string (mkS kd))]) (λ_=>[⟨b1, #[.string (mkS x.name),.string (mkS x.rng),.slice x.A x.fs.length x.cap,.bool x.bare],77⟩]) (λkd=>kd=dW x.bare) [0] (λnj=>zU 13 x.bare (λh=>nj vN [] (by rw [h];rfl) Kr) (λh=>nj fG [] (by rw [h];rfl) Kr)) (λkd g2 hkd=> ?_)
 have hfl':fl.length=(bF x.fs).length:=by rw [hfl]
 have hkd':kd.length=4:=by rw [hkd];exact hk4
 have ha:txAny.length=4:=rfl
 refine zW 16 [0] txAny x.name (zW 17 [] (txAny++x.name) [32] (zW 19 [] (txAny++x.name++[32]) fl (zW 20 [] (txAny++x.name++[32]++fl) [32] (zW 22 [] (txAny++x.name++[32]++fl++[32]) kd (zW 23 [] (txAny++x.name++[32]++fl++[32]++kd) [32] (zW 26 [0] (txAny++x.name++[32]++fl++[32]++kd++[32]) x.rng (zW 27 [] (txAny++x.name++[32]++fl++[32]++kd++[32]++x.rng) [10] ?_)))))))
 exact z7 [] (.string (mkS (txAny++x.name++[32]++fl++[32]++kd++[32]++x.rng++[10]))) λw hO=>⟨by rw [main fl kd hfl hkd],hO.below⟩
end
section
theorem dL (b:UInt8):∀ (k:Nat) (s:List UInt8),Lib.splitK [b] 0 k s=bH b k s
 |0,s=>rfl
 |k+1,s=>by
  have hc:=cutAt_cut b s
  have hge:=Lib.index_ge s [b]
  unfold Lib.splitK bH
  rw [←hc]
  unfold Lib.cut
  by_cases h:Lib.index s [b]= -1
  ·have h2:¬ 0<=Lib.index s [b]:=by omega
   simp [h]
  ·have h2:0<=Lib.index s [b]:=by omega
   simp [h,h2,dL b k]
theorem pcsB_more (b:UInt8):∀ (k:Nat) (s:List UInt8),s.length<=k->bH b k s=bH b (k+1) s
 |0,s,h=>by
  obtain rfl:=List.eq_nil_of_length_eq_zero (Nat.le_zero.1 h)
  rfl
 |k+1,s,h=>by
  have hl:=dA b s
  rw [bH]
  conv=>rhs;rw [bH]
  cases hq:(zA b s).2.2 with
  |false=>rw [if_neg Bool.false_ne_true,if_neg Bool.false_ne_true]
  |true=>
   rw [hq,if_pos rfl] at hl
   rw [if_pos rfl,if_pos rfl,pcsB_more b k _ Om]
theorem pcsB_min (b:UInt8)(s:List UInt8):∀ k:Nat,bH b (min k s.length) s=bH b k s
 |0=>by rw [Nat.zero_min]
 |k+1=>by
  by_cases h:s.length<=k
  ·rw [Nat.min_eq_right Om,←pcsB_more b k s h,←pcsB_min b s k,Nat.min_eq_right h]
  ·rw [Nat.min_eq_left Om]
theorem dP (b:UInt8):∀ (k:Nat) (s:List UInt8),1<=(bH b k s).length/\(bH b k s).length<=k+1
 |0,s=>⟨Nat.le_refl _,Nat.le_refl _⟩
 |k+1,s=>by
  have h:=dP b k (zA b s).2.1
  unfold bH
  split
  ·simp only [List.length_cons];omega
  ·simp
theorem tF (b:UInt8)(s:List UInt8):(zD b [] s).length<=s.length+1:=by
 rw [←pB b s,dL]
 have h:=(dP b (min (Lib.count s [b]) s.length) s).2
 rw [pcsB_min] at h
 omega
theorem split32_any (s:List UInt8)(n:Int)(W:World)(hs:s.length<=1000000)(hn:n= -1\/1<=n/\n<=1000):
  YC 235 #[.string (mkS s),.string ⟨#[32]⟩,YI 0,YI n] W λe w'=>∃ v' ob',e= .returned v'/\SlT v' (if n<0 then zD 32 [] s else bH 32 (n.toNat-1) s) ob'/\Own [] W w' ob':=by
 have hsz:=zQ s
 have hI:∀ (x:ByteArray) (c:Array Value),x.size<=(mkS s).size->YC 283 #[.string x,.string ⟨#[32]⟩] (W.alloc (.cells c 9)) λe w'=>e= .returned (YI (Lib.indexB x ⟨#[32]⟩))/\w'=W.alloc (.cells c 9):=
  λx c _=>(Tryz.strings_Index_one x 32 _).mono λe w' ⟨he,hw⟩=>⟨by rw [he,dD];try rfl,hw⟩
 have hC:YC 282 #[.string (mkS s),.string ⟨#[32]⟩] W λe w'=>e= .returned (YI (Lib.countB (mkS s) ⟨#[32]⟩))/\w'=W:=
  (Tryz.strings_Count_one (mkS s) 32 W).mono λe w' ⟨he,hw⟩=>⟨by rw [he];show _=Ending.returned (Value.int .i64 ((Lib.count (mkS s).data.toList [32]:Nat):Int));rw [Lib.count_one];rfl,hw⟩
 obtain ⟨cn,hcn⟩:∃ cn,Lib.count s [32]=cn:=⟨_,rfl⟩
 have hcB:Lib.countB (mkS s) ⟨#[32]⟩=cn:=by unfold Lib.countB;rw [mk_data,show (⟨#[32]⟩:ByteArray).data.toList=[32] from rfl,hcn]
 have hcl:cn<=s.length:=by rw [←hcn,Lib.count_one];exact List.count_le_length
 obtain ⟨N,hN⟩:∃ N:Nat,(N:Int)=min (if n<0 then (Lib.countB (mkS s) ⟨#[32]⟩:Int)+1 else n) (((mkS s).size:Int)+1):=by
  refine ⟨(min (if n<0 then (Lib.countB (mkS s) ⟨#[32]⟩:Int)+1 else n) (((mkS s).size:Int)+1)).toNat,Int.toNat_of_nonneg ?_⟩
  split<;>omega
 have c:=Any.strings_genSplit_core Tryz.lays221 Kr (mkS s) ⟨#[32]⟩ 0 n N W Om (by decide) (Nat.zero_le _) hI hC Om Om hN
 rw [hcB,hsz] at hN
 have hB:Lib.splitB ⟨#[32]⟩ 0 (N-1) (mkS s)=(if n<0 then zD 32 [] s else bH 32 (n.toNat-1) s).map mkS:=by
  have h:=tG [32] (N-1) s
  rw [show (mkS [32]:ByteArray)=⟨#[32]⟩ from rfl] at h
  rw [h,dL]
  congr 1
  split
  ·rename_i h0
   rw [if_pos h0] at hN
   rw [show N-1=cn by omega,←dL,←hcn,pB]
  ·rename_i h0
   rw [if_neg h0] at hN
   rw [←pcsB_min 32 s (n.toNat-1)]
   congr 1
   omega
 rw [hB] at c
 generalize hl:(if n<0 then zD 32 [] s else bH 32 (n.toNat-1) s)=l at c ⊢
 have hle:l.length<=N:=by
  rw [←hl]
  split
  ·rename_i h0
   rw [if_pos h0] at hN
   rw [←pB 32 s,dL,hcn]
   have:=(dP 32 cn s).2
   omega
  ·rename_i h0
   rw [if_neg h0] at hN
   have h1:=(dP 32 (n.toNat-1) s).2
   have h2:=(dP 32 (min (n.toNat-1) s.length) s).2
   rw [pcsB_min] at h2
   omega
 have hNm:N<=1000001:=by omega
 rw [List.length_map] at c
 refine Calls.mono c λe w' ⟨he,hw⟩=> ?_
 subst hw
 refine ⟨_,_,he,⟨by rw [wT];omega,.inr ⟨W.heap.size,N,_,rfl,rfl,hle,by unfold maxLen;omega,by rw [Lib.cellsOf_size (by rw [List.length_map];exact hle),Nat.mul_one], ?_⟩⟩,(Own.start [] W).alloc _ _⟩
 unfold Lib.cellsOf
 rw [List.map_map,List.take_append_of_le_length (by rw [List.length_map];omega),List.take_of_length_le (by rw [List.length_map];omega)]
 rfl
theorem splitN32_any (s:List UInt8)(n:Int)(W:World)(hs:s.length<=1000000)(hn:n= -1\/1<=n/\n<=1000):YC 182 #[.string (mkS s),.string ⟨#[32]⟩,YI n] W λe w'=>∃ v' ob',e= .returned v'/\SlT v' (if n<0 then zD 32 [] s else bH 32 (n.toNat-1) s) ob'/\Own [] W w' ob':=by
 have hc:∀ w,Below W.heap.size W w->YC 235 #[.string (mkS s),.string ⟨#[32]⟩,YI 0,YI n] w λe w'=>∃ v ob,e= .returned v/\SlT v (if n<0 then zD 32 [] s else bH 32 (n.toNat-1) s) ob/\Own [] w w' ob:=λw _=>split32_any s n w hs hn
 generalize (if n<0 then zD 32 [] s else bH 32 (n.toNat-1) s)=l at hc ⊢
 refine zE Tryz.func182 (kP (R:=λv ob=>SlT v l ob) [] (λw hO=>hc w hO.below) λv ob hR=> ?_)
 exact z7 [] v λw hO=>⟨v,ob,rfl,hR,hO.past 0 _⟩
theorem qHole_any (A:Option Addr)(cap:Nat)(l:List (List UInt8))(W:World)(hv:Reads yV W W.heap.size A l)(hn:l.length<=2000000):YC 183 #[.slice A l.length cap,.string ⟨#[]⟩] W (YR (.bool (!noE l)) W):=by
 have key:∀ w,Below W.heap.size W w->YC 236 #[.slice A l.length cap,.string ⟨#[]⟩] w λe w'=>∃ v,e= .returned v/\(∃ z:Int,v=YI z/\decide (0<=z)= !noE l)/\Below w.heap.size w w':=λw0 hb0=>by
  have hv0:=hv.on hb0 hb0.size
  refine zE Tryz.func236 (zO (α:=Nat) (λi=>[(0,.slice A l.length cap),(1,.string (mkS [])),(7,YI (l.length:Int)),(8,YI (i:Int))]) (λ_=>[]) (λi m=>(i<=l.length∧∀ y∈l.take i,y≠[])/\m=l.length-i) 0 l.length [] ⟨⟨Nat.zero_le _,λy h=>by simp at h⟩,rfl⟩ ?_)
  rintro i mm g kk ⟨⟨hi,hno⟩,hmm⟩ nx hkk
  subst hkk
  refine zB 9 [] ((i:Int)<(l.length:Int)) (λh9=> ?_) (λh9=> ?_)
  rotate_left
  ·refine z7 [] (YI (-1)) λw hO=>⟨_,rfl,⟨-1,rfl, ?_⟩,hO.below⟩
   have hall:=yQ (p:=λy:List UInt8=>y≠[]) (show l.length<=i by omega) hno
   rw [show noE l=true from List.all_eq_true.2 λy hy=>by simpa using hall y hy];rfl
  have hj:i<l.length:=by omega
  obtain ⟨eb,eo,hA,hel⟩:=hv0.elem zX i hj
  have hgo:=y9 (p:=λy:List UInt8=>y≠[]) hj hno
  have hsm:l[i]∈l:=List.getElem_mem hj
  have hel0:∀ w,Below w0.heap.size w0 w->(loadVar 9 ⟨eb,eo+i*1+0,none⟩).run Tryz.prog w= .ok (.string (mkS l[i])) w:=λw hw=>hel w hw _ 0 _ Kr
  generalize l[i]=y at hel0 hgo hsm
  refine zJ 14 [] hA l.length cap i 1 hj (zH 15 [] 9 eb (eo+i*1+0) (.string (mkS y)) (λw hO=>hel0 w hO.below) (x2 16 [] [] y (λh16=> ?_) (λh16=> ?_)))
  ·refine z7 [] (YI (i:Int)) λw hO=>⟨_,rfl,⟨(i:Int),rfl, ?_⟩,hO.below⟩
   rw [show noE l=false from List.all_eq_false.2 ⟨y,hsm,by simp [←h16]⟩,decide_eq_true Om];rfl
  ·exact x_i 18 [] ((i+1:Nat):Int) (nx (i+1) (l.length-(i+1)) [] Om ⟨⟨hj,hgo (λe=>h16 e.symm)⟩,rfl⟩ Kr Kr)
 refine zE Tryz.func183 (x_callE (R:=λv=>∃ z:Int,v=YI z/\decide (0<=z)= !noE l) [] (λw hO=>key w hO.below) ?_)
 rintro v ⟨z,rfl,hz⟩
 exact z7 [] (.bool (decide (0<=z))) λw hO=>⟨by rw [hz],hO.below⟩
end
section
theorem grow_inner (B b n:Nat)(w:World)(hB:B<=b)(hbk:w.heap[b]?=some (.cells #[.pointer (some ⟨b,0,none⟩),.slice none 0 0] 131 (0,0)))(hBw:B<=w.heap.size)(hn:n<=281474976710656):
  YC 350 #[.pointer (some ⟨b,0,none⟩),YI n] w λe w'=>e= .returned (.tuple #[])/\(Lib.BuilderAt 131 5 B b (.pointer (some ⟨b,0,none⟩)) [] w'/\Below B w w'):=by
 obtain ⟨cs,hrun,hle,hmax⟩:=Lib.run_makeNoZero (P:=Tryz.prog) w.drew #[3] 90 5 Tryz.underlying90 n hn
 have hlt:b<w.heap.size:=by
  rcases Nat.lt_or_ge b w.heap.size with h|h
  ·exact h
  ·simp [Array.getElem?_eq_none h] at hbk
 have hw:IntKind.i64.wrap (IntKind.i64.wrap 0+(n:Int))=n:=by
  rw [IntKind.wrap_i64,IntKind.wrap_i64];omega
 have hcall:(callFunc 359 #[YI (IntKind.i64.wrap (IntKind.i64.wrap 0+(n:Int)))]).run Tryz.prog w.drew= .ok (.value (.slice (some ⟨w.drew.heap.size,0,none⟩) n cs.size)) (w.drew.drew.drew.alloc (.cells cs 5)):=by
  rw [hw,run_callFunc_extern Tryz.func359 Kr Kr Kr (e:=Extern.BytealgMakeNoZero.makeNoZero #[3] #[90]) Kr,hrun]
  rfl
 have c1:w.drew.cell? ⟨b,1,none⟩=some (.slice none 0 0):=by
  have:w.drew.heap[b]?=_:=hbk
  rw [Lib.cell_of_heap this];rfl
 have hb2:(w.alloc (.cells cs 5)).heap[b]?=_:=(Lib.alloc_old w _ b hlt).trans hbk
 have c2:(w.alloc (.cells cs 5)).cell? ⟨b,1,none⟩=some (.slice none 0 0):=by rw [Lib.cell_of_heap hb2];rfl
 have f2:(w.alloc (.cells cs 5)).frozen? ⟨b,1,none⟩=false:=Lib.frozen_of_heap hb2 1
 have hcopy:∀ W:World,(Builtin.copy_ #[90,90] 3 #[.slice (some ⟨w.heap.size,0,none⟩) 0 cs.size,.slice none 0 0]).run Tryz.prog W= .ok (goInt 0) W:=
  λW=>run_copy_none W 90 90 3 5 _ _ 0 cs.size 0 0 Tryz.underlying90 Kr rfl
 clear hw hlt hb2
 have mixed:Tryz.prog.follows .mixedOrders=true:=by kernel_rfl
 go_enter Tryz.func350,Tryz.ntmps350
 go_wp2
 have hfin:=Lib.grown_fresh (T:=131) (e:=5) (cs:=cs) hB hbk hBw (hmax (by unfold maxLen;omega)) (by decide)
 have hbel:Below B w ((w.alloc (.cells cs 5)).setCell ⟨b,1,none⟩ (.slice (some ⟨w.heap.size,0,none⟩) 0 cs.size)).drew.drew.drew:=((((Below.refl B w).alloc hBw _).setCell (p:=⟨b,1,none⟩) hB _).drew).drew.drew
 go_region_o
 all_goals (go_wp2;go_end0;exact ⟨rfl,hfin.1,hbel⟩)
theorem grow_fresh (B b n:Nat)(w:World)(hB:B<=b)(hbk:w.heap[b]?=some (.cells #[.pointer none,.slice none 0 0] 131 (0,0)))(hBw:B<=w.heap.size)(hn:n<=281474976710656):
  YC 335 #[.pointer (some ⟨b,0,none⟩),YI n] w λe w'=>e= .returned (.tuple #[])/\(Lib.BuilderAt 131 5 B b (.pointer (some ⟨b,0,none⟩)) [] w'/\Below B w w'):=by
 obtain ⟨w1,hw1⟩:∃ x,x=w.setCell ⟨b,0,none⟩ (.pointer (some ⟨b,0,none⟩)):=⟨_,rfl⟩
 have hbk1:w1.heap[b]?=some (.cells #[.pointer (some ⟨b,0,none⟩),.slice none 0 0] 131 (0,0)):=by
  rw [hw1];simp [World.setCell,Array.getElem?_modify,hbk]
 have hs1:B<=w1.heap.size:=by rw [hw1];simpa [World.setCell] using hBw
 have hb1:Below B w w1:=by rw [hw1];exact (Below.refl B w).setCell (p:=⟨b,0,none⟩) hB _
 have hc:YC 223 #[.pointer (some ⟨b,0,none⟩)] w λe w'=>e= .returned (.tuple #[])/\w'=w1:=by
  rw [hw1]
  exact t6 b w (by rw [Lib.cell_of_heap hbk];rfl) (by simp [World.shape?,hbk]) (Lib.frozen_of_heap hbk 0)
 clear hw1
 have c1:w1.cell? ⟨b,1,none⟩=some (.slice none 0 0):=by rw [Lib.cell_of_heap hbk1];rfl
 have c1':w1.drew.cell? ⟨b,1,none⟩=some (.slice none 0 0):=c1
 have hU:Lib.BuilderAt 131 5 B b (.pointer (some ⟨b,0,none⟩)) [] w1:=⟨hB,.slice none 0 0,hbk1,World.ownsRow_nil _ _ _ _,by simp [Value.ownBlock]⟩
 have mixed:Tryz.prog.follows .mixedOrders=true:=by kernel_rfl
 go_enter Tryz.func335,Tryz.ntmps335
 go_wp2_with (go_at_call 223;refine hc.mono ?_;rintro e w' ⟨rfl,hw⟩;rw [hw])
 go_region_o
 all_goals go_wp2_with (go_at_call 350;refine (grow_inner B b n w1.drew hB hbk1 hs1 hn).mono ?_;rintro e w' ⟨rfl,h1,h2⟩)
 all_goals first
  |(go_end0;exact ⟨rfl,h1,hb1.drew.trans h2⟩)
  |(go_end0;exact ⟨rfl,hU.drew,hb1.drew⟩)
end
section
structure HasLib (w:World):Prop where
 tab:HasTab w
 max:∃ m,w.cell? ⟨1,0,none⟩=some (YI m)
theorem HasLib.on {w w':World}(h:HasLib w)(hb:Below w.heap.size w w'):HasLib w':=
 ⟨h.tab.on hb,let ⟨m,hm⟩:=h.max;⟨m,(hb.cell (World.block_lt_of_cell? _ _ hm)).trans hm⟩⟩
theorem hasLib_of {W:World}(ht:HasTab W)(hS:W.ShapedOpen Tryz.prog):HasLib W:=⟨ht,Tryz.laysM143.s1_3 W hS⟩
theorem split_own (s sep:List UInt8)(l:List (List UInt8))(W:World)(h0:1<=sep.length)(hs:s.length<=1000000)(hl:Lib.splitB (mkS sep) 0 (Lib.countB (mkS s) (mkS sep)) (mkS s)=l.map mkS)(ht:HasLib W):
  YC 239 #[.string (mkS s),.string (mkS sep)] W λe w'=>∃ v' ob',e= .returned v'/\SlT v' l ob'/\Own [] W w' ob':=by
 obtain ⟨m,hm⟩:=ht.max
 have hz:(mkS sep).size=sep.length:=zQ sep
 have hlen:=Lib.splitB_all (mkS sep) Om 0 _ (mkS s) rfl
 have hle:=Lib.countB_le (mkS sep) Om (mkS s).size (mkS s) (Nat.le_refl _)
 rw [zQ] at hle
 rw [hl,List.length_map] at hlen
 refine (Tryz.strings_Split (mkS s) (mkS sep) m W (by rw [zQ];omega) hm Om).mono λe w' ⟨he,hw⟩=> ?_
 subst hw
 rw [hl,List.map_map] at*
 rw [←hlen] at he
 refine ⟨_,_,he,slt_lit l W.heap.size _ (by unfold jM;rfl) (by unfold maxLen;omega),(Own.start [] W).alloc _ _⟩
theorem split_bars (s:List UInt8)(W:World)(hs:s.length<=1000000)(ht:HasLib W):
  YC 239 #[.string (mkS s),.string ⟨#[124,124]⟩] W λe w'=>∃ v' ob',e= .returned v'/\SlT v' (xM [] s) ob'/\Own [] W w' ob':=
 split_own s [124,124] (xM [] s) W (by decide) hs (splitB_alts s) ht
theorem split_comma (s:List UInt8)(W:World)(hs:s.length<=1000000)(ht:HasLib W):
  YC 239 #[.string (mkS s),.string ⟨#[44]⟩] W λe w'=>∃ v' ob',e= .returned v'/\SlT v' (zD 44 [] s) ob'/\Own [] W w' ob':=
 split_own s [44] (zD 44 [] s) W (by decide) hs (splitB_cuts 44 s) ht
theorem trim_any (s:List UInt8)(W:World)(hs:s.length<=1000000):
  YC 255 #[.string (mkS s),.string ⟨#[32]⟩] W (YR (.string (mkS (yD s))) W):=
 (Tryz.strings_Trim_one (mkS s) 32 (by decide) W (by rw [zQ];omega)).mono λe w' ⟨he,hw⟩=>
  ⟨by rw [he,mk_data,trim_bare];rfl,hw.elim (λq=>q▸Below.refl _ _) (λq=>q▸(Below.refl _ _).drew)⟩
def wD (sep:List UInt8):List (List UInt8)->List UInt8
 | []=>[]
 |x::r=>sep++x++wD sep r
theorem joinB_T (sep:List UInt8):∀ (r:List (List UInt8)) (x:List UInt8),jS sep (x::r)=x++wD sep r
 | [],x=>by simp [jS,wD]
 |y::r,x=>by rw [joinB_two,joinB_T sep r y,wD];simp only [List.append_assoc]
theorem joinT_snoc (sep x:List UInt8):∀ (r:List (List UInt8)),wD sep (r++[x])=wD sep r++(sep++x)
 | []=>by simp [wD]
 |y::r=>by rw [List.cons_append,wD,wD,joinT_snoc sep x r];simp only [List.append_assoc]
theorem joinT_len {sep:List UInt8}(hs:sep.length<=100):∀ {r:List (List UInt8)},(∀ x∈r,x.length<=1000000)->(wD sep r).length<=r.length*1000100
 | [],_=>by simp [wD]
 |y::r,h=>by
  have h1:=joinT_len hs (r:=r) λx hx=>h x (List.mem_cons_of_mem _ hx)
  have h2:=h y (List.mem_cons_self ..)
  rw [wD];simp only [List.length_append,List.length_cons];omega
theorem bc_two (x y z:List UInt8):Lib.byteCells (x++(y++z))=Lib.byteCells x++Lib.strCells (mkS y)++Lib.strCells (mkS z):=by
 rw [dH,dH,←Lib.byteCells_append,←Lib.byteCells_append,List.append_assoc]
theorem join_many (sep x0:List UInt8)(r:List (List UInt8))(b off cap:Nat)(w:World)(hc:∀ j (h:j<(x0::r).length),w.cell? ⟨b,off+j,none⟩=some (.string (mkS ((x0::r)[j]))))
  (hb:b<w.heap.size) (hr:1<=r.length) (hn:r.length<=1000) (h0:sep≠[]) (hs:sep.length<=100) (hx:∀ x∈x0::r,x.length<=1000000) (hcap:r.length+1<=cap):
  YC 306 #[.slice (some ⟨b,off,none⟩) (r.length+1) cap,.string (mkS sep)] w (YR (.string (mkS (jS sep (x0::r)))) w):=by
 have HT:=Lib.hid (show ∀ k,(x0++wD sep (r.take k)).length<=2000000000 from λk=>by
  have h1:=joinT_len hs (r:=r.take k) λx hm=>hx x (List.mem_cons_of_mem _ (List.mem_of_mem_take hm))
  have h2:=hx x0 (List.mem_cons_self ..)
  have h3:(r.take k).length<=1000:=Nat.le_trans (by rw [List.length_take];exact Nat.min_le_right ..) hn
  rw [List.length_append];omega)
 have HC:=Lib.hid hc
 have HX:=Lib.hid hx
 have HJ:=Lib.hid (joinB_T sep r x0)
 have hx0:(mkS x0).size<=1000000:=by rw [zQ];exact hx x0 (List.mem_cons_self ..)
 obtain ⟨S,hS⟩:∃ q,q=mkS sep:=⟨_,rfl⟩
 have hSz:S.size=sep.length:=by rw [hS,zQ]
 have hS1:1<=S.size:=by cases sep with
  |nil=>exact absurd rfl h0
  |cons _ _=>rw [hSz];simp
 have hS9:S.size<=100:=by omega
 rw [←hS]
 have HS:=Lib.hid hS
 obtain ⟨N,hN⟩:∃ q,q=r.length+1:=⟨_,rfl⟩
 rw [←hN] at hcap ⊢
 have hcast:((N:Int) -1)=(r.length:Int):=by omega
 have hmul:S.size*r.length<=100000:=Nat.le_trans (Nat.mul_le_mul hS9 hn) (by decide)
 have hdv:¬ (9223372036854775807/((N:Int) -1)<=(S.size:Int)):=by
  rw [hcast]
  intro q
  have h1:(9223372036854775807:Int)<((S.size:Int)+1)*(r.length:Int):=
   Int.lt_mul_of_ediv_lt Om (Int.lt_add_one_of_le q)
  have h2:((S.size:Int)+1)*(r.length:Int)=((S.size*r.length+r.length:Nat):Int):=by rw [Int.add_mul,Int.one_mul];push_cast;rfl
  omega
 have hprod:wrap64 ((S.size:Int)*((N:Int) -1))=((S.size*r.length:Nat):Int):=by
  rw [hcast,show (S.size:Int)*(r.length:Int)=((S.size*r.length:Nat):Int) from by push_cast;rfl]
  exact IntWalk.wrap64_in _ ⟨by omega,by omega⟩
 generalize S.size*r.length=M at hmul hprod
 have hne0:((N:Int)==0)=false:=beq_eq_false_iff_ne.2 Om
 have hne1:((N:Int)==1)=false:=beq_eq_false_iff_ne.2 Om
 have hN2:2<=N:=by omega
 have hN9:N<=1001:=by omega
 have HN:=Lib.hid hN
 have H0:=Lib.hid h0
 clear hc hx hs h0 hS hSz hcast hN hr hn
 go_enter Tryz.func306,Tryz.ntmps306
 go_wp2
 go_loop [5,41] (λn i=>∃ (k t:Nat),k<=N/\i=YI k/\n=YI t/\t<=100000+k*1000000) (λ_ i=>N-(intOf i).toNat)
 case atStart=>exact ⟨0,M,Nat.zero_le _,rfl,rfl,by omega⟩
 case round=>
  obtain ⟨k,t,hk,rfl,rfl,ht⟩:=hrel
  by_cases hkn:k<N
  ·have hkl:k<(x0::r).length:=by have:=HN.out;rw [List.length_cons];omega
   obtain ⟨y,hy⟩:∃ q,q=mkS ((x0::r)[k]):=⟨_,rfl⟩
   have hyz:y.size<=1000000:=by rw [hy,zQ];exact HX.out _ (List.getElem_mem hkl)
   have hck:w.cell? ⟨b,off+k,none⟩=some (.string y):=by rw [hy];exact HC.out k hkl
   clear hy hkl
   go_wp2
   exact ⟨⟨k+1,t+y.size,by omega,by go_num,by go_num,by omega⟩,by simp [intOf];omega⟩
  ·obtain rfl:k=N:=by omega
   go_wp2_with (go_at_call 335;refine (grow_fresh w.heap.size w.heap.size t _ (Nat.le_refl _) (heap_alloc_new w _) (by simp) Om).mono ?_)
   rintro e w1 rfl h1 hb1
   have hb1':Below w.heap.size w w1:=((Below.refl w.heap.size w).alloc (Nat.le_refl _) _).trans hb1
   have hsz1:=hb1'.size
   have hc0:w1.cell? ⟨b,off,none⟩=some (.string (mkS x0)):=by
    rw [hb1'.cell (p:=⟨b,off,none⟩) hb]
    exact HC.out 0 (by simp)
   have H1:=Lib.hid (Or.inr h1:Lib.IsBuilder 131 5 w.heap.size w.heap.size [] w1)
   have HB1:=Lib.hid hb1'
   clear h1 hb1 hb1' ht hprod hmul hdv hkn hk
   obtain ⟨X,hX⟩:∃ q,q=mkS x0:=⟨_,rfl⟩
   rw [←hX] at hc0 hx0
   have HX0:=Lib.hid hX
   clear hX
   go_wp2_with (go_at_call 163;refine (vH w.heap.size w.heap.size [] X w1 H1.out ?_ hsz1).mono ?_)
   ·simp;omega
   rintro e w2 ⟨rfl,h2,hb2⟩
   have H2:=Lib.hid (show Lib.IsBuilder 131 5 w.heap.size w.heap.size (Lib.byteCells (x0++wD sep (r.take 0))) w2 from by
    rw [HX0.out,dH,List.nil_append] at h2
    rw [List.take_zero,wD,List.append_nil];exact Or.inr h2)
   have HB2:=Lib.hid (HB1.out.trans hb2)
   clear h2 hb2 hsz1 hc0
   have hrk:k-1=r.length:=by have:=HN.out;omega
   go_wp2
   go_loopw [65] (λi wr=>∃ j:Nat,j<=r.length/\i=YI j/\Hid (Lib.IsBuilder 131 5 w.heap.size w.heap.size (Lib.byteCells (x0++wD sep (r.take j))) wr)/\Hid (Below w.heap.size w wr)) (λi _=>r.length-(intOf i).toNat)
   case atStart=>exact ⟨0,Nat.zero_le _,rfl,H2,HB2⟩
   case round=>
    obtain ⟨j,hj,rfl,HB,HW⟩:=hrel
    have hsz:=HW.out.size
    by_cases hjr:j<r.length
    ·obtain ⟨y,hy⟩:∃ q,q=mkS r[j]:=⟨_,rfl⟩
     have hyz:y.size<=1000000:=by rw [hy,zQ];exact HX.out _ (List.mem_cons_of_mem _ (List.getElem_mem hjr))
     have hck:wr.cell? ⟨b,off+1+j,none⟩=some (.string y):=by
      rw [HW.out.cell (p:=⟨b,off+1+j,none⟩) hb,hy,show off+1+j=off+(j+1) from by omega]
      exact HC.out (j+1) (by simp;omega)
     have HY:=Lib.hid hy
     have hlen:(Lib.byteCells (x0++wD sep (r.take j))).length<=2000000000:=by rw [Lib.byteCells_length];exact HT.out j
     have HE:=Lib.hid (show Lib.byteCells (x0++wD sep (r.take j))++Lib.strCells S++Lib.strCells y=Lib.byteCells (x0++wD sep (r.take (j+1))) from by
      rw [HS.out,HY.out,List.take_succ_eq_append_getElem hjr,joinT_snoc,←List.append_assoc,bc_two])
     clear hy
     go_wp2_with (go_at_call 163;refine (vH w.heap.size w.heap.size _ S wr HB.out ?_ hsz).mono ?_)
     ·omega
     rintro e w3 ⟨rfl,h3,hb3⟩
     have hsz3:=Nat.le_trans hsz hb3.size
     have H3:=Lib.hid h3
     have HB3:=Lib.hid hb3
     clear h3 hb3
     go_wp2_with (go_at_call 163;refine (vH w.heap.size w.heap.size _ y w3 (Or.inr H3.out) ?_ hsz3).mono ?_)
     ·rw [List.length_append,Lib.strCells_length];omega
     rintro e w4 ⟨rfl,h4,hb4⟩
     rw [HE.out] at h4
     have H4:=Lib.hid (Or.inr h4:Lib.IsBuilder 131 5 w.heap.size w.heap.size (Lib.byteCells (x0++wD sep (r.take (j+1)))) w4)
     have HB4:=Lib.hid ((HW.out.trans HB3.out).trans hb4)
     clear h4 hb4
     go_wp2
     go_roundw
     case rel=>exact ⟨j+1,by omega,by go_num,H4,HB4⟩
     case measure=>simp [intOf];omega
    ·obtain rfl:j=r.length:=by omega
     have HB':=HB.out
     rw [List.take_length,←HJ.out] at HB'
     have hne:jS sep (x0::r)≠[]:=by
      rw [HJ.out]
      cases r with
      |nil=>simp at hrk;omega
      |cons y r=>rw [wD];intro q;exact H0.out (List.append_eq_nil_iff.1 (List.append_eq_nil_iff.1 (List.append_eq_nil_iff.1 q).2).1).1
     have HBF:=Lib.hid HB'
     clear HB'
     go_wp2_with (go_at_call 107;refine (string_any w.heap.size w.heap.size _ _ HBF.out hne).mono ?_)
     rintro e w5 ⟨rfl,hb5⟩
     go_wp2
     go_ret
     exact ⟨rfl,HW.out.trans hb5⟩
theorem join_one (sep x:List UInt8)(A:Option Addr)(cap:Nat)(w:World)(hv:Reads yV w w.heap.size A [x])(hcap:1<=cap):
  YC 306 #[.slice A 1 cap,.string (mkS sep)] w (YR (.string (mkS x)) w):=by
 obtain ⟨b,off,rfl,hb,hcell⟩:=hv (by simp)
 have hc:w.cell? ⟨b,off,none⟩=some (.string (mkS x)):=hcell 0 _ rfl
 go_enter Tryz.func306,Tryz.ntmps306
 go_wp2
 go_ret
 exact ⟨rfl,Below.refl _ _⟩
theorem join_none (sep:List UInt8)(A:Option Addr)(cap:Nat)(w:World):
  YC 306 #[.slice A 0 cap,.string (mkS sep)] w (YR (.string (mkS [])) w):=by
 go_enter Tryz.func306,Tryz.ntmps306
 go_wp2
 go_ret
 exact ⟨rfl,Below.refl _ _⟩
theorem sjoin_any (sep:List UInt8)(l:List (List UInt8))(A:Option Addr)(cap:Nat)(w:World)(hv:Reads yV w w.heap.size A l)(h0:sep≠[])(hs:sep.length<=100)(hn:l.length<=1000)(hx:∀ x∈l,x.length<=1000000)(hcap:l.length<=cap):
  YC 306 #[.slice A l.length cap,.string (mkS sep)] w (YR (.string (mkS (jS sep l))) w):=by
 match l,hv,hn,hx,hcap with
 | [],_,_,_,_=>exact join_none sep A cap w
 | [x],hv,_,_,hcap=>exact join_one sep x A cap w hv hcap
 |x::y::r,hv,hn,hx,hcap=>
  obtain ⟨b,off,rfl,hb,hcell⟩:=hv (by simp)
  refine join_many sep x (y::r) b off cap w (λj hj=> ?_) hb (by simp) (by simp at hn ⊢;omega) h0 hs hx hcap
  refine hcell j _ ?_
  rw [←kS];unfold jM
  rw [List.getElem?_map,List.getElem?_eq_getElem hj];rfl
theorem SlT.caps {A:Option Addr}{n cap:Nat}{l:List (List UInt8)}{ob:List Blk}(h:SlT (.slice A n cap) l ob):n=l.length/\l.length<=cap:=by
 rcases h.2 with ⟨h1,h2,_⟩|⟨g,c,cur,h1,_,h3,_⟩
 ·injection h1 with q1 q2 q3
  exact ⟨by omega,by omega⟩
 ·injection h1 with q1 q2 q3
  exact ⟨q2,by omega⟩
end
section
structure SetIn (w:World)(B:Nat)(A A':Option Addr)(a:St):Prop where
 rel:Reads spanC w B A a.rel
 pre:Reads spanC w B A' a.pre
 lr:a.rel.length<=100000
 lp:a.pre.length<=100000
 sr:ShortL a.rel
 sp:ShortL a.pre
end
section
end
section
def ordC:List Nat:=[2,4,6,1,3,5,7,8]
def fndC (s:List UInt8):List Nat->Int×List UInt8
 | []=>if s.getLast?=some 42 then (9,s) else (7,s)
 |k::r=>if yL s (y7 k) then ((k:Int),s.drop (y7 k).length) else fndC s r
theorem begins_le {s t:List UInt8}(h:yL s t=true):t.length<=s.length:=by
 have q:=congrArg List.length (of_decide_eq_true h)
 rw [List.length_take] at q;omega
theorem pre_hit {s:List UInt8}{k:Nat}(hk:k<s.length)(h:s[k]=45)(hf:(45:UInt8)∉s.take k):zA 45 s=(s.take k,s.drop (k+1),true):=by
 have e:s=s.take k++45::s.drop (k+1):=by
  have:=(List.take_append_drop k s).symm
  rw [List.drop_eq_getElem_cons hk,h] at this;exact this
 conv=>lhs;rw [e]
 exact bC 45 _ _ hf
theorem pre_on {s:List UInt8}{k:Nat}(hk:k<s.length)(h:¬ s[k]=45)(hf:(45:UInt8)∉s.take k):(45:UInt8)∉s.take (k+1):=by
 rw [List.take_succ_eq_append_getElem hk]
 intro hm
 rcases List.mem_append.1 hm with hm|hm
 ·exact hf hm
 ·exact h (List.mem_singleton.1 hm).symm
theorem wK {c:UInt8}{n:Nat}(hn:n<256):(c.toNat:Int)=(n:Int)↔c=UInt8.ofNat n:=by
 constructor
 ·intro h
  apply UInt8.toNat_inj.1
  rw [UInt8.toNat_ofNat']
  omega
 ·intro h
  rw [h,UInt8.toNat_ofNat'];omega
theorem last_is {s:List UInt8}(h:0<s.length){c:UInt8}(hc:s[s.length-1]'Om=c):s.getLast?=some c:=by
 rw [List.getLast?_eq_getElem?,List.getElem?_eq_getElem (by omega),hc]
def jC (l:List (List UInt8)):Bool:=decide (l.length<=3) && l.all qA
def gL (l:List (List UInt8)):Ver:=if jC l then ⟨zI (tg l 0),zI (tg l 1),zI (tg l 2),[],[]⟩ else Ver.zero
theorem tgi_get {l:List (List UInt8)}{i:Nat}(h:i<l.length):l[i]=tg l i:=by
 unfold tg
 rw [List.getElem?_eq_getElem h];rfl
theorem nums_bad {l:List (List UInt8)}{i:Nat}(h:i<l.length)(hb:qA (tg l i)=false):jC l=false:=by
 unfold jC
 cases hq:l.all qA with
 |false=>simp
 |true=>rw [←tgi_get h,List.all_eq_true.1 hq _ (List.getElem_mem h)] at hb;cases hb
theorem nums_big {l:List (List UInt8)}(h:3<l.length):jC l=false:=by unfold jC;rw [decide_eq_false Om];rfl
theorem nums_all {l:List (List UInt8)}(h3:l.length<=3)(h:∀ i,i<l.length->qA (tg l i)=true):jC l=true:=by
 unfold jC
 rw [decide_eq_true h3,List.all_eq_true.2];· rfl
 intro x hx
 obtain ⟨i,hi,rfl⟩:=List.mem_iff_getElem.1 hx
 rw [tgi_get hi];exact h i hi
theorem tgi_out {l:List (List UInt8)}{i:Nat}(h:l.length<=i):zI (tg l i)=0:=by
 unfold tg
 rw [List.getElem?_eq_none h];rfl
theorem rcpre_any (s:List UInt8)(W:World)(hs:s.length<=1000000):YC 320 #[.string (mkS s)] W (YR (.tuple #[.string (mkS (zA 45 s).1),.string (mkS (zA 45 s).2.1)]) W):=by
 refine zE Tryz.func320 (zO (α:=Nat) (λk=>[(0,.string (mkS s)),(4,YI (k:Int))]) (λ_=>[]) (λk m=>(k<=s.length/\(45:UInt8)∉s.take k)/\m=s.length-k) 0 (s.length-0) [] ⟨⟨Nat.zero_le _,by simp⟩,rfl⟩ ?_)
 rintro k m g kk ⟨hrel,hmm⟩ nx hkk
 subst hkk
 have hkl:=hrel.1
 refine zB 8 [] ((k:Int)<(s.length:Int)) (λh1=> ?_) (λh1=> ?_)
 ·have hk:k<s.length:=by omega
  exact bV 13 [] s k hk s[k] rfl (zB 14 [] ((s[k].toNat:Int)=45) (λh2=>x_shi 17 [] s (k:Int) Om Om (.string (mkS (s.take k))) rfl (x_i 20 [] ((k+1:Nat):Int) (x_slo 21 [] s ((k+1:Nat):Int) Om Om (.string (mkS (s.drop (k+1)))) rfl (yI [] (.string (mkS (s.take k))) (.string (mkS (s.drop (k+1)))) λw hO=>⟨by rw [pre_hit hk ((wK (n:=45) (by decide)).1 h2) hrel.2],hO.below⟩)))) (λh2=>x_i 10 [] ((k+1:Nat):Int) (nx (k+1) (s.length-(k+1)) [] Om ⟨⟨by omega,pre_on hk (λq0=>h2 ((wK (n:=45) (by decide)).2 q0)) hrel.2⟩,rfl⟩ Kr Kr)))
 ·exact yI [] (.string (mkS s)) (.string (mkS [])) λw hO=>⟨by rw [jH 45 s (by have q0:=hrel.2;rwa [List.take_of_length_le Om] at q0)],hO.below⟩
theorem rcsplit_any (s:List UInt8)(W:World)(hs:s.length<=1000000):YC 319 #[.string (mkS s)] W (YR (.tuple #[YI (gP s).1,.string (mkS (gP s).2)]) W):=by
 refine zE Tryz.func319 (qO [] 8 3 ZE λb1=>zO (α:=Nat) (λi=>[(0,.string (mkS s)),(4,.slice (some ⟨b1,0,none⟩) 8 8),(5,YI (i:Int))]) (λ_=>[⟨b1,ZE,3⟩]) (λi m=>(i<=8/\gP s=fndC s (ordC.drop i))/\m=8-i) 0 (8-0) [] ⟨⟨by omega,rfl⟩,rfl⟩ ?_)
 rintro i m g kk ⟨⟨hi,hf⟩,hmm⟩ nx hkk
 subst hkk
 by_cases h1:(i:Int)<8
 ·obtain ⟨o,hrd,hd⟩:∃ o:Nat,yY Tryz.prog 3 ZE i=some (YI (o:Int))/\ordC.drop i=o::ordC.drop (i+1):=by
   rcases (by omega:i=0\/i=1\/i=2\/i=3\/i=4\/i=5\/i=6\/i=7) with rfl|rfl|rfl|rfl|rfl|rfl|rfl|rfl<;>refine ⟨_, ?_,rfl⟩<;>kernel_rfl
  rw [hd] at hf
  unfold fndC at hf
  refine zB 11 [] ((i:Int)<8) (λ_=>vY 16 [] (A:=some ⟨b1,0,none⟩) rfl 8 8 (i:Int) 1 i Om (vX 17 [] 0 ZE i 3 (YI (o:Int)) hrd (z8 (k:=191) (args:= #[YI (o:Int)]) (v:= .string (mkS (y7 o))) [] (λw _=>rcsign_any o w) (z8 (k:=346) (args:= #[.string (mkS s),.string (mkS (y7 o))]) (v:= .bool (yL s (y7 o))) [] (λw _=>rcbegins_any s (y7 o) w) ?_)))) (λh=>absurd h1 h)
  cases hb:yL s (y7 o) with
  |true=>
   have hble:=begins_le hb
   rw [if_pos hb] at hf
   exact vY 24 [] (A:=some ⟨b1,0,none⟩) rfl 8 8 (i:Int) 1 i Om (vX 25 [] 0 ZE i 3 (YI (o:Int)) hrd (x_slo 29 [] s ((y7 o).length:Int) Om Om (.string (mkS (s.drop (y7 o).length))) rfl (yI [] (YI (o:Int)) (.string (mkS (s.drop (y7 o).length))) λw hO=>⟨by rw [hf],hO.below⟩)))
  |false=>
   rw [if_neg (by rw [hb];decide)] at hf
   exact x_i 13 [] ((i+1:Nat):Int) (nx (i+1) (8-(i+1)) [] Om ⟨⟨by omega,hf⟩,rfl⟩ Kr Kr)
 ·obtain rfl:i=8:=by omega
  have hf:gP s=if s.getLast?=some 42 then (9,s) else (7,s):=hf
  have h9:=λ(h:s.getLast?=some 42) (w:World) (hb:Below W.heap.size W w)=>show Ending.returned (.tuple #[YI 9,.string (mkS s)])= .returned (.tuple #[YI (gP s).1,.string (mkS (gP s).2)])/\Below W.heap.size W w from ⟨by rw [hf,if_pos h],hb⟩
  have h7:=λ(h:¬ s.getLast?=some 42) (w:World) (hb:Below W.heap.size W w)=>show Ending.returned (.tuple #[YI 7,.string (mkS s)])= .returned (.tuple #[YI (gP s).1,.string (mkS (gP s).2)])/\Below W.heap.size W w from ⟨by rw [hf,if_neg h],hb⟩
  refine zB 11 [] (((8:Nat):Int)<8) (λh=>absurd h h1) (λ_=>zB 32 [] ((0:Int)<(s.length:Int)) (λh0=> ?_) (λh0=> ?_))
  ·have hk:s.length-1<s.length:=by omega
   exact dF 37 [] (YI (IntKind.i64.wrap ((s.length:Int) -1))) (YI ((s.length-1:Nat):Int)) (by rw [IntWalk.i64_in _ Om,show (s.length:Int) -1=((s.length-1:Nat):Int) by omega]) (bV 38 [] s (s.length-1) hk s[s.length-1] rfl (zB 39 [] ((s[s.length-1].toNat:Int)=42) (λh=>yI [] (YI 9) (.string (mkS s)) λw hO=>h9 (by rw [last_is Om rfl,(wK (n:=42) (by decide)).1 h];rfl) w hO.below) (λh=>yI [] (YI 7) (.string (mkS s)) λw hO=>h7 (by rw [last_is Om rfl];intro q9;exact h ((wK (n:=42) (by decide)).2 (Option.some.inj q9))) w hO.below)))
  ·exact yI [] (YI 7) (.string (mkS s)) λw hO=>h7 (by rw [List.eq_nil_of_length_eq_zero (by omega:s.length=0)];decide) w hO.below
end
section
def nuZ (l:List (List UInt8))(i k:Nat):Int:=if k<i then zI (tg l k) else 0
def nuA (l:List (List UInt8))(i:Nat):Array Value:= #[YI (nuZ l i 0),YI (nuZ l i 1),YI (nuZ l i 2)]
theorem nuA_set {l:List (List UInt8)}{i:Nat}(h:i<3):zR (nuA l i) (0+i*1) (Value.int .i64 (zI (tg l i))).cells=nuA l (i+1):=by
 rcases (by omega:i=0\/i=1\/i=2) with rfl|rfl|rfl<;>rfl
theorem nuZ_end (l:List (List UInt8))(k:Nat):nuZ l l.length k=zI (tg l k):=by
 unfold nuZ
 split
 ·rfl
 ·rw [tgi_out Om]
theorem rcnumbers_any (A:Option Addr)(n cap:Nat)(l:List (List UInt8))(W:World)(hv:Reads yV W W.heap.size A l)(hn:n=l.length)(htl:∀ i,(tg l i).length<=1000000)(hmx:l.length<=4000000):YC 321 #[.slice A n cap] W (YR (.tuple #[k8 (gL l),.bool (jC l)]) W):=by
 subst hn
 have hno:=λ(h:jC l=false) (w:World) (hb:Below W.heap.size W w)=>show Ending.returned (.tuple #[k8 Ver.zero,.bool false])= .returned (.tuple #[k8 (gL l),.bool (jC l)])/\Below W.heap.size W w from ⟨by rw [show gL l=Ver.zero from if_neg (by rw [h];decide),h],hb⟩
 refine zE Tryz.func321 (zL [] λb1=>zL [] λb2=>zB 10 [] ((3:Int)<(l.length:Int)) (λh=>yC [1] 1 (k8 Ver.zero) Z5 λw hO=>hno (nums_big Om) w hO.below) (λh1=> ?_))
 refine zO (α:=Nat) (λi=>[(0,.slice A l.length cap),(2,Zp b1 0),(4,Zp b2 0),(5,YI (i:Int))]) (λi=>[⟨b2,nuA l i,117⟩,⟨b1,(k8 Ver.zero).cells,23⟩]) (λi m=>(i<=l.length∧∀ j,j<i->qA (tg l j)=true)/\m=l.length-i) 0 (l.length-0) [] ⟨⟨Nat.zero_le _,λj h=>absurd h (Nat.not_lt_zero _)⟩,rfl⟩ ?_
 rintro i m g kk ⟨⟨hi,hall⟩,hmm⟩ nx hkk
 subst hkk
 by_cases h2:(i:Int)<(l.length:Int)
 ·have hk:i<l.length:=by omega
  obtain ⟨b,off,hA,hlt,hcell⟩:=hv Om
  refine zB 15 [] ((i:Int)<(l.length:Int)) (λ_=>zJ 21 [] hA l.length cap i 1 hk (zH 22 [] 9 b (off+i*1) (.string (mkS (tg l i))) (λw hO=>qZ zX (λj u h=>(hO.below.cell (p:=⟨b,off+j,none⟩) hlt).trans (hcell j u h)) i 0 hk Om _ (by rw [tgi_get hk];kernel_rfl)) (z8 (k:=168) (args:= #[.string (mkS (tg l i))]) (v:= .tuple #[YI (zI (tg l i)),.bool (qA (tg l i))]) [] (λw _=>(rnumber_mk (tg l i) w (Nat.le_trans (htl i) (by decide))).mono λe w' ⟨q1,q2⟩=>⟨q1,q2▸Below.refl _ _⟩) ?_))) (λh=>absurd h2 h)
  cases h3:qA (tg l i) with
  |true=>
   refine x_ixa 31 [] 3 i 1 Om (x_sto 0 ⟨b2,nuA l i,117⟩ (0+i*1) 1 (YI (zI (tg l i))) [⟨b2,nuA l i,117⟩,⟨b1,(k8 Ver.zero).cells,23⟩] (by show 0+i*1+1<=3;omega) (x_i 17 [] ((i+1:Nat):Int) (yT [] [⟨b2,nuA l (i+1),117⟩,⟨b1,(k8 Ver.zero).cells,23⟩] (λw hO=>(hO.past 0 [⟨b2,zR (nuA l i) (0+i*1) (Value.int .i64 (zI (tg l i))).cells,117⟩,⟨b1,(k8 Ver.zero).cells,23⟩]).cast (by rw [nuA_set Om])) (nx (i+1) (l.length-(i+1)) [] Om ⟨⟨by omega,λj hj=> ?_⟩,rfl⟩ Kr Kr))))
   rcases Nat.lt_succ_iff_lt_or_eq.1 hj with h|rfl
   ·exact hall j h
   ·exact h3
  |false=>exact yC [1] 1 (k8 Ver.zero) (.bool false) λw hO=>hno (nums_bad hk h3) w hO.below
 ·obtain rfl:i=l.length:=by omega
  exact zB 15 [] ((l.length:Int)<(l.length:Int)) (λh=>absurd h h2) (λ_=>yC [0,0,0,1] 1 (k8 ⟨nuZ l l.length 0,nuZ l l.length 1,nuZ l l.length 2,[],[]⟩) Z4 λw hO=>⟨by have h:=nums_all Om hall;rw [show gL l=⟨zI (tg l 0),zI (tg l 1),zI (tg l 2),[],[]⟩ from if_pos h,h,nuZ_end,nuZ_end,nuZ_end],hO.below⟩)
end
section
def pcV (s:List UInt8):Co:=(g0 s).getD ⟨0,0,Ver.zero⟩
def pcE (s:List UInt8):Int:=if (g0 s).isSome then 0 else 6
theorem guess_nums (op:Int)(r:List UInt8):guessC op r=if jC (gR op r) then some ⟨op,((gR op r).length:Int),{gL (gR op r) with pre:=(zA 45 r).2.1}⟩ else none:=by
 unfold guessC gL
 by_cases h:jC (gR op r)=true
 ·have h2:=h
  unfold jC at h2
  rw [Bool.and_eq_true,decide_eq_true_eq] at h2
  rw [if_pos h2,if_pos h,if_pos h]
 ·have h2:¬ ((gR op r).length<=3/\(gR op r).all qA=true):=λq=>h (by unfold jC;rw [decide_eq_true q.1,q.2];rfl)
  rw [if_neg h2,if_neg h]
theorem dQ {s r tl:List UInt8}{op:Int}{gl:List (List UInt8)}(h1:(gP s).1=op)(h2:(gP s).2=r)(h3:gR op r=gl)(h4:(zA 45 r).2.1=tl):
  g0 s=(if jC gl then some ⟨op,(gl.length:Int),{gL gl with pre:=tl}⟩ else none:Option Co).filter (fits s):=by
 unfold g0
 rw [h1,h2,guess_nums,h3,h4]
theorem pc_none {s:List UInt8}(h:g0 s=none):pcV s=⟨0,0,Ver.zero⟩/\pcE s=6:=by unfold pcV pcE;rw [h];exact ⟨rfl,rfl⟩
theorem pc_some {s:List UInt8}{c:Co}(h:g0 s=some c):pcV s=c/\pcE s=0:=by unfold pcV pcE;rw [h];exact ⟨rfl,rfl⟩
theorem split6_le (s:List UInt8):(gP s).2.length<=s.length:=by
 unfold gP
 repeat' split
 all_goals first|exact Nat.le_refl _|(rw [List.length_drop];omega)
theorem guess_take {op:Int}{r ah:List UInt8}(h:(zA 45 r).1=ah):gR op r=(pcs ah).take (gR op r).length/\(gR op r).length<=(pcs ah).length:=by
 unfold gR
 rw [h]
 split
 ·rw [List.length_dropLast]
  exact ⟨List.dropLast_eq_take,by omega⟩
 ·exact ⟨(List.take_of_length_le (Nat.le_refl _)).symm,Nat.le_refl _⟩
theorem Reads.front {α:Type}{g:α->List Value}{w:World}{B:Nat}{A:Option Addr}{l:List α}(h:Reads g w B A l)(k:Nat):Reads g w B A (l.take k):=λh0=>by
 rw [List.length_take] at h0
 obtain ⟨b,off,e,hlt,hc⟩:=h Om
 refine ⟨b,off,e,hlt,λj u hj=>hc j u ?_⟩
 have e2:l.flatMap g=(l.take k).flatMap g++(l.drop k).flatMap g:=by rw [←List.flatMap_append,List.take_append_drop]
 rw [e2,List.getElem?_append_left (List.getElem?_eq_some_iff.1 hj).1]
 exact hj
theorem pcs_pos6 (s:List UInt8):0<(pcs s).length:=List.length_pos_iff.2 (pcs_ne s)
theorem tg_short {l:List (List UInt8)}(h:∀ x∈l,x.length<=1000000)(i:Nat):(tg l i).length<=1000000:=by
 unfold tg
 cases hq:l[i]? with
 |none=>exact Nat.zero_le _
 |some x=>exact h x (List.mem_of_getElem? hq)
theorem pcs_count (s:List UInt8):(pcs s).length<=s.length+1:=by
 unfold pcs
 rw [split_len]
 have:=List.length_filter_le (·==(46:UInt8)) s
 omega
theorem rcParse_any (s:List UInt8)(W:World)(hs:s.length<=1000000):YC 273 #[.string (mkS s)] W (YR (.tuple #[coV (pcV s),YI (pcE s)]) W):=by
 obtain ⟨op,hop⟩:∃ x,(gP s).1=x:=⟨_,rfl⟩
 obtain ⟨r,hr⟩:∃ x,(gP s).2=x:=⟨_,rfl⟩
 obtain ⟨ah,hah⟩:∃ x,(zA 45 r).1=x:=⟨_,rfl⟩
 obtain ⟨tl,htl⟩:∃ x,(zA 45 r).2.1=x:=⟨_,rfl⟩
 obtain ⟨gl,hgl⟩:∃ x,gR op r=x:=⟨_,rfl⟩
 have hrl:r.length<=s.length:=hr▸split6_le s
 have hal:ah.length+tl.length<=r.length:=by rw [←hah,←htl];exact bM 45 r
 have hpl:=pcs_count ah
 have hp0:=pcs_pos6 ah
 have hbad:=λ(h:g0 s=none) (w:World) (hb:Below W.heap.size W w)=>show Ending.returned (.tuple #[(coV ⟨0,0,Ver.zero⟩),YI 6])= .returned (.tuple #[coV (pcV s),YI (pcE s)])/\Below W.heap.size W w from ⟨by rw [(pc_none h).1,(pc_none h).2],hb⟩
 refine zE Tryz.func273 (zL [] λb1=>z8 (k:=319) (args:= #[.string (mkS s)]) (v:= .tuple #[YI op,.string (mkS r)]) [] (λw _=>ret_v (by rw [hop,hr]) (rcsplit_any s w hs)) (z8 (k:=320) (args:= #[.string (mkS r)]) (v:= .tuple #[.string (mkS ah),.string (mkS tl)]) [] (λw _=>ret_v (by rw [hah,htl]) (rcpre_any r w Om)) (kP (R:=λv' ob'=>SlT v' (pcs ah) ob') [] (λw hO=>rsplit_own ah w Om) ?_)))
 intro v1 o1 hsl
 obtain ⟨A1,c1,rfl⟩:=hsl.form
 obtain ⟨g1,cur1,rfl,rfl,hc1,hm1,hz1,ht1⟩:=Sl.block hsl (pcs_pos6 ah)
 refine dB 26 (α:=Nat) (λn=>[(0,.string (mkS s)),(2,Zp b1 0),(4,YI op),(7,.string (mkS tl)),(8,.slice (some ⟨g1,0,none⟩) n c1)]) (λ_=>[⟨b1,(coV ⟨0,0,Ver.zero⟩).cells,166⟩,⟨g1,cur1,9⟩]) (λn=>n=gl.length) [] (λnj=>x_now 26 (op=9) (λh1=> ?_) (λh1=>nj (pcs ah).length [] (by rw [←hgl];unfold gR;rw [hah,if_neg h1]) Kr)) (λn gg hng=> ?_)
 ·have hgn:(((pcs ah).length:Int) -1).toNat=gl.length:=by rw [←hgl];unfold gR;rw [hah,if_pos h1,List.length_dropLast];omega
  exact x_i 30 [] (((pcs ah).length:Int) -1) (x_slhi 31 [] (A:=some ⟨g1,0,none⟩) rfl (pcs ah).length c1 1 (((pcs ah).length:Int) -1) Om Om (.slice (some ⟨g1,0,none⟩) gl.length c1) (by rw [hgn]) (nj gl.length [] rfl Kr))
 have hglt:(pcs ah).take n=gl:=by rw [hng,←hgl];exact (guess_take hah).1.symm
 have hgn:gl.length<=(pcs ah).length:=by rw [←hgl];exact (guess_take hah).2
 have hgs:∀ x∈gl,x.length<=1000000:=λx hx=>by rw [←hglt] at hx;exact Nat.le_trans (pcs_mem_len ah x (List.mem_of_mem_take hx)) Om
 refine z8 (k:=321) (args:= #[.slice (some ⟨g1,0,none⟩) n c1]) (v:= .tuple #[k8 (gL gl),.bool (jC gl)]) [] (λw hO=>rcnumbers_any (some ⟨g1,0,none⟩) n c1 gl w (hglt▸(SlT.reads hsl rfl (hO.past 1 [⟨g1,cur1,9⟩]) (λx hx=>hx)).front n) hng (tg_short hgs) Om) (zL [] λb2=> ?_)
 cases h2:jC gl with
 |false=>exact yC [0,1] 1 (coV ⟨0,0,Ver.zero⟩) (.int .i64 6) λw hO=>hbad (by rw [dQ hop hr hgl htl,h2];rfl) w hO.below
 |true=>
  have hcs:((⟨op,(n:Int),{gL gl with pre:=tl}⟩:Co)).short:=⟨by show tl.length<=_;omega,by show (gL gl).build.length<=_;unfold gL;split<;>exact Nat.zero_le _⟩
  obtain ⟨pt,hpt⟩:∃ x,Co.print (⟨op,(n:Int),{gL gl with pre:=tl}⟩:Co)=x:=⟨_,rfl⟩
  have hgood:=λ(h:g0 s=some (⟨op,(n:Int),{gL gl with pre:=tl}⟩:Co)) (w:World) (hb:Below W.heap.size W w)=>show Ending.returned (.tuple #[coV (⟨op,(n:Int),{gL gl with pre:=tl}⟩:Co),YI 0])= .returned (.tuple #[coV (pcV s),YI (pcE s)])/\Below W.heap.size W w from ⟨by rw [(pc_some h).1,(pc_some h).2],hb⟩
  refine zL [0,0,0] λb3=>z8 (k:=137) (args:= #[coV (⟨op,(n:Int),{gL gl with pre:=tl}⟩:Co)]) (v:= .string (mkS pt)) [0,0] (λw _=>ret_v (by rw [←hpt]) (rcPrint_any (⟨op,(n:Int),{gL gl with pre:=tl}⟩:Co) w hcs)) (x2 50 [] pt [] (λh3=>(yC [2] 2 (coV ⟨0,0,Ver.zero⟩) (YI 6) λw hO=>hbad (by rw [dQ hop hr hgl htl,h2,←hng];exact Option.filter_eq_none_iff.2 λq0 q1=>by obtain rfl:=Option.some.inj q1;unfold fits;rw [hpt,decide_eq_true (show pt=[] from h3)];simp) w hO.below)) (λh3=>gX 54 [] pt s (λh4=>(yC [0,2] 2 (coV (⟨op,(n:Int),{gL gl with pre:=tl}⟩:Co)) (YI 0) λw hO=>hgood (by rw [dQ hop hr hgl htl,h2,←hng];exact Option.filter_eq_some_iff.2 ⟨rfl,by unfold fits;rw [hpt,decide_eq_false (show ¬ pt=[] from h3),decide_eq_true (show pt=s from h4)];simp⟩) w hO.below)) (λh4=>zW 58 [] [94] s (gX 59 [] pt ([94]++s) (λh5=>(yC [0,2] 2 (coV (⟨op,(n:Int),{gL gl with pre:=tl}⟩:Co)) (YI 0) λw hO=>hgood (by rw [dQ hop hr hgl htl,h2,←hng];exact Option.filter_eq_some_iff.2 ⟨rfl,by unfold fits;rw [hpt,decide_eq_false (show ¬ pt=[] from h3),decide_eq_false (show ¬ pt=s from h4),decide_eq_true (show pt=94::s from h5)];simp⟩) w hO.below)) (λh5=>(yC [2] 2 (coV ⟨0,0,Ver.zero⟩) (YI 6) λw hO=>hbad (by rw [dQ hop hr hgl htl,h2,←hng];exact Option.filter_eq_none_iff.2 λq0 q1=>by obtain rfl:=Option.some.inj q1;unfold fits;rw [hpt,decide_eq_false (show ¬ pt=[] from h3),decide_eq_false (show ¬ pt=s from h4),decide_eq_false (show ¬ pt=94::s from h5)];simp) w hO.below))))))
end
section
def coC (c:Co):List Value:=(coV c).cells.toList
theorem coC_len (c:Co):(coC c).length=7:=rfl
theorem co_cells (c:Co):∀ u∈coC c,u.oneCell'=true:=by
 intro u hu
 unfold coC coV at hu
 simp only [Value.cells,List.mem_cons,List.not_mem_nil,or_false] at hu
 rcases hu with rfl|rfl|rfl|rfl|rfl|rfl|rfl<;>rfl
structure Al where
 A:Option Addr
 l:List Co
 cap:Nat
def alC (x:Al):List Value:=[.slice x.A x.l.length x.cap]
theorem alC_len (x:Al):(alC x).length=1:=rfl
theorem al_cells (x:Al):∀ u∈alC x,u.oneCell'=true:=λu hu=>by rw [List.mem_singleton.1 hu];rfl
def yU (xs:List Al):List (List Co):=xs.map Al.l
theorem gF (xs:List Al):(yU xs).length=xs.length:=List.length_map ..
theorem rgOf_get {xs:List Al}{i:Nat}(hi:i<xs.length){x:Al}(h:xs[i]=x):(yU xs)[i]'(by rw [gF];exact hi)=x.l:=by
 unfold yU;rw [List.getElem_map,h]
def ShortA (l:List Co):Prop:=∀ c∈l,c.short
structure RgIn (w:World)(B:Nat)(A:Option Addr)(xs:List Al):Prop where
 top:Reads alC w B A xs
 each:∀ x∈xs,Reads coC w B x.A x.l
 n:xs.length<=1000
 m:∀ x∈xs,x.l.length<=1000
 short:∀ x∈xs,ShortA x.l
theorem RgIn.on {w w':World}{B B':Nat}{A:Option Addr}{xs:List Al}(h:RgIn w B A xs)(hb:Below B w w')(hB:B<=B'):RgIn w' B' A xs:=⟨h.top.on hb hB,λx hx=>(h.each x hx).on hb hB,h.n,h.m,h.short⟩
theorem take_all {α:Type}{p:α->Prop}{l:List α}{i:Nat}(h:∀ x∈l.take i,p x)(hi:i<l.length){x:α}(hx:l[i]=x)(hp:p x):∀ y∈l.take (i+1),p y:=λy hy=>by
 rw [List.take_succ_eq_append_getElem hi] at hy
 rcases List.mem_append.1 hy with hy|hy
 ·exact h y hy
 ·rw [List.mem_singleton.1 hy,hx];exact hp
theorem take_end {α:Type}{p:α->Prop}{l:List α}{i:Nat}(h:∀ x∈l.take i,p x)(hi:l.length<=i):∀ y∈l,p y:=by rwa [List.take_of_length_le hi] at h
theorem fewA_len {l:List Co}(h:¬ (1<=l.length/\l.length<=6)):fewA l=false:=by unfold fewA;rw [decide_eq_false h];rfl
theorem fewA_one {l:List Co}{c:Co}(hm:c∈l)(h:c.may=false):fewA l=false:=by
 cases hf:fewA l with
 |false=>rfl
 |true=>rw [(fewA.facts hf).2 c hm] at h;cases h
theorem fewA_all {l:List Co}(h1:1<=l.length/\l.length<=6)(h:∀ c∈l,c.may=true):fewA l=true:=by
 unfold fewA;rw [decide_eq_true h1,List.all_eq_true.2 h];rfl
theorem few_len {xs:List Al}(h:¬ (1<=xs.length/\xs.length<=6)):fewR (yU xs)=false:=by unfold fewR;rw [gF,decide_eq_false h];rfl
theorem few_one {xs:List Al}{x:Al}(hm:x∈xs)(h:fewA x.l=false):fewR (yU xs)=false:=by
 cases hf:fewR (yU xs) with
 |false=>rfl
 |true=>rw [(fewR.facts hf).2 x.l (List.mem_map.2 ⟨x,hm,rfl⟩)] at h;cases h
theorem few_all {xs:List Al}(h1:1<=xs.length/\xs.length<=6)(h:∀ x∈xs,fewA x.l=true):fewR (yU xs)=true:=by
 unfold fewR;rw [gF,decide_eq_true h1,List.all_eq_true.2 λa ha=>by obtain ⟨x,hx,rfl⟩:=List.mem_map.1 ha;exact h x hx];rfl
theorem few_mem {xs:List Al}(h:fewR (yU xs)=true):(1<=xs.length/\xs.length<=6)∧∀ x∈xs,(1<=x.l.length/\x.l.length<=6)∧∀ c∈x.l,c.may=true:=by
 obtain ⟨h1,h2⟩:=fewR.facts h
 rw [gF] at h1
 exact ⟨h1,λx hx=>fewA.facts (h2 x.l (List.mem_map.2 ⟨x,hx,rfl⟩))⟩
theorem joinB_step (sep:List UInt8){l:List (List UInt8)}{i:Nat}(hi:i<l.length):jS sep (l.take (i+1))=(if i=0 then [] else jS sep (l.take i)++sep)++l[i]:=by
 rw [List.take_succ_eq_append_getElem hi,joinB_snoc]
 by_cases h:i=0
 ·subst h;rfl
 ·have hne:l.take i≠[]:=λe=>by
   have h3:(l.take i).length=0:=by rw [e];rfl
   rw [List.length_take] at h3;omega
  rw [if_neg hne,if_neg h]
theorem altText_step {l:List Co}{k:Nat}(hk:k<l.length){c:Co}(hc:l[k]=c):xF (l.take (k+1))=(if k=0 then [] else xF (l.take k)++[44,32])++c.print:=by
 unfold xF
 rw [List.map_take,List.map_take,joinB_step _ (by rw [List.length_map];exact hk),List.getElem_map,hc]
theorem rgText_step {r:List (List Co)}{i:Nat}(hi:i<r.length){a:List Co}(ha:r[i]=a):kF (r.take (i+1))=(if i=0 then [] else kF (r.take i)++[32,124,124,32])++xF a:=by
 unfold kF
 rw [List.map_take,List.map_take,joinB_step _ (by rw [List.length_map];exact hi),List.getElem_map,ha]
theorem co_len {c:Co}(h:c.may=true):c.print.length<=300:=by
 obtain ⟨_,hv,_⟩:=Co.facts h
 have hp:=preOk_short (may_pre hv)
 rw [v6 h]
 unfold Co.text Co.rest
 rw [List.length_append]
 have h1:(y7 c.op).length<=2:=by
  unfold y7
  repeat' split
  all_goals decide
 split
 ·have:=sjoin_len hv c.parts.toNat;omega
 ·rw [List.length_append]
  have:=njoin_len hv c.parts.toNat
  have:(xR 45 c.v.pre).length<=37:=by
   unfold xR
   split
   ·exact Nat.zero_le _
   ·rw [List.length_cons];omega
  omega
end
section
theorem coInfo:(Tryz.prog.info? 166).map (λi=>(i.zero.map (·.cells.size),i.size,i.bytes))=some (some 7,7,72):=by kernel_rfl
theorem co_info:∃ i z,Tryz.prog.info? 166=some i/\i.zero=some z/\i.size=7/\z.cells.size=7/\i.bytes=72:=by
 have h:=coInfo
 cases hi:Tryz.prog.info? 166 with
 |none=>rw [hi] at h;cases h
 |some i=>
  rw [hi] at h
  simp only [Option.map_some,Option.some.injEq,Prod.mk.injEq] at h
  cases hz:i.zero with
  |none=>rw [hz] at h;simp at h
  |some z=>rw [hz] at h;simp at h;exact ⟨i,z,rfl,hz,h.2.1,h.1,h.2.2⟩
theorem alInfo:(Tryz.prog.info? 265).map (λi=>(i.zero.map (·.cells.size),i.size,i.bytes))=some (some 1,1,24):=by kernel_rfl
theorem al_info:∃ i z,Tryz.prog.info? 265=some i/\i.zero=some z/\i.size=1/\z.cells.size=1/\i.bytes=24:=by
 have h:=alInfo
 cases hi:Tryz.prog.info? 265 with
 |none=>rw [hi] at h;cases h
 |some i=>
  rw [hi] at h
  simp only [Option.map_some,Option.some.injEq,Prod.mk.injEq] at h
  cases hz:i.zero with
  |none=>rw [hz] at h;simp at h
  |some z=>rw [hz] at h;simp at h;exact ⟨i,z,rfl,hz,h.2.1,h.1,h.2.2⟩
def SlCo (v:Value)(l:List Co)(ob:List Blk):Prop:=Sl 166 7 v l.length (l.flatMap coC) ob
structure RgA (u:Value)(xs:List Al)(o1 o2:List Blk):Prop where
 top:Sl 265 1 u xs.length (xs.flatMap alC) o1
 each:∀ x∈xs,∃ o,(∀ b∈o,b∈o2)/\SlCo (.slice x.A x.l.length x.cap) x.l o
def RgO (v:Value)(r:List (List Co))(ob:List Blk):Prop:=∃ xs u o1 o2,v= .agg #[u]/\ob=o1++o2/\yU xs=r/\RgA u xs o1 o2
theorem RgA.nil:RgA (.slice none 0 0) [] [] []:=⟨Sl.nil _ _,λx hx=>by simp at hx⟩
theorem RgO.nil:RgO (.agg #[.slice none 0 0]) [] []:=⟨[],_,[],[],rfl,rfl,rfl,RgA.nil⟩
theorem RgA.add {u u2:Value}{xs:List Al}{o1 o2 o3 oa:List Blk}{A:Option Addr}{cap:Nat}{a:List Co}(h:RgA u xs o1 o2)(h2:Sl 265 1 u2 (xs.length+1) (xs.flatMap alC++alC ⟨A,a,cap⟩) o3)(ha:SlCo (.slice A a.length cap) a oa):RgA u2 (xs++[⟨A,a,cap⟩]) o3 (oa++o2):=
 ⟨h2.to (by simp) (by simp),λx hx=>by
  rcases List.mem_append.1 hx with hx|hx
  ·obtain ⟨o,k1,k2⟩:=h.each x hx
   exact ⟨o,λb hb=>List.mem_append_right _ (k1 b hb),k2⟩
  ·obtain rfl:=List.mem_singleton.1 hx
   exact ⟨oa,λb hb=>List.mem_append_left _ hb,ha⟩⟩
structure FineR (r:List (List Co)):Prop where
 n:r.length<=1000
 m:∀ a∈r,a.length<=1000/\ShortA a
theorem RgA.inn {A:Option Addr}{n cap:Nat}{xs:List Al}{o1 o2 L:List Blk}{M:List Nat}{W w:World}(h:RgA (.slice A n cap) xs o1 o2)(hn:xs.length=n)(hO:Own M W w L)(h1:∀ x∈o1,x∈L)(h2:∀ x∈o2,x∈L)(hf:FineR (yU xs)):RgIn w w.heap.size A xs:=by
 subst hn
 refine ⟨Sl.reads h.top rfl hO h1,λx hx=> ?_,by have:=hf.n;rwa [gF] at this,λx hx=>(hf.m x.l (List.mem_map.2 ⟨x,hx,rfl⟩)).1,λx hx=>(hf.m x.l (List.mem_map.2 ⟨x,hx,rfl⟩)).2⟩
 obtain ⟨o,k1,k2⟩:=h.each x hx
 exact Sl.reads k2 rfl hO λb hb=>h2 b (k1 b hb)
theorem SlT.blk {v:Value}{l:List (List UInt8)}{ob:List Blk}(h:SlT v l ob)(hn:l≠[]):∃ g cur cap,v= .slice (some ⟨g,0,none⟩) l.length cap/\ob=[⟨g,cur,9⟩]/\cur.toList.take (l.length*1)=l.flatMap yV:=by
 obtain ⟨A,cap,rfl⟩:=h.form
 have h0:0<l.length:=by cases l with
  |nil=>exact absurd rfl hn
  |cons _ _=>simp
 obtain ⟨g,cur,rfl,e,_,_,_,e2⟩:=Sl.block h h0
 exact ⟨g,cur,cap,rfl,e,by rw [e2,kS]⟩
theorem pc_ok {s:List UInt8}(h:pcE s=0):g0 s=some (pcV s):=by
 cases hp:g0 s with
 |none=>rw [(pc_none hp).2] at h;exact absurd h (by decide)
 |some c=>rw [(pc_some hp).1]
theorem pc_err {s:List UInt8}(h:¬ pcE s=0):g0 s=none:=by
 cases hp:g0 s with
 |none=>rfl
 |some c=>exact absurd (pc_some hp).2 h
theorem parseP_may {s:List UInt8}{c:Co}(h:parseP s=some c):c.may=true:=((pL _ c).1 h).1
theorem co_short {c:Co}(h:c.may=true):c.short:=by
 obtain ⟨_,hv,hb,_⟩:=Co.facts h
 exact may_short hv hb
theorem parseA_fine {s:List UInt8}{a:List Co}(h:parseA s=some a)(hs:s.length<=100):a.length<=1000∧∀ c∈a,c.may=true:=by
 refine ⟨?_,λc hc=> ?_⟩
 ·rw [fC h,split_len]
  have:=List.length_filter_le (λx:UInt8=>x==44) s
  omega
 ·obtain ⟨x,_,e⟩:=allO_back h c hc
  exact parseP_may e
theorem fine_part {s:List UInt8}(hs:s.length<=96){l:List (List UInt8)}(hl:∀ x∈l,x∈xM [] s)(hn:l.length<=97){r:List (List Co)}(h:fD parseA l=some r):FineR r:=by
 refine ⟨by rw [fC h];omega,λa ha=> ?_⟩
 obtain ⟨x,hx,e⟩:=allO_back h a ha
 have:=tY s [] x (hl x hx)
 have:=parseA_fine e (by simp at this;omega)
 exact ⟨this.1,λc hc=>co_short (this.2 c hc)⟩
theorem fine_few {r:List (List Co)}(h:fewR r=true):FineR r:=by
 obtain ⟨h1,h2⟩:=fewR.facts h
 refine ⟨by omega,λa ha=> ?_⟩
 obtain ⟨k1,k2⟩:=fewA.facts (h2 a ha)
 exact ⟨by omega,λc hc=>co_short (k2 c hc)⟩
theorem allO_next {α β:Type}{f:α->Option β}{l:List α}{i:Nat}(hi:i<l.length){y:α}(hy:l[i]=y){m:List β}{z:β}(h:fD f (l.take i)=some m)(hz:f y=some z):fD f (l.take (i+1))=some (m++[z]):=by
 rw [List.take_succ_eq_append_getElem hi,hy]
 exact allO_snoc h hz
theorem all_fails {s:List UInt8}{l m:List (List UInt8)}(hl:l=xM [] s){i k:Nat}(hi:i<l.length){y z:List UInt8}(hy:l[i]=y)(hm:m=zD 44 [] y)(hk:k<m.length)(hz:m[k]=z)(h:¬ pcE (yD z)=0):qT s=none:=by
 have h1:parseA y=none:=allO_none (x:=z) (by rw [←hm,←hz];exact List.getElem_mem hk) (pc_err h)
 exact allO_none (x:=y) (by rw [←hl,←hy];exact List.getElem_mem hi) h1
theorem errG_none {s:List UInt8}(hs:s.length<=96)(h:qT s=none):bK s=6/\kM s=none:=by
 unfold bK kM
 rw [if_neg Om,if_neg Om,h];exact ⟨rfl,rfl⟩
theorem errG_few {s:List UInt8}(hs:s.length<=96){r:List (List Co)}(h:qT s=some r)(hf:fewR r=false):bK s=6/\kM s=none:=by
 unfold bK kM
 rw [if_neg Om,if_neg Om,h]
 simp [hf,rgMay,Option.filter]
theorem errG_big {s:List UInt8}(hs:s.length<=96){r:List (List Co)}(h:qT s=some r)(hf:fewR r=true)(hb:96<(kF r).length):bK s=3/\kM s=none:=by
 unfold bK kM
 rw [if_neg Om,if_neg Om,h]
 simp [hf,rgMay,Option.filter];omega
theorem errG_fine {s:List UInt8}(hs:s.length<=96){r:List (List Co)}(h:qT s=some r)(hf:fewR r=true)(hb:(kF r).length<=96):bK s=0/\kM s=some r:=by
 unfold bK kM
 rw [if_neg Om,if_neg Om,h]
 simp [hf,rgMay,Option.filter,hb]
theorem errG_long {s:List UInt8}(hs:96<s.length):bK s=3/\kM s=none:=by
 unfold bK kM
 rw [if_pos hs,if_pos hs];exact ⟨rfl,rfl⟩
theorem rsplit44_own (s:List UInt8)(W:World)(hs:s.length<=1000000):
  YC 127 #[.string (mkS s),.int .u8 44] W λe w'=>∃ v' ob',e= .returned v'/\SlT v' (zD 44 [] s) ob'/\Own [] W w' ob':=
 (rsplit_any (mkS s) 44 W (by rw [zQ];exact hs)).mono λe w' ⟨v,h1,h2,h3⟩=>by
  unfold qS at h2
  rw [mk_data] at h2
  obtain ⟨ob,k1,k2⟩:=Own.row h2 h3
  exact ⟨v,ob,h1,k1,k2⟩
theorem bareF_len:∀ (s:List UInt8),(yG s).length<=s.length
 | []=>Nat.le_refl _
 |c::l=>by
  rw [yG]
  split
  ·have:=bareF_len l;rw [List.length_cons];omega
  ·exact Nat.le_refl _
theorem bareL_len (s:List UInt8):(yD s).length<=s.length:=by
 unfold yD
 rw [List.length_reverse]
 have h1:=bareF_len (yG s).reverse
 rw [List.length_reverse] at h1
 have:=bareF_len s
 omega
theorem pI {y:List UInt8}(h:y.length<=96):(zD 44 [] y).length<=97∧∀ z∈zD 44 [] y,z.length<=96:=by
 refine ⟨?_,λz hz=>by have:=dJ 44 y [] z hz;simp at this;omega⟩
 rw [split_len]
 have:=List.length_filter_le (λx:UInt8=>x==44) y
 omega
section
variable {M:List Nat}{W w:World}
theorem own_two {x y:Blk}{A:List Blk}(h:Own M W w (x::y::A)):Own M W w A:=h.sublist ((List.sublist_cons_self y A).trans (List.sublist_cons_self x (y::A)))
theorem own_turn {x y r t g:Blk}{oa o1 o2:List Blk}(h:Own M W w (([x,y,g,r,t]++oa)++o1++o2)):Own M W w (g::r::t::(o1++(oa++o2))):=by
 have h1:Own M W w (x::y::g::r::t::((oa++o1)++o2)):=by simpa [List.append_assoc] using h
 refine (own_two h1).perm (List.Perm.cons _ (List.Perm.cons _ (List.Perm.cons _ ?_)))
 rw [←List.append_assoc]
 exact List.Perm.append_right _ List.perm_append_comm
end
end
section
def dT (v:Ver):Array Value:= #[YI v.maj,YI v.min,YI v.pat]
theorem cnums_any (v:Ver)(W:World):YC 331 #[k8 v] W λe w'=>∃ v' ob',e= .returned v'/\(∃ g,v'= .slice (some ⟨g,0,none⟩) 3 3/\ob'=[⟨g,dT v,3⟩])/\Own [] W w' ob':=by
 exact zE Tryz.func331 (yN [] λb1=>qO [0,0,0] 3 3 #[YI v.maj,YI v.min,YI v.pat] λb2=>z7 [] (.slice (some ⟨b2,0,none⟩) 3 3) λw hO=>⟨_,_,rfl,⟨b2,rfl,rfl⟩,Own.nth 0 ⟨b2,dT v,3⟩ hO⟩)
theorem cMay_any (c:Co)(W:World)(hc:c.short):YC 305 #[coV c] W (YR (.bool c.may) W):=by
 obtain ⟨op,parts,v⟩:=c
 have hm:= @Co.may_iff ⟨op,parts,v⟩
 simp only at hm
 have no:∀ w,Below W.heap.size W w→¬ (Co.may ⟨op,parts,v⟩=true)->Ending.returned (.bool false)= .returned (.bool (Co.may ⟨op,parts,v⟩))/\Below W.heap.size W w:=λw hb h=>⟨by rw [Bool.eq_false_iff.2 h],hb⟩
 have hmay:∀ w,YC 53 #[k8 v] w (YR (.bool v.may) w):=λw=>may_any v w (Nat.lt_of_le_of_lt hc.1 (by decide)) (Nat.lt_of_le_of_lt hc.2 (by decide))
 have hnum:∀ w,YC 331 #[k8 v] w λe w'=>∃ v' ob',e= .returned v'/\(∃ g,v'= .slice (some ⟨g,0,none⟩) 3 3/\ob'=[⟨g,dT v,3⟩])/\Own [] w w' ob':=λw=>cnums_any v w
 refine zE Tryz.func305 (yN [] λb1=>dB 9 (α:=Int×Int) (λq=>[(1,Zp b1 0),(3,YI q.1),(4,YI q.2)]) (λ_=>[⟨b1,(coV ⟨op,parts,v⟩).cells,166⟩]) (λq=>(op=9->q.1=0/\q.2=2)/\(¬ op=9->q.1=1/\q.2=3)) [0] (λnj=>x_now 9 (op=9) (λh=>nj (0,2) [] ⟨λ_=>⟨rfl,rfl⟩,λq=>absurd h q⟩ Kr) (λh=>nj (1,3) [] ⟨λq=>absurd q h,λ_=>⟨rfl,rfl⟩⟩ Kr)) ?_)
 rintro ⟨lo,hi⟩ g hr
 simp only at hr
 refine zB 12 [0] (op<1) (λh1=>(z7 [] Z5 λw hO=>no w hO.below λq=>by have:=hm.1 q;grind)) (λh1=>zB 16 [0] (op>9) (λh2=>(z7 [] Z5 λw hO=>no w hO.below λq=>by have:=hm.1 q;grind)) (λh2=>zB 22 [0] (parts<lo) (λh5=>(z7 [] Z5 λw hO=>no w hO.below λq=>by have:=hm.1 q;grind)) (λh5=>zB 28 [0] (parts>hi) (λh6=>(z7 [] Z5 λw hO=>no w hO.below λq=>by have:=hm.1 q;grind)) (λh6=> ?_))))
 rcases (by omega:parts=0\/parts=1\/parts=2\/parts=3) with rfl|rfl|rfl|rfl
 ·refine x_drawF (.s (.s (.s (.s (.s (.s (.s (.s .z)))))))) 8 [] (kY [0,0] 2 (nB (R:=λv' ob'=>∃ g,v'= .slice (some ⟨g,0,none⟩) 3 3/\ob'=[⟨g,dT v,3⟩]) (λw hO=>hnum w) ?_))
  rintro v' ob' ⟨gb,rfl,rfl⟩
  exact fW 3 [] (jW 42 [1] (v.maj=0) (λa1=>jW 42 [1] (v.min=0) (λa2=>jW 42 [1] (v.pat=0) (λa3=>z8 (v:= .bool v.may) [0] (λw hO=>hmay w) (zU 46 v.may (λe3=>x2 51 [0] v.build [] (λh4=>x2 57 [0] v.pre [] (λh8=>(z7 [] Z4 λw hO=>⟨by rw [hm.2 ⟨by omega,e3,h4,by omega,by omega,by first|exact .inr h8|exact .inl Om,by omega,by omega,by omega⟩],hO.below⟩)) (λh8=>(z7 [0] Z5 λw hO=>no w hO.below λq=>by have:=hm.1 q;grind))) (λh4=>(z7 [] Z5 λw hO=>no w hO.below λq=>by have:=hm.1 q;grind))) (λe3=>(z7 [] Z5 λw hO=>no w hO.below λq=>by have:=hm.1 q;grind)))) (λa3=>(z7 [] Z5 λw hO=>no w hO.below λq=>by have:=hm.1 q;grind))) (λa2=>(z7 [] Z5 λw hO=>no w hO.below λq=>by have:=hm.1 q;grind))) (λa1=>(z7 [] Z5 λw hO=>no w hO.below λq=>by have:=hm.1 q;grind)))
 ·refine x_drawF (.s (.s (.s (.s (.s (.s (.s (.s .z)))))))) 8 [] (kY [0,0] 2 (nB (R:=λv' ob'=>∃ g,v'= .slice (some ⟨g,0,none⟩) 3 3/\ob'=[⟨g,dT v,3⟩]) (λw hO=>hnum w) ?_))
  rintro v' ob' ⟨gb,rfl,rfl⟩
  exact fW 3 [] (jW 42 [1] (v.min=0) (λa2=>jW 42 [1] (v.pat=0) (λa3=>z8 (v:= .bool v.may) [0] (λw hO=>hmay w) (zU 46 v.may (λe3=>x2 51 [0] v.build [] (λh4=>x2 57 [0] v.pre [] (λh8=>(z7 [] Z4 λw hO=>⟨by rw [hm.2 ⟨by omega,e3,h4,by omega,by omega,by first|exact .inr h8|exact .inl Om,by omega,by omega,by omega⟩],hO.below⟩)) (λh8=>(z7 [0] Z5 λw hO=>no w hO.below λq=>by have:=hm.1 q;grind))) (λh4=>(z7 [] Z5 λw hO=>no w hO.below λq=>by have:=hm.1 q;grind))) (λe3=>(z7 [] Z5 λw hO=>no w hO.below λq=>by have:=hm.1 q;grind)))) (λa3=>(z7 [] Z5 λw hO=>no w hO.below λq=>by have:=hm.1 q;grind))) (λa2=>(z7 [] Z5 λw hO=>no w hO.below λq=>by have:=hm.1 q;grind)))
 ·refine x_drawF (.s (.s (.s (.s (.s (.s (.s (.s .z)))))))) 8 [] (kY [0,0] 2 (nB (R:=λv' ob'=>∃ g,v'= .slice (some ⟨g,0,none⟩) 3 3/\ob'=[⟨g,dT v,3⟩]) (λw hO=>hnum w) ?_))
  rintro v' ob' ⟨gb,rfl,rfl⟩
  exact fW 3 [] (jW 42 [1] (v.pat=0) (λa3=>z8 (v:= .bool v.may) [0] (λw hO=>hmay w) (zU 46 v.may (λe3=>x2 51 [0] v.build [] (λh4=>x2 57 [0] v.pre [] (λh8=>(z7 [] Z4 λw hO=>⟨by rw [hm.2 ⟨by omega,e3,h4,by omega,by omega,by first|exact .inr h8|exact .inl Om,by omega,by omega,by omega⟩],hO.below⟩)) (λh8=>(z7 [0] Z5 λw hO=>no w hO.below λq=>by have:=hm.1 q;grind))) (λh4=>(z7 [] Z5 λw hO=>no w hO.below λq=>by have:=hm.1 q;grind))) (λe3=>(z7 [] Z5 λw hO=>no w hO.below λq=>by have:=hm.1 q;grind)))) (λa3=>(z7 [] Z5 λw hO=>no w hO.below λq=>by have:=hm.1 q;grind)))
 ·refine x_drawF (.s (.s (.s (.s (.s (.s (.s (.s .z)))))))) 8 [] (kY [0,0] 2 (nB (R:=λv' ob'=>∃ g,v'= .slice (some ⟨g,0,none⟩) 3 3/\ob'=[⟨g,dT v,3⟩]) (λw hO=>hnum w) ?_))
  rintro v' ob' ⟨gb,rfl,rfl⟩
  exact fW 3 [] (z8 (v:= .bool v.may) [0] (λw hO=>hmay w) (zU 46 v.may (λe3=>x2 51 [0] v.build [] (λh4=>x2 57 [0] v.pre [] (λh8=>(z7 [] Z4 λw hO=>⟨by rw [hm.2 ⟨by omega,e3,h4,by omega,by omega,by first|exact .inr h8|exact .inl Om,by omega,by omega,by omega⟩],hO.below⟩)) (λh8=>(z7 [0] Z4 λw hO=>⟨by rw [hm.2 ⟨by omega,e3,h4,by omega,by omega,by first|exact .inr h8|exact .inl Om,by omega,by omega,by omega⟩],hO.below⟩))) (λh4=>(z7 [] Z5 λw hO=>no w hO.below λq=>by have:=hm.1 q;grind))) (λe3=>(z7 [] Z5 λw hO=>no w hO.below λq=>by have:=hm.1 q;grind))))
theorem csign_any (op:Int)(W:World):YC 330 #[YI op] W (YR (.string (mkS (y7 op))) W):=by
 exact zE Tryz.func330 (zB 7 [] (op=2) (λh=>zW 24 [] [33] [61] (z7 [] (.string (mkS ([33]++[61]))) λw hO=>⟨by subst h;rfl,hO.below⟩)) (λh2=>zB 9 [] (op=1) (λh=>zW 24 [] [] [61] (z7 [] (.string (mkS ([]++[61]))) λw hO=>⟨by subst h;rfl,hO.below⟩)) (λh1=>zB 11 [] (op=4) (λh=>zW 24 [] [60] [61] (z7 [] (.string (mkS ([60]++[61]))) λw hO=>⟨by subst h;rfl,hO.below⟩)) (λh4=>zB 13 [] (op=3) (λh=>zW 24 [] [60] [] (z7 [] (.string (mkS ([60]++[]))) λw hO=>⟨by subst h;rfl,hO.below⟩)) (λh3=>zB 15 [] (op=6) (λh=>zW 24 [] [62] [61] (z7 [] (.string (mkS ([62]++[61]))) λw hO=>⟨by subst h;rfl,hO.below⟩)) (λh6=>zB 17 [] (op=5) (λh=>zW 24 [] [62] [] (z7 [] (.string (mkS ([62]++[]))) λw hO=>⟨by subst h;rfl,hO.below⟩)) (λh5=>zB 19 [] (op=7) (λh=>zW 24 [] [94] [] (z7 [] (.string (mkS ([94]++[]))) λw hO=>⟨by subst h;rfl,hO.below⟩)) (λh7=>zB 21 [] (op=8) (λh=>zW 24 [] [126] [] (z7 [] (.string (mkS ([126]++[]))) λw hO=>⟨by subst h;rfl,hO.below⟩)) (λh8=>zW 24 [] [] [] (z7 [] (.string (mkS ([]++[]))) λw hO=>⟨by unfold y7;rw [if_neg h1,if_neg h2,if_neg h3,if_neg h4,if_neg h5,if_neg h6,if_neg h7,if_neg h8];rfl,hO.below⟩))))))))))
end
section
theorem splitn_any (s:List UInt8)(W:World)(hs:s.length<=1000000):YC 182 #[.string (mkS s),.string ⟨#[46]⟩,YI 3] W λe w'=>∃ v' ob',e= .returned v'/\SlT v' (dO 2 s) ob'/\Own [] W w' ob':=by
 exact zE Tryz.func182 (kP (R:=λv' ob'=>SlT v' (dO 2 s) ob') [] (λw hO=>split3_any s w hs) λv1 o1 h=>z7 [] v1 λw hO=>⟨v1,o1,rfl,h,hO.past 0 o1⟩)
theorem sgo_take {s r:List UInt8}{k:Nat}{op:Int}(h:sgo s k=(op,r))(hb:yL s (y7 ((k+1:Nat):Int))=true)(hl:((mkS (cpL s (y7 ((k+1:Nat):Int)))).size:Int)<((mkS r).size:Int)):sgo s (k+1)=(((k+1:Nat):Int),cpL s (y7 ((k+1:Nat):Int))):=by
 rw [zQ,zQ] at hl
 unfold cpL at hl ⊢
 rw [if_pos hb] at hl ⊢
 unfold sgo
 rw [h,if_pos ⟨hb,by show _<r.length;omega⟩]
theorem sgo_not {s r:List UInt8}{k:Nat}{op:Int}(h:sgo s k=(op,r))(hb:yL s (y7 ((k+1:Nat):Int))=false):sgo s (k+1)=(op,r):=by
 unfold sgo
 rw [h,if_neg (λq=>by rw [hb] at q;exact Bool.false_ne_true q.1)]
theorem sgo_long {s r:List UInt8}{k:Nat}{op:Int}(h:sgo s k=(op,r))(hb:yL s (y7 ((k+1:Nat):Int))=true)(hl:¬ ((mkS (cpL s (y7 ((k+1:Nat):Int)))).size:Int)<((mkS r).size:Int)):sgo s (k+1)=(op,r):=by
 rw [zQ,zQ] at hl
 unfold cpL at hl
 rw [if_pos hb] at hl
 unfold sgo
 rw [h,if_neg (λq=>hl (by have q2:_<r.length:=q.2;omega))]
theorem ccut_any (s:List UInt8)(W:World)(hs:s.length<=1000000):YC 296 #[.string (mkS s)] W (YR (.tuple #[YI (sgo s 8).1,.string (mkS (sgo s 8).2)]) W):=by
 refine zE Tryz.func296 (zO (α:=Nat×Int×List UInt8) (λ(k,op,r)=>[(0,.string (mkS s)),(4,YI op),(5,.string (mkS r)),(6,YI ((k+1:Nat):Int))]) (λ_=>[]) (λ(k,op,r) m=>(k<=8/\sgo s k=(op,r))/\m=8-k) (0,7,s) (8-0) [] ⟨⟨by omega,rfl⟩,rfl⟩ ?_)
 rintro ⟨k,op,r⟩ m g kk ⟨⟨hkl,hrel⟩,hmm⟩ nx hkk
 subst hkk
 by_cases h1:((k+1:Nat):Int)<9
 ·refine zB 11 [] (((k+1:Nat):Int)<9) (λ_=>z8 (k:=330) (args:= #[YI ((k+1:Nat):Int)]) (v:= .string (mkS (y7 ((k+1:Nat):Int)))) [] (λw _=>csign_any _ w) (z8 (k:=161) (args:= #[.string (mkS s),.string (mkS (y7 ((k+1:Nat):Int)))]) (v:= .tuple #[.string (mkS (cpL s (y7 ((k+1:Nat):Int)))),.bool (yL s (y7 ((k+1:Nat):Int)))]) [] (λw _=>cutpre_any s (y7 ((k+1:Nat):Int)) w) ?_)) (λh=>absurd h1 h)
  cases h2:yL s (y7 ((k+1:Nat):Int)) with
  |true=>exact zB 27 [] (((cpL s (y7 ((k+1:Nat):Int))).length:Int)<(r.length:Int)) (λh3=>x_i 13 [] ((k+1+1:Nat):Int) (nx (k+1,((k+1:Nat):Int),(cpL s (y7 ((k+1:Nat):Int)))) (8-(k+1)) [] Om ⟨⟨by omega,sgo_take hrel h2 (by rw [zQ,zQ];exact h3)⟩,rfl⟩ Kr Kr)) (λh3=>x_i 13 [] ((k+1+1:Nat):Int) (nx (k+1,op,r) (8-(k+1)) [] Om ⟨⟨by omega,sgo_long hrel h2 (by rw [zQ,zQ];exact h3)⟩,rfl⟩ Kr Kr))
  |false=>exact x_i 13 [] ((k+1+1:Nat):Int) (nx (k+1,op,r) (8-(k+1)) [] Om ⟨⟨by omega,sgo_not hrel h2⟩,rfl⟩ Kr Kr)
 ·obtain rfl:k=8:=by omega
  exact zB 11 [] (((8+1:Nat):Int)<9) (λh=>absurd h h1) (λ_=>yI [] (YI op) (.string (mkS r)) λw hO=>⟨by rw [hrel],hO.below⟩)
theorem nth_ok {v:Ver}(h:v.may=true){k:Nat}(hk:k<3):zP (bE v.maj v.min v.pat k)=true:=by
 obtain ⟨m1,m2,m3⟩:=qB h
 have hj:k=0\/k=1\/k=2:=by omega
 rcases hj with rfl|rfl|rfl
 ·exact m1
 ·exact m2
 ·exact m3
theorem nth_in {v:Ver}(h:v.may=true){k:Nat}(hk:k<3): -9223372036854775808<=bE v.maj v.min v.pat k/\bE v.maj v.min v.pat k<=9223372036854775807:=by
 have q:=nth_ok h hk
 unfold zP at q;simp at q;omega
theorem nums_next (v:Ver){k:Nat}(hk:k<3):zZ v (k+1)=zZ v k++[Lib.itoa (bE v.maj v.min v.pat k)]:=by
 have hj:k=0\/k=1\/k=2:=by omega
 rcases hj with rfl|rfl|rfl<;>rfl
theorem star_ne {l:List (List UInt8)}:zG 46 (l++[[42]])≠[]:=λe=>by
 have h:=last_join [] l
 rw [show ([]:List UInt8)++[42]=[42] from rfl,e] at h
 cases h
theorem nums_ne {c:Co}(h:c.may=true)(hn:¬ c.op=9):zG 46 (zZ c.v c.parts.toNat)≠[]:=λe=>by
 obtain ⟨d,r,e2,hd⟩:=nI h hn
 unfold Co.rest at e2
 rw [if_neg hn,e,List.nil_append] at e2
 unfold xR at e2
 split at e2
 ·cases e2
 ·injection e2 with e3 _
  rw [←e3] at hd
  revert hd;decide
theorem text_pre2 {c:Co}(h9:¬ c.op=9)(hp:¬ c.v.pre=[]):y7 c.op++zG 46 (zZ c.v c.parts.toNat)++([45]++c.v.pre)=c.text:=by
 rw [←text_pre h9 hp];simp
theorem star_text2 {c:Co}(h9:c.op=9):y7 c.op++zG 46 (zZ c.v c.parts.toNat++[[42]])=c.text:=by
 rw [←star_text h9,h9];rfl
theorem star_pre {c:Co}(h:c.may=true)(h9:c.op=9):c.v.pre=[]:=by
 obtain ⟨_,_,_,k9,_,hp,_⟩:=Co.facts h
 have:=k9 h9
 exact hp.resolve_left Om
theorem cPrint_any (c:Co)(W:World)(hc:c.short)(ht:HasTab W):YC 297 #[coV c] W (YR (.string (mkS c.print)) W):=by
 refine zE Tryz.func297 (yN [] λb1=>z8 (k:=305) (args:= #[coV c]) (v:= .bool c.may) [0] (λw _=>cMay_any c w hc) ?_)
 cases hcm:c.may with
 |false=>exact z7 [] (.string (mkS [])) λw hO=>⟨by unfold Co.print;simp [hcm],hO.below⟩
 |true=>
  have hcv:=(Co.facts hcm).2.1
  have hpn:=parts_nat hcm
  have hpr:=hpn.2
  have hpc:=hpn.1
  have q1:=signL_len c.op
  have q2:=njoin_len hcv c.parts.toNat
  have q4:=sjoin_len hcv c.parts.toNat
  have q3:=hc.1
  refine x_drawF (.s (.s (.s (.s (.s (.s (.s (.s (.s (.s (.s (.s (.s .z))))))))))))) 8 [] (kY [0,0] 2 (nB (R:=λv' ob'=>∃ g,v'= .slice (some ⟨g,0,none⟩) 3 3/\ob'=[⟨g,dT c.v,3⟩]) (λw hO=>cnums_any c.v w) ?_))
  rintro v' ob' ⟨g1,rfl,rfl⟩
  refine xh_slhi 50015 [] 5 (A:=some ⟨g1,0,none⟩) rfl 3 3 1 c.parts Om Om (.slice (some ⟨g1,0,none⟩) c.parts.toNat 3) rfl (zO (α:=Nat×Value×List Blk) (λ(k,va,_)=>[(1,Zp b1 0),(3,va),(15,.slice (some ⟨g1,0,none⟩) c.parts.toNat 3),(16,YI (c.parts.toNat:Int)),(17,YI (k:Int))]) (λ(_,_,oa)=>⟨b1,(coV c).cells,166⟩::⟨g1,dT c.v,3⟩::oa) (λ(k,va,oa) m=>(k<=c.parts.toNat/\SlT va (zZ c.v k) oa)/\m=c.parts.toNat-k) (0,.slice none 0 0,[]) (c.parts.toNat-0) [] ⟨⟨Nat.zero_le _,Sl.nil _ _⟩,rfl⟩ ?_)
  rintro ⟨k,va,oa⟩ m g kk ⟨⟨hkl,hva⟩,hmm⟩ nx hkk
  subst hkk
  have hlk:(zZ c.v k).length<=3:=by have:=tN c.v k;omega
  by_cases h2:(k:Int)<(c.parts.toNat:Int)
  ·have hrd:yY Tryz.prog 3 (dT c.v) k=some (YI (bE c.v.maj c.v.min c.v.pat k)):=by rcases (by omega:k=0\/k=1\/k=2) with rfl|rfl|rfl<;>kernel_rfl
   have hni:=nth_in hcv (show k<3 by omega)
   refine zB 18 [] ((k:Int)<(c.parts.toNat:Int)) (λ_=>vY 19 [] (A:=some ⟨g1,0,none⟩) rfl c.parts.toNat 3 (k:Int) 1 k Om (vX 20 [] 1 (dT c.v) k 3 (YI (bE c.v.maj c.v.min c.v.pat k)) hrd (z8 (k:=166) (args:= #[YI (bE c.v.maj c.v.min c.v.pat k)]) (v:= .string (mkS (Lib.itoa (bE c.v.maj c.v.min c.v.pat k)))) [] (λw hO=>digits_mk _ hni.1 hni.2 w (ht.on hO.below)) (qO [] 1 9 #[.string (mkS (Lib.itoa (bE c.v.maj c.v.min c.v.pat k)))] λb2=>bP (m:=1) (cp:=1) [] [⟨b2, #[.string (mkS (Lib.itoa (bE c.v.maj c.v.min c.v.pat k)))],9⟩,⟨b1,(coV c).cells,166⟩,⟨g1,dT c.v,3⟩] oa [] 0 (⟨b2, #[.string (mkS (Lib.itoa (bE c.v.maj c.v.min c.v.pat k)))],9⟩::⟨b1,(coV c).cells,166⟩::⟨g1,dT c.v,3⟩::oa) (λw hO=>hO.cast (by simp)) hva Om λva2 oa2 hva0=> ?_)))) (λh=>absurd h2 h)
   have hva2:SlT va2 (zZ c.v k++[Lib.itoa (bE c.v.maj c.v.min c.v.pat k)]) oa2:=SlT.add hva0
   exact x_i 26 [] ((k+1:Nat):Int) (yT [] (⟨b1,(coV c).cells,166⟩::⟨g1,dT c.v,3⟩::oa2) (λw hO=>(hO.past 1 (⟨b1,(coV c).cells,166⟩::⟨g1,dT c.v,3⟩::(oa2++[]))).cast (by simp)) (nx (k+1,va2,oa2) (c.parts.toNat-(k+1)) [] Om ⟨⟨by omega,by rw [nums_next c.v Om];exact hva2⟩,rfl⟩ Kr Kr))
  ·obtain rfl:k=c.parts.toNat:=by omega
   refine zB 18 [] ((c.parts.toNat:Int)<(c.parts.toNat:Int)) (λh=>absurd h h2) (λ_=>zB 29 [0] (c.op=9) (λh3=> ?_) (λh3=> ?_))
   ·refine qO [] 1 9 #[.string ⟨#[42]⟩] λb2=>bP (m:=1) (cp:=1) [] [⟨b2, #[.string ⟨#[42]⟩],9⟩,⟨b1,(coV c).cells,166⟩,⟨g1,dT c.v,3⟩] oa [] 0 (⟨b2, #[.string ⟨#[42]⟩],9⟩::⟨b1,(coV c).cells,166⟩::⟨g1,dT c.v,3⟩::oa) (λw hO=>hO.cast (by simp)) hva Om λva2 oa2 hva0=> ?_
    have hva2:SlT va2 (zZ c.v c.parts.toNat++[[42]]) oa2:=SlT.add hva0
    exact z8 (k:=330) (args:= #[YI c.op]) (v:= .string (mkS (y7 c.op))) [1] (λw _=>csign_any c.op w) (z8 (k:=164) (args:= #[va2,.int .u8 46]) (v:= .string (mkS (zG 46 (zZ c.v c.parts.toNat++[[42]])))) [] (λw hO=>bJ va2 _ 46 w (SlT.readsT hva2 (hO.past 3 (oa2++[])) (λx hx=>List.mem_append_left _ hx)) (Nat.le_trans q4 (by decide)) (by rw [List.length_append];simp;omega) star_ne) (zW 38 [] (y7 c.op) (zG 46 (zZ c.v c.parts.toNat++[[42]])) (gX 42 [1] c.v.pre [] (λh4=>z7 [] (.string (mkS (y7 c.op++(zG 46 (zZ c.v c.parts.toNat++[[42]]))))) λw hO=>⟨by rw [v6 hcm,←star_text2 h3],hO.below⟩) (λh4=>absurd (star_pre hcm h3) h4))))
   ·exact z8 (k:=330) (args:= #[YI c.op]) (v:= .string (mkS (y7 c.op))) [0] (λw _=>csign_any c.op w) (z8 (k:=164) (args:= #[va,.int .u8 46]) (v:= .string (mkS (zG 46 (zZ c.v c.parts.toNat)))) [] (λw hO=>bJ va _ 46 w (SlT.readsT hva (hO.past 2 oa) (λx hx=>hx)) (Nat.le_trans q2 (by decide)) (Nat.le_trans hlk (by decide)) (nums_ne hcm h3)) (zW 38 [] (y7 c.op) (zG 46 (zZ c.v c.parts.toNat)) (gX 42 [0] c.v.pre [] (λh4=>z7 [] (.string (mkS (y7 c.op++(zG 46 (zZ c.v c.parts.toNat))))) λw hO=>⟨by rw [v6 hcm,←text_bare h3 h4],hO.below⟩) (λh4=>zW 47 [0] [45] c.v.pre (zW 48 [] (y7 c.op++(zG 46 (zZ c.v c.parts.toNat))) ([45]++c.v.pre) (z7 [] (.string (mkS (y7 c.op++(zG 46 (zZ c.v c.parts.toNat))++([45]++c.v.pre)))) λw hO=>⟨by rw [v6 hcm,←text_pre2 h3 h4],hO.below⟩))))))
end
section
theorem last_pl {l:List (List UInt8)}(h:1<=l.length){x:List UInt8}(hx:tg l (l.length-1)=x):l.getLast?=some x:=by
 rw [List.getLast?_eq_getElem?,List.getElem?_eq_getElem (by omega),tgi_get (by omega),hx]
theorem guess_is {s r ah tl:List UInt8}{op:Int}{pl:List (List UInt8)}(h1:(sgo s 8).1=op)(h2:(sgo s 8).2=r)(h3:(zA 45 r).1=ah)(h4:(zA 45 r).2.1=tl)(h5:dO 2 ah=pl){x:List UInt8}(hx:tg pl (pl.length-1)=x)(hl:1<=pl.length):
  jZ s=if x=[42] then (⟨9,((pl.length:Int) -1),⟨zI (tg pl 0),zI (tg pl 1),zI (tg pl 2),tl,[]⟩⟩:Co) else (⟨op,(pl.length:Int),⟨zI (tg pl 0),zI (tg pl 1),zI (tg pl 2),tl,[]⟩⟩:Co):=by
 have hp:dC s=pl:=by unfold dC;rw [h2,h3,h5]
 unfold jZ starP
 rw [hp,h2,h4,h1,last_pl hl hx]
 by_cases q:x=[42]
 ·rw [if_pos q,q,decide_eq_true rfl];rfl
 ·rw [if_neg q,decide_eq_false (λe=>q (Option.some.inj e))];rfl
theorem fJ {s pt:List UInt8}{c:Co}(hg:jZ s=c)(hp:c.print=pt)(h:pt=s\/pt=[94]++s):pcV s=c/\pcE s=0:=by
 have h2:=prog_some (s:=s) (by rw [hg,hp];exact h)
 rw [hg] at h2
 exact pc_some h2
theorem fit_no {s pt:List UInt8}{c:Co}(hg:jZ s=c)(hp:c.print=pt)(h1:¬ pt=s)(h2:¬ pt=[94]++s):pcV s=⟨0,0,Ver.zero⟩/\pcE s=6:=
 pc_none (prog_none (by rw [hg,hp];exact λq=>q.elim h1 h2))
theorem cParse_any (s:List UInt8)(W:World)(hs:s.length<=1000000)(ht:HasTab W):YC 254 #[.string (mkS s)] W (YR (.tuple #[coV (pcV s),YI (pcE s)]) W):=by
 obtain ⟨op,hop⟩:∃ x,(sgo s 8).1=x:=⟨_,rfl⟩
 obtain ⟨r,hr⟩:∃ x,(sgo s 8).2=x:=⟨_,rfl⟩
 obtain ⟨ah,hah⟩:∃ x,(zA 45 r).1=x:=⟨_,rfl⟩
 obtain ⟨tl,htl⟩:∃ x,(zA 45 r).2.1=x:=⟨_,rfl⟩
 obtain ⟨fd,hfd⟩:∃ x,(zA 45 r).2.2=x:=⟨_,rfl⟩
 obtain ⟨pl,hpl⟩:∃ x,dO 2 ah=x:=⟨_,rfl⟩
 have hrl:r.length<=s.length:=hr▸sgo_le s 8
 have hal:ah.length+tl.length<=r.length:=by rw [←hah,←htl];exact bM 45 r
 obtain ⟨hp1,hp3⟩:1<=pl.length/\pl.length<=3:=hpl▸pcsK_len 2 ah
 have htp:∀ x∈pl,x.length<=1000000:=λx hx=>by rw [←hpl] at hx;exact Nat.le_trans (pcsK_mem 2 ah x hx) Om
 have hgu:=λ{x} (hx:tg pl (pl.length-1)=x)=>guess_is hop hr hah htl hpl hx Om
 have hcs:∀ w,YC 296 #[.string (mkS s)] w (YR (.tuple #[YI op,.string (mkS r)]) w):=λw=>by have:=ccut_any s w hs;rw [hop,hr] at this;exact this
 have hct:∀ w,YC 153 #[.string (mkS r),.string ⟨#[45]⟩] w (YR (.tuple #[.string (mkS ah),.string (mkS tl),.bool fd]) w):=λw=>ret_v (by rw [hah,htl,hfd]) (f0 r 45 w Om)
 have hsp:∀ w,YC 182 #[.string (mkS ah),.string ⟨#[46]⟩,YI 3] w λe w'=>∃ v' ob',e= .returned v'/\SlT v' pl ob'/\Own [] w w' ob':=λw=>by have:=splitn_any ah w Om;rw [hpl] at this;exact this
 have hnu:∀ x∈pl,∀ w,YC 155 #[.string (mkS x)] w (YR (.tuple #[YI (zI x),.bool (qA x)]) w):=λx hx w=>nN x _ rfl w (Nat.le_trans (htp x hx) (by decide))
 have hcl:∀ w,YC 66 #[.string (mkS tl)] w (YR (.string (mkS tl)) w):=λw=>nZ (mkS tl) w (by rw [zQ];omega)
 have hpr:∀ (c:Co) w,c.short->Below W.heap.size W w->YC 297 #[coV c] w (YR (.string (mkS c.print)) w):=λc w hc hb=>cPrint_any c w hc (ht.on hb)
 have hsh:∀ a b c d e,(⟨a,b,⟨c,d,e,tl,[]⟩⟩:Co).short:=λa b c d e=>⟨by show tl.length<=_;omega,Nat.zero_le _⟩
 refine zE Tryz.func254 (zL [] λb2=>z8 (v:= .tuple #[YI op,.string (mkS r)]) [] (λw _=>hcs w) (z8 (v:= .tuple #[.string (mkS ah),.string (mkS tl),.bool fd]) [] (λw _=>hct w) (zL [] λb8=>kP (R:=λv ob=>SlT v pl ob) [] (λw _=>hsp w) ?_)))
 rintro v ob hsl
 obtain ⟨A1,c1,rfl⟩:=hsl.form
 obtain ⟨g1,cur1,rfl,rfl,hc1,hm1,hz1,ht1⟩:=Sl.block hsl Om
 rw [kS] at ht1
 have hrd:∀ i x,i<pl.length->tg pl i=x->yY Tryz.prog 9 cur1 (i*1+0)=some (.string (mkS x)):=λi x hi hx=>nK zX ht1 i 0 hi (by decide) _ (by rw [tgi_get hi,hx];kernel_rfl)
 clear hcs hct hsp ht1 hsl
 obtain ⟨p0,rfl⟩|⟨p0,p1,rfl⟩|⟨p0,p1,p2,rfl⟩:(∃ p0,pl=[p0])\/(∃ p0 p1,pl=[p0,p1])∨∃ p0 p1 p2,pl=[p0,p1,p2]:=by
  match pl,hp1,hp3 with
  | [p0],_,_=>exact .inl ⟨p0,rfl⟩
  | [p0,p1],_,_=>exact .inr (.inl ⟨p0,p1,rfl⟩)
  | [p0,p1,p2],_,_=>exact .inr (.inr ⟨p0,p1,p2,rfl⟩)
 ·refine fW 3 [] (vX 33 [] 2 cur1 (0*1+0) 9 (.string (mkS p0)) (hrd 0 _ (by simp) rfl) (z8 (v:= .tuple #[YI (zI p0),.bool (qA p0)]) [] (λw _=>hnu p0 (by simp) w) (zL [0] λb12=>vX 51 [0] 3 cur1 (0*1+0) 9 (.string (mkS p0)) (hrd 0 _ (by simp) rfl) (x2 52 [] p0 [42] (λh3=> ?_) (λh3=> ?_)))))
  ·obtain ⟨pt,hpt⟩:∃ x,Co.print ⟨9,0,⟨zI p0,0,0,tl,[]⟩⟩=x:=⟨_,rfl⟩
   have hp:=λw hb=>hpt▸hpr ⟨9,0,⟨zI p0,0,0,tl,[]⟩⟩ w (hsh _ _ _ _ _) hb
   refine z8 (v:= .string (mkS pt)) [0,0,0,1,1,1,0,0] (λw hO=>hp w hO.below) (gX 71 [] pt s (λh4=> ?_) (λh4=>zW 75 [] [94] s (gX 76 [] pt ([94]++s) (λh5=> ?_) (λh5=> ?_))))
   ·exact z8 (v:= .string (mkS tl)) [] (λw _=>hcl w) (yC [0,0,2] 2 (coV (⟨9,0,⟨zI p0,0,0,tl,[]⟩⟩:Co)) (YI 0) λw hO=>⟨by have q:=fJ (c:=⟨9,0,⟨zI p0,0,0,tl,[]⟩⟩) ((hgu (x:=p0) rfl).trans (if_pos h3)) hpt (.inl h4);rw [q.1,q.2],hO.below⟩)
   ·exact z8 (v:= .string (mkS tl)) [] (λw _=>hcl w) (yC [0,0,2] 2 (coV (⟨9,0,⟨zI p0,0,0,tl,[]⟩⟩:Co)) (YI 0) λw hO=>⟨by have q:=fJ (c:=⟨9,0,⟨zI p0,0,0,tl,[]⟩⟩) ((hgu (x:=p0) rfl).trans (if_pos h3)) hpt (.inr h5);rw [q.1,q.2],hO.below⟩)
   ·exact yC [2] 2 (coV ⟨0,0,Ver.zero⟩) (YI 6) λw hO=>⟨by have q:=fit_no (c:=⟨9,0,⟨zI p0,0,0,tl,[]⟩⟩) ((hgu (x:=p0) rfl).trans (if_pos h3)) hpt h4 h5;rw [q.1,q.2],hO.below⟩
  obtain ⟨pt,hpt⟩:∃ x,Co.print ⟨op,1,⟨zI p0,0,0,tl,[]⟩⟩=x:=⟨_,rfl⟩
  have hp:=λw hb=>hpt▸hpr ⟨op,1,⟨zI p0,0,0,tl,[]⟩⟩ w (hsh _ _ _ _ _) hb
  refine z8 (v:= .string (mkS pt)) [1,1,1,0,0] (λw hO=>hp w hO.below) (gX 71 [] pt s (λh4=> ?_) (λh4=>zW 75 [] [94] s (gX 76 [] pt ([94]++s) (λh5=> ?_) (λh5=> ?_))))
  ·exact z8 (v:= .string (mkS tl)) [] (λw _=>hcl w) (yC [0,0,2] 2 (coV (⟨op,1,⟨zI p0,0,0,tl,[]⟩⟩:Co)) (YI 0) λw hO=>⟨by have q:=fJ (c:=⟨op,1,⟨zI p0,0,0,tl,[]⟩⟩) ((hgu (x:=p0) rfl).trans (if_neg h3)) hpt (.inl h4);rw [q.1,q.2],hO.below⟩)
  ·exact z8 (v:= .string (mkS tl)) [] (λw _=>hcl w) (yC [0,0,2] 2 (coV (⟨op,1,⟨zI p0,0,0,tl,[]⟩⟩:Co)) (YI 0) λw hO=>⟨by have q:=fJ (c:=⟨op,1,⟨zI p0,0,0,tl,[]⟩⟩) ((hgu (x:=p0) rfl).trans (if_neg h3)) hpt (.inr h5);rw [q.1,q.2],hO.below⟩)
  ·exact yC [2] 2 (coV ⟨0,0,Ver.zero⟩) (YI 6) λw hO=>⟨by have q:=fit_no (c:=⟨op,1,⟨zI p0,0,0,tl,[]⟩⟩) ((hgu (x:=p0) rfl).trans (if_neg h3)) hpt h4 h5;rw [q.1,q.2],hO.below⟩
 ·refine fW 3 [] (vX 33 [] 2 cur1 (0*1+0) 9 (.string (mkS p0)) (hrd 0 _ (by simp) rfl) (z8 (v:= .tuple #[YI (zI p0),.bool (qA p0)]) [] (λw _=>hnu p0 (by simp) w) (vX 33 [0] 2 cur1 (1*1+0) 9 (.string (mkS p1)) (hrd 1 _ (by simp) rfl) (z8 (v:= .tuple #[YI (zI p1),.bool (qA p1)]) [] (λw _=>hnu p1 (by simp) w) (zL [0] λb12=>vX 51 [0] 3 cur1 (1*1+0) 9 (.string (mkS p1)) (hrd 1 _ (by simp) rfl) (x2 52 [] p1 [42] (λh3=> ?_) (λh3=> ?_)))))))
  ·obtain ⟨pt,hpt⟩:∃ x,Co.print ⟨9,1,⟨zI p0,zI p1,0,tl,[]⟩⟩=x:=⟨_,rfl⟩
   have hp:=λw hb=>hpt▸hpr ⟨9,1,⟨zI p0,zI p1,0,tl,[]⟩⟩ w (hsh _ _ _ _ _) hb
   refine z8 (v:= .string (mkS pt)) [0,0,0,1,1,1,0,0] (λw hO=>hp w hO.below) (gX 71 [] pt s (λh4=> ?_) (λh4=>zW 75 [] [94] s (gX 76 [] pt ([94]++s) (λh5=> ?_) (λh5=> ?_))))
   ·exact z8 (v:= .string (mkS tl)) [] (λw _=>hcl w) (yC [0,0,2] 2 (coV (⟨9,1,⟨zI p0,zI p1,0,tl,[]⟩⟩:Co)) (YI 0) λw hO=>⟨by have q:=fJ (c:=⟨9,1,⟨zI p0,zI p1,0,tl,[]⟩⟩) ((hgu (x:=p1) rfl).trans (if_pos h3)) hpt (.inl h4);rw [q.1,q.2],hO.below⟩)
   ·exact z8 (v:= .string (mkS tl)) [] (λw _=>hcl w) (yC [0,0,2] 2 (coV (⟨9,1,⟨zI p0,zI p1,0,tl,[]⟩⟩:Co)) (YI 0) λw hO=>⟨by have q:=fJ (c:=⟨9,1,⟨zI p0,zI p1,0,tl,[]⟩⟩) ((hgu (x:=p1) rfl).trans (if_pos h3)) hpt (.inr h5);rw [q.1,q.2],hO.below⟩)
   ·exact yC [2] 2 (coV ⟨0,0,Ver.zero⟩) (YI 6) λw hO=>⟨by have q:=fit_no (c:=⟨9,1,⟨zI p0,zI p1,0,tl,[]⟩⟩) ((hgu (x:=p1) rfl).trans (if_pos h3)) hpt h4 h5;rw [q.1,q.2],hO.below⟩
  obtain ⟨pt,hpt⟩:∃ x,Co.print ⟨op,2,⟨zI p0,zI p1,0,tl,[]⟩⟩=x:=⟨_,rfl⟩
  have hp:=λw hb=>hpt▸hpr ⟨op,2,⟨zI p0,zI p1,0,tl,[]⟩⟩ w (hsh _ _ _ _ _) hb
  refine z8 (v:= .string (mkS pt)) [1,1,1,0,0] (λw hO=>hp w hO.below) (gX 71 [] pt s (λh4=> ?_) (λh4=>zW 75 [] [94] s (gX 76 [] pt ([94]++s) (λh5=> ?_) (λh5=> ?_))))
  ·exact z8 (v:= .string (mkS tl)) [] (λw _=>hcl w) (yC [0,0,2] 2 (coV (⟨op,2,⟨zI p0,zI p1,0,tl,[]⟩⟩:Co)) (YI 0) λw hO=>⟨by have q:=fJ (c:=⟨op,2,⟨zI p0,zI p1,0,tl,[]⟩⟩) ((hgu (x:=p1) rfl).trans (if_neg h3)) hpt (.inl h4);rw [q.1,q.2],hO.below⟩)
  ·exact z8 (v:= .string (mkS tl)) [] (λw _=>hcl w) (yC [0,0,2] 2 (coV (⟨op,2,⟨zI p0,zI p1,0,tl,[]⟩⟩:Co)) (YI 0) λw hO=>⟨by have q:=fJ (c:=⟨op,2,⟨zI p0,zI p1,0,tl,[]⟩⟩) ((hgu (x:=p1) rfl).trans (if_neg h3)) hpt (.inr h5);rw [q.1,q.2],hO.below⟩)
  ·exact yC [2] 2 (coV ⟨0,0,Ver.zero⟩) (YI 6) λw hO=>⟨by have q:=fit_no (c:=⟨op,2,⟨zI p0,zI p1,0,tl,[]⟩⟩) ((hgu (x:=p1) rfl).trans (if_neg h3)) hpt h4 h5;rw [q.1,q.2],hO.below⟩
 ·refine fW 3 [] (vX 33 [] 2 cur1 (0*1+0) 9 (.string (mkS p0)) (hrd 0 _ (by simp) rfl) (z8 (v:= .tuple #[YI (zI p0),.bool (qA p0)]) [] (λw _=>hnu p0 (by simp) w) (vX 33 [0] 2 cur1 (1*1+0) 9 (.string (mkS p1)) (hrd 1 _ (by simp) rfl) (z8 (v:= .tuple #[YI (zI p1),.bool (qA p1)]) [] (λw _=>hnu p1 (by simp) w) (vX 33 [0] 2 cur1 (2*1+0) 9 (.string (mkS p2)) (hrd 2 _ (by simp) rfl) (z8 (v:= .tuple #[YI (zI p2),.bool (qA p2)]) [] (λw _=>hnu p2 (by simp) w) (zL [0] λb12=>vX 51 [0] 3 cur1 (2*1+0) 9 (.string (mkS p2)) (hrd 2 _ (by simp) rfl) (x2 52 [] p2 [42] (λh3=> ?_) (λh3=> ?_)))))))))
  ·obtain ⟨pt,hpt⟩:∃ x,Co.print ⟨9,2,⟨zI p0,zI p1,zI p2,tl,[]⟩⟩=x:=⟨_,rfl⟩
   have hp:=λw hb=>hpt▸hpr ⟨9,2,⟨zI p0,zI p1,zI p2,tl,[]⟩⟩ w (hsh _ _ _ _ _) hb
   refine z8 (v:= .string (mkS pt)) [0,0,0,1,1,1,0,0] (λw hO=>hp w hO.below) (gX 71 [] pt s (λh4=> ?_) (λh4=>zW 75 [] [94] s (gX 76 [] pt ([94]++s) (λh5=> ?_) (λh5=> ?_))))
   ·exact z8 (v:= .string (mkS tl)) [] (λw _=>hcl w) (yC [0,0,2] 2 (coV (⟨9,2,⟨zI p0,zI p1,zI p2,tl,[]⟩⟩:Co)) (YI 0) λw hO=>⟨by have q:=fJ (c:=⟨9,2,⟨zI p0,zI p1,zI p2,tl,[]⟩⟩) ((hgu (x:=p2) rfl).trans (if_pos h3)) hpt (.inl h4);rw [q.1,q.2],hO.below⟩)
   ·exact z8 (v:= .string (mkS tl)) [] (λw _=>hcl w) (yC [0,0,2] 2 (coV (⟨9,2,⟨zI p0,zI p1,zI p2,tl,[]⟩⟩:Co)) (YI 0) λw hO=>⟨by have q:=fJ (c:=⟨9,2,⟨zI p0,zI p1,zI p2,tl,[]⟩⟩) ((hgu (x:=p2) rfl).trans (if_pos h3)) hpt (.inr h5);rw [q.1,q.2],hO.below⟩)
   ·exact yC [2] 2 (coV ⟨0,0,Ver.zero⟩) (YI 6) λw hO=>⟨by have q:=fit_no (c:=⟨9,2,⟨zI p0,zI p1,zI p2,tl,[]⟩⟩) ((hgu (x:=p2) rfl).trans (if_pos h3)) hpt h4 h5;rw [q.1,q.2],hO.below⟩
  obtain ⟨pt,hpt⟩:∃ x,Co.print ⟨op,3,⟨zI p0,zI p1,zI p2,tl,[]⟩⟩=x:=⟨_,rfl⟩
  have hp:=λw hb=>hpt▸hpr ⟨op,3,⟨zI p0,zI p1,zI p2,tl,[]⟩⟩ w (hsh _ _ _ _ _) hb
  refine z8 (v:= .string (mkS pt)) [1,1,1,0,0] (λw hO=>hp w hO.below) (gX 71 [] pt s (λh4=> ?_) (λh4=>zW 75 [] [94] s (gX 76 [] pt ([94]++s) (λh5=> ?_) (λh5=> ?_))))
  ·exact z8 (v:= .string (mkS tl)) [] (λw _=>hcl w) (yC [0,0,2] 2 (coV (⟨op,3,⟨zI p0,zI p1,zI p2,tl,[]⟩⟩:Co)) (YI 0) λw hO=>⟨by have q:=fJ (c:=⟨op,3,⟨zI p0,zI p1,zI p2,tl,[]⟩⟩) ((hgu (x:=p2) rfl).trans (if_neg h3)) hpt (.inl h4);rw [q.1,q.2],hO.below⟩)
  ·exact z8 (v:= .string (mkS tl)) [] (λw _=>hcl w) (yC [0,0,2] 2 (coV (⟨op,3,⟨zI p0,zI p1,zI p2,tl,[]⟩⟩:Co)) (YI 0) λw hO=>⟨by have q:=fJ (c:=⟨op,3,⟨zI p0,zI p1,zI p2,tl,[]⟩⟩) ((hgu (x:=p2) rfl).trans (if_neg h3)) hpt (.inr h5);rw [q.1,q.2],hO.below⟩)
  ·exact yC [2] 2 (coV ⟨0,0,Ver.zero⟩) (YI 6) λw hO=>⟨by have q:=fit_no (c:=⟨op,3,⟨zI p0,zI p1,zI p2,tl,[]⟩⟩) ((hgu (x:=p2) rfl).trans (if_neg h3)) hpt h4 h5;rw [q.1,q.2],hO.below⟩
end
section
theorem textR_few {xs:List Al}(h1:xs.length<=6)(h:∀ x∈xs,fewA x.l=true):fM (yU xs)=kF (yU xs):=by
 unfold fM
 cases hf:fewR (yU xs) with
 |true=>rfl
 |false=>
  cases xs with
  |nil=>rfl
  |cons x xs=>rw [few_all ⟨by simp,h1⟩ h] at hf;cases hf
theorem textR_bad {xs:List Al}{x:Al}(hm:x∈xs)(h:fewA x.l=false):fM (yU xs)=[]:=textR_nil.2 (few_one hm h)
theorem textR_big {xs:List Al}(h:6<xs.length):fM (yU xs)=[]:=textR_nil.2 (few_len Om)
theorem own_tx2 {M:List Nat}{W w:World}{x z:Blk}{A B:List Blk}(h:Own M W w ([x,z]++A++B)):Own M W w (z::A):=by
 exact (Own.sub [x] (by simpa using h:Own M W w (x::(z::A++B)))).sublist (by simp)
theorem own_tx3 {M:List Nat}{W w:World}{x y:Blk}{A B:List Blk}(h:Own M W w (x::y::(A++B))):Own M W w (x::y::(B++A)):=
 h.perm (List.Perm.cons x (List.Perm.cons y List.perm_append_comm))
theorem alts_le {l:List (List Co)}{i:Nat}(h:∀ a∈l.take i,fewA a=true):∀ t∈(l.take i).map xF,t.length<=1000000:=λt ht=>by
 obtain ⟨a,ha,rfl⟩:=List.mem_map.1 ht
 obtain ⟨h1,h2⟩:=fewA.facts (h a ha)
 unfold xF
 rw [joinB_len,List.length_map]
 have:∀ (l:List Co),(∀ c∈l,c.may=true)->sumN ((l.map Co.print).map (·.length))<=l.length*300:=by
  intro l hl
  induction l with
  |nil=>simp [sumN]
  |cons c l ih=>
   have h3:=co_len (hl c (List.mem_cons_self ..))
   have h4:=ih λd hd=>hl d (List.mem_cons_of_mem _ hd)
   rw [List.map_cons,List.map_cons,sumN,List.length_cons];omega
 have:=this a h2
 have h5:(a.length-1)*([44,32]:List UInt8).length<=5*2:=Nat.mul_le_mul Om (by simp)
 omega
theorem gtext_any (A:Option Addr)(cap:Nat)(xs:List Al)(W:World)(hv:RgIn W W.heap.size A xs)(ht:HasLib W):YC 256 #[.agg #[.slice A xs.length cap]] W (YR (.string (mkS (fM (yU xs)))) W):=by
 have hn:=hv.n
 have hno:=λ(h:fM (yU xs)=[]) (w:World) (hb:Below W.heap.size W w)=>show Ending.returned (.string (mkS []))= .returned (.string (mkS (fM (yU xs))))/\Below W.heap.size W w from ⟨by rw [h],hb⟩
 refine zE Tryz.func256 (yN [] λb1=>zB 12 [0] ((6:Int)<(xs.length:Int)) (λh1=>z7 [] (.string (mkS [])) λw hO=>hno (textR_big Om) w hO.below) (λh1=> ?_))
 refine zO (α:=Nat×Option Addr×Nat×Nat×List Blk) (λ(i,U,n,cu,_)=>[(1,Zp b1 0),(3,.slice U n cu),(14,.slice A xs.length cap),(15,YI (xs.length:Int)),(16,YI (i:Int))]) (λ(_,_,_,_,ob)=>⟨b1, #[.slice A xs.length cap],234⟩::ob) (λ(i,U,n,cu,ob) m=>(i<=xs.length/\(∀ x∈xs.take i,fewA x.l=true)/\SlT (.slice U n cu) (((yU xs).take i).map xF) ob)/\m=xs.length-i) (0,none,0,0,[]) (xs.length-0) [0] ⟨⟨Nat.zero_le _,by simp,Sl.nil _ _⟩,rfl⟩ ?_
 rintro ⟨i,U,n,cu,ob⟩ m g kk ⟨⟨hil,hff,hT⟩,hmm⟩ nx hkk
 subst hkk
 by_cases h2:(i:Int)<(xs.length:Int)
 ·have hi:i<xs.length:=by omega
  obtain ⟨bp,off,hA,hlt,hcell⟩:=hv.top Om
  obtain ⟨x,hx⟩:∃ x,xs[i]=x:=⟨_,rfl⟩
  have hxm:x∈xs:=hx▸List.getElem_mem hi
  have hxn:=hv.m x hxm
  have hxr:(yU xs)[i]'(by rw [gF];exact hi)=x.l:=rgOf_get hi hx
  have hrow:∀ w,Below W.heap.size W w->(loadVar 265 ⟨bp,off+i*1,none⟩).run Tryz.prog w= .ok (.slice x.A x.l.length x.cap) w:=λw hb=>qZ alC_len (λj u h=>(hb.cell (p:=⟨bp,off+j,none⟩) hlt).trans (hcell j u h)) i 0 hi Om _ (by rw [hx];kernel_rfl)
  refine zB 17 [] ((i:Int)<(xs.length:Int)) (λ_=>zJ 18 [] hA xs.length cap i 1 hi (zH 19 [] 265 bp (off+i*1) (.slice x.A x.l.length x.cap) (λw hO=>hrow w hO.below) (zB 22 [] ((x.l.length:Int)=0) (λh3=>z7 [] (.string (mkS [])) λw hO=>hno (textR_bad hxm (fewA_len Om)) w hO.below) (λh3=>zB 26 [] ((6:Int)<(x.l.length:Int)) (λh4=>z7 [] (.string (mkS [])) λw hO=>hno (textR_bad hxm (fewA_len Om)) w hO.below) (λh4=> ?_))))) (λh=>absurd h2 h)
  refine zO (α:=Nat×Option Addr×Nat×Nat×List Blk) (λ(k,V,np,cv,_)=>[(1,Zp b1 0),(3,.slice U n cu),(14,.slice A xs.length cap),(15,YI (xs.length:Int)),(16,YI (i:Int)),(6,.slice V np cv),(28,.slice x.A x.l.length x.cap),(29,YI (x.l.length:Int)),(30,YI (k:Int))]) (λ(_,_,_,_,oa)=>⟨b1, #[.slice A xs.length cap],234⟩::(oa++ob)) (λ(k,V,np,cv,oa) m=>(k<=x.l.length/\(∀ c∈x.l.take k,c.may=true)/\SlT (.slice V np cv) ((x.l.take k).map Co.print) oa)/\m=x.l.length-k) (0,none,0,0,[]) (x.l.length-0) [] ⟨⟨Nat.zero_le _,by simp,Sl.nil _ _⟩,rfl⟩ ?_
  rintro ⟨k,V,np,cv,oa⟩ m2 g2 kk2 ⟨⟨hkl,hcf,hP⟩,hmk⟩ nxk hkk2
  subst hkk2
  by_cases h5:(k:Int)<(x.l.length:Int)
  ·have hk:k<x.l.length:=by omega
   obtain ⟨bq,off2,hA2,hlt2,hcell2⟩:=hv.each x hxm Om
   obtain ⟨c,hc⟩:∃ c,x.l[k]=c:=⟨_,rfl⟩
   have hcm:c∈x.l:=hc▸List.getElem_mem hk
   have hcS:c.short:=hv.short x hxm c hcm
   have hco:∀ w,Below W.heap.size W w->(loadVar 166 ⟨bq,off2+k*7,none⟩).run Tryz.prog w= .ok (coV c) w:=λw hb=>qZ coC_len (λj u h=>(hb.cell (p:=⟨bq,off2+j,none⟩) hlt2).trans (hcell2 j u h)) k 0 hk Om _ (by rw [hc];kernel_rfl)
   have hpl0:((x.l.take k).map Co.print).length<=6:=by rw [List.length_map,List.length_take];omega
   refine zB 31 [] ((k:Int)<(x.l.length:Int)) (λ_=>zJ 32 [] hA2 x.l.length x.cap k 7 hk (zH 33 [] 166 bq (off2+k*7) (coV c) (λw hO=>hco w hO.below) (zL [] λb2=>z8 (k:=305) (args:= #[coV c]) (v:= .bool c.may) [0,0] (λw _=>cMay_any c w hcS) ?_))) (λh=>absurd h5 h)
   cases h6:c.may with
   |false=>exact z7 [] (.string (mkS [])) λw hO=>hno (textR_bad hxm (fewA_one hcm h6)) w hO.below
   |true=>
    refine z8 (k:=297) (args:= #[coV c]) (v:= .string (mkS c.print)) [0] (λw hO=>cPrint_any c w hcS (ht.tab.on hO.below)) (qO [] 1 9 #[.string (mkS c.print)] λb3=>bP (m:=1) (cp:=1) [] [⟨b3, #[.string (mkS c.print)],9⟩,⟨b2,(coV c).cells,166⟩,⟨b1, #[.slice A xs.length cap],234⟩] oa ob 0 (⟨b3, #[.string (mkS c.print)],9⟩::⟨b2,(coV c).cells,166⟩::⟨b1, #[.slice A xs.length cap],234⟩::(oa++ob)) (λw hO=>hO.cast (by simp)) hP Om λw1 oa2 hu1=> ?_)
    have hP2:SlT w1 (((x.l.take k).map Co.print)++[c.print]) oa2:=SlT.add hu1
    obtain ⟨V2,cv2,rfl⟩:=hP2.form
    exact x_i 42 [] ((k+1:Nat):Int) (yT [] (⟨b1, #[.slice A xs.length cap],234⟩::(oa2++ob)) (λw hO=>hO.past 2 _) (nxk (k+1,V2,(((x.l.take k).map Co.print)++[c.print]).length,cv2,oa2) (x.l.length-(k+1)) [] Om ⟨⟨by omega,take_all hcf hk hc h6,by rw [List.take_succ_eq_append_getElem hk,hc,List.map_append];exact hP2⟩,rfl⟩ Kr Kr))
  ·have hal2:∀ c∈x.l,c.may=true:=by have q:=hcf;rwa [List.take_of_length_le Om] at q
   have hfx:fewA x.l=true:=fewA_all ⟨by omega,by omega⟩ hal2
   have hpl:=hP.caps
   rw [List.take_of_length_le (by omega:x.l.length<=k)] at hP hpl
   have hal0:(((yU xs).take i).map xF).length<=6:=by rw [List.length_map,List.length_take,gF];omega
   refine zB 31 [] ((k:Int)<(x.l.length:Int)) (λh=>absurd h h5) (λ_=>z8 (k:=306) (args:= #[.slice V np cv,.string (mkS [44,32])]) (v:= .string (mkS (xF x.l))) [] (λw hO=>by rw [hpl.1];exact sjoin_any [44,32] (x.l.map Co.print) V cv w (SlT.reads hP hpl.1.symm (hO.past 1 (oa++ob)) (λx hx=>List.mem_append_left _ hx)) (by decide) (by decide) (by rw [List.length_map];omega) (λt ht=>by obtain ⟨c,hc,rfl⟩:=List.mem_map.1 ht;exact Nat.le_trans (co_len (hal2 c hc)) (by decide)) hpl.2) (qO [] 1 9 #[.string (mkS (xF x.l))] λb2=>bP (m:=1) (cp:=1) [] [⟨b2, #[.string (mkS (xF x.l))],9⟩,⟨b1, #[.slice A xs.length cap],234⟩] ob oa 0 (⟨b2, #[.string (mkS (xF x.l))],9⟩::⟨b1, #[.slice A xs.length cap],234⟩::(oa++ob)) (λw hO=>(own_tx3 hO).cast (by simp)) hT Om λw2 ob2 hu2=> ?_))
   have hT2:SlT w2 ((((yU xs).take i).map xF)++[xF x.l]) ob2:=SlT.add hu2
   obtain ⟨U2,cu2,rfl⟩:=hT2.form
   exact x_i 48 [] ((i+1:Nat):Int) (yT [] (⟨b1, #[.slice A xs.length cap],234⟩::ob2) (λw hO=>own_tx2 (hO.past 0 ([⟨b2, #[.string (mkS (xF x.l))],9⟩,⟨b1, #[.slice A xs.length cap],234⟩]++ob2++oa))) (nx (i+1,U2,((((yU xs).take i).map xF)++[xF x.l]).length,cu2,ob2) (xs.length-(i+1)) [] Om ⟨⟨by omega,take_all hff hi hx hfx,by rw [List.take_succ_eq_append_getElem (by rw [gF];exact hi),hxr,List.map_append];exact hT2⟩,rfl⟩ Kr Kr))
 ·have hall:∀ x∈xs,fewA x.l=true:=by have q:=hff;rwa [List.take_of_length_le Om] at q
  have htl:=hT.caps
  rw [show (yU xs).take i=yU xs from List.take_of_length_le (by rw [gF];omega)] at hT htl
  exact zB 17 [] ((i:Int)<(xs.length:Int)) (λh=>absurd h h2) (λ_=>z8 (k:=306) (args:= #[.slice U n cu,.string (mkS [32,124,124,32])]) (v:= .string (mkS (kF (yU xs)))) [] (λw hO=>by rw [htl.1];exact sjoin_any [32,124,124,32] ((yU xs).map xF) U cu w (SlT.reads hT htl.1.symm (hO.past 1 ob) (λx hx=>hx)) (by decide) (by decide) (by rw [List.length_map,gF];omega) (by have q:=alts_le (l:=yU xs) (i:=xs.length) (λa ha=>by obtain ⟨x,hx,rfl⟩:=List.mem_map.1 (List.mem_of_mem_take ha);exact hall x hx);rwa [List.take_of_length_le (by rw [gF];exact Nat.le_refl _)] at q) htl.2) (z7 [] (.string (mkS (kF (yU xs)))) λw hO=>⟨by rw [textR_few Om hall],hO.below⟩))
theorem gPrint_any (A:Option Addr)(cap:Nat)(xs:List Al)(W:World)(hv:RgIn W W.heap.size A xs)(ht:HasLib W):YC 215 #[.agg #[.slice A xs.length cap]] W (YR (.string (mkS (jN (yU xs)))) W):=by
 obtain ⟨t,et⟩:∃ t,fM (yU xs)=t:=⟨_,rfl⟩
 exact zE Tryz.func215 (yN [] λb1=>z8 (k:=256) (args:= #[.agg #[.slice A xs.length cap]]) (v:= .string (mkS t)) [0] (λw hO=>ret_v (by rw [et]) (gtext_any A cap xs w (hv.on hO.below hO.below.size) (ht.on hO.below))) (zB 8 [] ((96:Int)<(t.length:Int)) (λh1=>z7 [] (.string (mkS [])) λw hO=>⟨by rw [print_text,et,if_pos Om],hO.below⟩) (λh1=>z7 [] (.string (mkS t)) λw hO=>⟨by rw [print_text,et,if_neg Om],hO.below⟩)))
end
section
theorem rsfew_any (A:Option Addr)(cap:Nat)(xs:List Al)(W:World)(hv:RgIn W W.heap.size A xs):YC 275 #[.agg #[.slice A xs.length cap]] W (YR (.bool (fewR (yU xs))) W):=by
 have hno:=λ(h:fewR (yU xs)=false) (w:World) (hb:Below W.heap.size W w)=>show Ending.returned (.bool false)= .returned (.bool (fewR (yU xs)))/\Below W.heap.size W w from ⟨by rw [h],hb⟩
 refine zE Tryz.func275 (yN [] λb1=>zB 8 [0] ((xs.length:Int)<1) (λh=>z7 [] Z5 λw hO=>hno (few_len Om) w hO.below) (λh1=>zB 13 [0] ((6:Int)<(xs.length:Int)) (λh=>z7 [] Z5 λw hO=>hno (few_len Om) w hO.below) (λh2=> ?_)))
 refine zO (α:=Nat) (λi=>[(1,Zp b1 0),(3,YI (i:Int))]) (λ_=>[⟨b1, #[.slice A xs.length cap],234⟩]) (λi m=>(i<=xs.length∧∀ x∈xs.take i,fewA x.l=true)/\m=xs.length-i) 0 (xs.length-0) [] ⟨⟨Nat.zero_le _,by simp⟩,rfl⟩ ?_
 rintro i m g kk ⟨hrel,hmm⟩ nx hkk
 subst hkk
 have hil:=hrel.1
 by_cases h3:(i:Int)<(xs.length:Int)
 ·have hi:i<xs.length:=by omega
  obtain ⟨b,off,hA,hlt,hcell⟩:=hv.top Om
  obtain ⟨x,hx⟩:∃ x,xs[i]=x:=⟨_,rfl⟩
  have hxm:x∈xs:=hx▸List.getElem_mem hi
  have hrow:∀ w,Below W.heap.size W w->(loadVar 265 ⟨b,off+i*1,none⟩).run Tryz.prog w= .ok (.slice x.A x.l.length x.cap) w:=λw hb=>qZ alC_len (λj u h=>(hb.cell (p:=⟨b,off+j,none⟩) hlt).trans (hcell j u h)) i 0 hi Om _ (by rw [hx];kernel_rfl)
  refine zB 19 [0] ((i:Int)<(xs.length:Int)) (λ_=>zJ 25 [0] hA xs.length cap i 1 hi (zH 26 [] 265 b (off+i*1) (.slice x.A x.l.length x.cap) (λw hO=>hrow w hO.below) (zB 28 [] ((x.l.length:Int)<1) (λh=>z7 [] Z5 λw hO=>hno (few_one hxm (fewA_len Om)) w hO.below) (λh4=>zJ 33 [0] hA xs.length cap i 1 hi (zH 34 [] 265 b (off+i*1) (.slice x.A x.l.length x.cap) (λw hO=>hrow w hO.below) (zB 36 [] ((6:Int)<(x.l.length:Int)) (λh=>z7 [] Z5 λw hO=>hno (few_one hxm (fewA_len Om)) w hO.below) (λh5=> ?_))))))) (λh=>absurd h3 h)
  refine zO (α:=Nat) (λk=>[(1,Zp b1 0),(3,YI (i:Int)),(4,YI (k:Int))]) (λ_=>[⟨b1, #[.slice A xs.length cap],234⟩]) (λk m=>(k<=x.l.length∧∀ c∈x.l.take k,c.may=true)/\m=x.l.length-k) 0 (x.l.length-0) [] ⟨⟨Nat.zero_le _,by simp⟩,rfl⟩ ?_
  rintro k m2 g2 kk2 ⟨hrk,hmk⟩ nxk hkk2
  subst hkk2
  have hkl:=hrk.1
  refine zJ 42 [0] hA xs.length cap i 1 hi (zH 43 [] 265 b (off+i*1) (.slice x.A x.l.length x.cap) (λw hO=>hrow w hO.below) (zB 45 [] ((k:Int)<(x.l.length:Int)) (λh6=> ?_) (λh6=>x_i 21 [] ((i+1:Nat):Int) (nx (i+1) (xs.length-(i+1)) [] Om ⟨⟨by omega,take_all hrel.2 hi hx (fewA_all Om (take_end hrk.2 Om))⟩,rfl⟩ Kr Kr))))
  have hk:k<x.l.length:=by omega
  obtain ⟨b2,off2,hA2,hlt2,hcell2⟩:=hv.each x hxm Om
  obtain ⟨c,hc⟩:∃ c,x.l[k]=c:=⟨_,rfl⟩
  have hcm:c∈x.l:=hc▸List.getElem_mem hk
  have hcS:c.short:=hv.short x hxm c hcm
  have hco:∀ w,Below W.heap.size W w->(loadVar 166 ⟨b2,off2+k*7,none⟩).run Tryz.prog w= .ok (coV c) w:=λw hb=>qZ coC_len (λj u h=>(hb.cell (p:=⟨b2,off2+j,none⟩) hlt2).trans (hcell2 j u h)) k 0 hk Om _ (by rw [hc];kernel_rfl)
  refine zJ 51 [0] hA xs.length cap i 1 hi (zH 52 [] 265 b (off+i*1) (.slice x.A x.l.length x.cap) (λw hO=>hrow w hO.below) (zJ 54 [] hA2 x.l.length x.cap k 7 hk (zH 55 [] 166 b2 (off2+k*7) (coV c) (λw hO=>hco w hO.below) (z8 (k:=189) (args:= #[coV c]) (v:= .bool c.may) [] (λw _=>rcMay_any c w hcS) ?_))))
  cases h7:c.may with
  |true=>exact x_i 47 [] ((k+1:Nat):Int) (nxk (k+1) (x.l.length-(k+1)) [] Om ⟨⟨by omega,take_all hrk.2 hk hc h7⟩,rfl⟩ Kr Kr)
  |false=>exact z7 [] (.bool false) λw hO=>hno (few_one hxm (fewA_one hcm h7)) w hO.below
 ·exact zB 19 [0] ((i:Int)<(xs.length:Int)) (λh=>absurd h h3) (λ_=>z7 [] Z4 λw hO=>⟨by rw [few_all Om (take_end hrel.2 Om)],hO.below⟩)
theorem rstext_any (A:Option Addr)(cap:Nat)(xs:List Al)(W:World)(hv:RgIn W W.heap.size A xs)(hf:fewR (yU xs)=true):YC 276 #[.agg #[.slice A xs.length cap]] W (YR (.string (mkS (kF (yU xs)))) W):=by
 have hn:=(few_mem hf).1.2
 refine zE Tryz.func276 (yN [] λb1=>zO (α:=Nat×List UInt8) (λ(i,s)=>[(1,Zp b1 0),(3,.string (mkS s)),(4,YI (i:Int))]) (λ_=>[⟨b1, #[.slice A xs.length cap],234⟩]) (λ(i,s) m=>(i<=xs.length/\s=kF ((yU xs).take i)/\s.length<=i*3000)/\m=xs.length-i) (0,[]) (xs.length-0) [] ⟨⟨Nat.zero_le _,rfl,Nat.zero_le _⟩,rfl⟩ ?_)
 rintro ⟨i,s⟩ m g kk ⟨⟨hil,hs,hsl⟩,hmm⟩ nx hkk
 subst hkk
 by_cases h1:(i:Int)<(xs.length:Int)
 ·have hi:i<xs.length:=by omega
  obtain ⟨b,off,hA,hlt,hcell⟩:=hv.top Om
  obtain ⟨x,hx⟩:∃ x,xs[i]=x:=⟨_,rfl⟩
  have hxm:x∈xs:=hx▸List.getElem_mem hi
  have hrow:∀ w,Below W.heap.size W w->(loadVar 265 ⟨b,off+i*1,none⟩).run Tryz.prog w= .ok (.slice x.A x.l.length x.cap) w:=λw hb=>qZ alC_len (λj u h=>(hb.cell (p:=⟨b,off+j,none⟩) hlt).trans (hcell j u h)) i 0 hi Om _ (by rw [hx];kernel_rfl)
  have hxf:=(few_mem hf).2 x hxm
  have hx6:=hxf.1.2
  refine zB 10 [0] ((i:Int)<(xs.length:Int)) (λ_=> ?_) (λh=>absurd h1 h)
  refine dB 14 (α:=List UInt8) (λp=>[(1,Zp b1 0),(3,.string (mkS p)),(4,YI (i:Int))]) (λ_=>[⟨b1, #[.slice A xs.length cap],234⟩]) (λp=>(if i=0 then [] else kF ((yU xs).take i)++[32,124,124,32])=p/\p.length<=i*3000+4) [] (λnj=>x_now 14 ((0:Int)<(i:Int)) (λh2=>zW 16 [] s [32,124,124,32] (nj (s++[32,124,124,32]) [] ⟨by rw [if_neg Om,←hs],by simp only [List.length_append,List.length_cons,List.length_nil];omega⟩ Kr)) (λh2=>nj s [] ⟨by rw [if_pos Om,hs,show i=0 by omega];rfl,by omega⟩ Kr)) (λp g2 hp=> ?_)
  have hpl:=hp.2
  refine zO (α:=Nat×List UInt8) (λ(k,t)=>[(1,Zp b1 0),(3,.string (mkS t)),(4,YI (i:Int)),(5,YI (k:Int))]) (λ_=>[⟨b1, #[.slice A xs.length cap],234⟩]) (λ(k,t) m=>(k<=x.l.length/\t=p++xF (x.l.take k)/\t.length<=p.length+k*400)/\m=x.l.length-k) (0,p) (x.l.length-0) [] ⟨⟨Nat.zero_le _,by simp [xF,jS],by omega⟩,rfl⟩ ?_
  rintro ⟨k,t⟩ m2 g3 kk2 ⟨⟨hkl,ht,htl⟩,hmk⟩ nxk hkk2
  subst hkk2
  refine zJ 21 [0] hA xs.length cap i 1 hi (zH 22 [] 265 b (off+i*1) (.slice x.A x.l.length x.cap) (λw hO=>hrow w hO.below) (zB 24 [] ((k:Int)<(x.l.length:Int)) (λh3=> ?_) (λh3=>x_i 12 [] ((i+1:Nat):Int) (nx (i+1,t) (xs.length-(i+1)) [] Om ⟨⟨by omega,by rw [ht,List.take_of_length_le (by omega:x.l.length<=k),rgText_step (by rw [gF];exact hi) (rgOf_get hi hx),hp.1],by omega⟩,rfl⟩ Kr Kr))))
  have hk:k<x.l.length:=by omega
  obtain ⟨b2,off2,hA2,hlt2,hcell2⟩:=hv.each x hxm Om
  obtain ⟨c,hc⟩:∃ c,x.l[k]=c:=⟨_,rfl⟩
  have hcm:c∈x.l:=hc▸List.getElem_mem hk
  have hcS:c.short:=hv.short x hxm c hcm
  have hco:∀ w,Below W.heap.size W w->(loadVar 166 ⟨b2,off2+k*7,none⟩).run Tryz.prog w= .ok (coV c) w:=λw hb=>qZ coC_len (λj u h=>(hb.cell (p:=⟨b2,off2+j,none⟩) hlt2).trans (hcell2 j u h)) k 0 hk Om _ (by rw [hc];kernel_rfl)
  have hcl:=co_len (hxf.2 c hcm)
  refine dB 28 (α:=List UInt8) (λq=>[(1,Zp b1 0),(3,.string (mkS q)),(4,YI (i:Int)),(5,YI (k:Int))]) (λ_=>[⟨b1, #[.slice A xs.length cap],234⟩]) (λq=>q++c.print=p++xF (x.l.take (k+1))/\q.length<=t.length+2) [] (λnj=>x_now 28 ((0:Int)<(k:Int)) (λh4=>zW 30 [] t [44,32] (nj (t++[44,32]) [] ⟨by rw [ht,altText_step hk hc,if_neg Om];simp only [List.append_assoc],by simp⟩ Kr)) (λh4=>nj t [] ⟨by rw [ht,altText_step hk hc,if_pos Om,show k=0 by omega];simp [xF,jS],by omega⟩ Kr)) (λq g4 hq=> ?_)
  have hql:=hq.2
  exact zJ 35 [0] hA xs.length cap i 1 hi (zH 36 [] 265 b (off+i*1) (.slice x.A x.l.length x.cap) (λw hO=>hrow w hO.below) (zJ 38 [] hA2 x.l.length x.cap k 7 hk (zH 39 [] 166 b2 (off2+k*7) (coV c) (λw hO=>hco w hO.below) (z8 (k:=137) (args:= #[coV c]) (v:= .string (mkS c.print)) [] (λw _=>rcPrint_any c w hcS) (zW 41 [] q c.print (x_i 26 [] ((k+1:Nat):Int) (nxk (k+1,q++c.print) (x.l.length-(k+1)) [] Om ⟨⟨by omega,hq.1,by rw [List.length_append];omega⟩,rfl⟩ Kr Kr)))))))
 ·exact zB 10 [0] ((i:Int)<(xs.length:Int)) (λh=>absurd h h1) (λ_=>z7 [] (.string (mkS s)) λw hO=>⟨by rw [hs,List.take_of_length_le (by rw [gF];omega)],hO.below⟩)
theorem rsMay_any (A:Option Addr)(cap:Nat)(xs:List Al)(W:World)(hv:RgIn W W.heap.size A xs):YC 277 #[.agg #[.slice A xs.length cap]] W (YR (.bool (rgMay (yU xs))) W):=by
 refine zE Tryz.func277 (yN [] λb1=>z8 (k:=275) (args:= #[.agg #[.slice A xs.length cap]]) (v:= .bool (fewR (yU xs))) [0] (λw hO=>rsfew_any A cap xs w (hv.on hO.below hO.below.size)) ?_)
 cases h1:fewR (yU xs) with
 |false=>exact z7 [] (.bool false) λw hO=>⟨by unfold rgMay;rw [h1];rfl,hO.below⟩
 |true=>exact z8 (k:=276) (args:= #[.agg #[.slice A xs.length cap]]) (v:= .string (mkS (kF (yU xs)))) [0] (λw hO=>rstext_any A cap xs w (hv.on hO.below hO.below.size) h1) (zB 9 [] (((kF (yU xs)).length:Int)<=96) (λh2=>z7 [] (.bool true) λw hO=>⟨by unfold rgMay;rw [h1,decide_eq_true Om];rfl,hO.below⟩) (λh2=>z7 [] (.bool false) λw hO=>⟨by unfold rgMay;rw [h1,decide_eq_false Om];rfl,hO.below⟩))
theorem rsPrint_any (A:Option Addr)(cap:Nat)(xs:List Al)(W:World)(hv:RgIn W W.heap.size A xs):YC 229 #[.agg #[.slice A xs.length cap]] W (YR (.string (mkS (jN (yU xs)))) W):=by
 refine zE Tryz.func229 (yN [] λb1=>z8 (k:=277) (args:= #[.agg #[.slice A xs.length cap]]) (v:= .bool (rgMay (yU xs))) [0] (λw hO=>rsMay_any A cap xs w (hv.on hO.below hO.below.size)) ?_)
 cases h1:rgMay (yU xs) with
 |false=>exact z7 [] (.string (mkS [])) λw hO=>⟨by unfold jN;rw [h1];rfl,hO.below⟩
 |true=>exact z8 (k:=276) (args:= #[.agg #[.slice A xs.length cap]]) (v:= .string (mkS (kF (yU xs)))) [0] (λw hO=>rstext_any A cap xs w (hv.on hO.below hO.below.size) (rgMay.facts h1).1) (z7 [] (.string (mkS (kF (yU xs)))) λw hO=>⟨by unfold jN;rw [h1];rfl,hO.below⟩)
end
section
theorem bareF_len0 {u:List UInt8}(h:u.length=0):yG u=u:=by rw [List.eq_nil_of_length_eq_zero h];rfl
theorem cons_of {u:List UInt8}(h:0<u.length){c:UInt8}(hc:u[0]=c):u=c::u.drop 1:=by
 have:=List.drop_eq_getElem_cons h
 rw [List.drop_zero,hc] at this;exact this
theorem bareF_stop {u:List UInt8}(h:0<u.length){c:UInt8}(hc:u[0]=c)(hn:¬ (c.toNat:Int)=32):yG u=u:=by
 rw [cons_of h hc,yG,if_neg λe:c=32=>hn ((wK (n:=32) (by decide)).2 e)]
theorem bareF_go {u:List UInt8}(h:0<u.length){c:UInt8}(hc:u[0]=c)(hn:(c.toNat:Int)=32):yG (u.drop 1)=yG u:=by
 conv=>rhs;rw [cons_of h hc,yG,if_pos (show c=32 from (wK (n:=32) (by decide)).1 hn)]
theorem snoc_of {u:List UInt8}(h:0<u.length){c:UInt8}(hc:u[u.length-1]'Om=c):u=u.take (u.length-1)++[c]:=by
 have:=List.take_succ_eq_append_getElem (l:=u) (i:=u.length-1) Om
 rw [hc,show u.length-1+1=u.length from by omega,List.take_length] at this;exact this
theorem rev_of {u:List UInt8}(h:0<u.length){c:UInt8}(hc:u[u.length-1]'Om=c):u.reverse=c::(u.take (u.length-1)).reverse:=by
 conv=>lhs;rw [snoc_of h hc]
 rw [List.reverse_append];rfl
theorem rev_stop {u:List UInt8}(h:0<u.length){c:UInt8}(hc:u[u.length-1]'Om=c)(hn:¬ (c.toNat:Int)=32):yG u.reverse=u.reverse:=by
 rw [rev_of h hc,yG,if_neg λe:c=32=>hn ((wK (n:=32) (by decide)).2 e)]
theorem rev_go {u:List UInt8}(h:0<u.length){c:UInt8}(hc:u[u.length-1]'Om=c)(hn:(c.toNat:Int)=32):yG (u.take (u.length-1)).reverse=yG u.reverse:=by
 conv=>rhs;rw [rev_of h hc,yG,if_pos (show c=32 from (wK (n:=32) (by decide)).1 hn)]
theorem bareL_end {s u v:List UInt8}(h1:yG s=u)(h2:yG v.reverse=yG u.reverse)(h3:yG v.reverse=v.reverse):yD s=v:=by
 unfold yD
 rw [h1,←h2,h3,List.reverse_reverse]
structure AlI (s:List UInt8)(i f:Nat)(u:Value)(P:List (List UInt8))(ob:List Blk):Prop where
 fi:f<=i+1
 il:i<=s.length
 fl:f<=s.length
 sl:SlT u P ob
 eq:P++xM ((s.drop f).take (i-f)) (s.drop (max i f))=xM [] s
 pl:2*P.length<=f
theorem AlI.start (s:List UInt8):AlI s 0 0 (.slice none 0 0) [] []:=⟨by omega,by omega,by omega,Sl.nil _ _,by simp,Nat.le_refl _⟩
theorem two_of {s:List UInt8}{i:Nat}(h:i+1<s.length){c d:UInt8}(hc:s[i]'Om=c)(hd:s[i+1]=d):s.drop i=c::d::s.drop (i+2):=by
 rw [List.drop_eq_getElem_cons (show i<s.length by omega),hc,List.drop_eq_getElem_cons h,hd]
theorem AlI.on {s:List UInt8}{i f:Nat}{u:Value}{P:List (List UInt8)}{ob:List Blk}(h:AlI s i f u P ob)(hi:i+1<s.length){c d:UInt8}(hc:s[i]'Om=c)(hd:s[i+1]=d)(hn:¬ ((c.toNat:Int)=124/\(d.toNat:Int)=124/\f<=i)):AlI s (i+1) f u P ob:=by
 have hfi:=h.fi
 refine ⟨by omega,by omega,h.fl,h.sl, ?_,by have:=h.pl;omega⟩
 rw [←h.eq]
 congr 1
 by_cases hf:f<=i
 ·rw [show max (i+1) f=i+1 by omega,show max i f=i by omega,two_of hi hc hd,xM,if_neg λe:c=124/\d=124=>hn ⟨(wK (n:=124) (by decide)).2 e.1,(wK (n:=124) (by decide)).2 e.2,hf⟩]
  congr 1
  ·rw [show i+1-f=(i-f)+1 by omega,List.take_succ_eq_append_getElem (by rw [List.length_drop];omega)]
   congr 1
   rw [List.getElem_drop]
   congr 1
   rw [←hc]
   congr 1
   omega
  ·rw [List.drop_eq_getElem_cons hi,hd]
 ·rw [show i+1-f=0 by omega,show i-f=0 by omega,show max (i+1) f=f by omega,show max i f=f by omega]
theorem AlI.hit {s:List UInt8}{i f:Nat}{u:Value}{P:List (List UInt8)}{ob:List Blk}(h:AlI s i f u P ob)(hi:i+1<s.length){c d:UInt8}(hc:s[i]'Om=c)(hd:s[i+1]=d)(h1:(c.toNat:Int)=124)(h2:(d.toNat:Int)=124)(hf:f<=i){u2:Value}{ob2:List Blk}
  (hu:Sl 9 1 u2 (P.length+1) (jM P++yV ((s.drop f).take (i-f))) ob2):AlI s (i+1) (i+2) u2 (P++[(s.drop f).take (i-f)]) ob2:=by
 refine ⟨by omega,by omega,by omega,hu.to (by simp) (by simp [jM,yV]), ?_,by have:=h.pl;rw [List.length_append];simp;omega⟩
 rw [←h.eq,List.append_assoc]
 congr 1
 rw [show max i f=i by omega,two_of hi hc hd,xM,if_pos ⟨(wK (n:=124) (by decide)).1 h1,(wK (n:=124) (by decide)).1 h2⟩,show i+1-(i+2)=0 by omega,show max (i+1) (i+2)=i+2 by omega]
 rfl
theorem altsL_short {x acc:List UInt8}(h:x.length<=1):xM acc x=[acc++x]:=by
 match x,h with
 | [],_=>simp [xM]
 | [c],_=>rfl
theorem AlI.fin {s:List UInt8}{i f:Nat}{u:Value}{P:List (List UInt8)}{ob:List Blk}(h:AlI s i f u P ob)(hi:¬ i+1<s.length):P++[s.drop f]=xM [] s:=by
 rw [←h.eq,altsL_short (by rw [List.length_drop];omega)]
 congr 2
 by_cases hf:f<=i
 ·rw [show max i f=i by omega]
  conv=>lhs;rw [←List.take_append_drop (i-f) (s.drop f)]
  rw [List.drop_drop,show f+(i-f)=i by omega]
 ·rw [show i-f=0 by omega,show max i f=f by omega];rfl
theorem rsbare_any (s:List UInt8)(W:World)(hs:s.length<=1000000):YC 274 #[.string (mkS s)] W (YR (.string (mkS (yD s))) W):=by
 refine zE Tryz.func274 (x_loopE (α:=List UInt8) (β:=List UInt8) (λu=>[(0,.string (mkS u))]) (λ_=>[]) (λu m=>(yG u=yG s/\u.length<=s.length)/\m=u.length) s s.length (λu=>[(0,.string (mkS u))]) (λ_=>[]) (λu=>yG s=u/\u.length<=s.length) [] ⟨⟨rfl,Nat.le_refl _⟩,rfl⟩ ?_ ?_)
 ·rintro u m g ⟨⟨hu,hul⟩,hmm⟩ nx ne
  refine zB 5 [] ((0:Int)<(u.length:Int)) (λh1=> ?_) (λh1=>ne u [] ⟨by rw [←hu];exact bareF_len0 Om,hul⟩ Kr)
  have hu0:0<u.length:=by omega
  exact bV 8 [] u 0 hu0 u[0] rfl (zB 9 [] ((u[0].toNat:Int)=32) (λh2=>x_slo 12 [] u 1 Om Om (.string (mkS (u.drop 1))) rfl (nx (u.drop 1) (u.drop 1).length [] (by rw [List.length_drop];omega) ⟨⟨by rw [bareF_go hu0 rfl h2];exact hu,by rw [List.length_drop];omega⟩,rfl⟩ Kr Kr)) (λh2=>ne u [] ⟨by rw [←hu];exact bareF_stop hu0 rfl h2,hul⟩ Kr))
 ·rintro u g ⟨hbu,hul⟩
  refine zO (α:=List UInt8) (λv=>[(0,.string (mkS v))]) (λ_=>[]) (λv m=>(yG v.reverse=yG u.reverse/\v.length<=u.length)/\m=v.length) u u.length [] ⟨⟨rfl,Nat.le_refl _⟩,rfl⟩ ?_
  rintro v m g2 kk ⟨⟨hv,hvl⟩,hmm⟩ nx hkk
  subst hkk
  have hE:=λ(h:yG v.reverse=v.reverse) (w:World) (hb:Below W.heap.size W w)=>show Ending.returned (.string (mkS v))= .returned (.string (mkS (yD s)))/\Below W.heap.size W w from ⟨by rw [bareL_end hbu hv h],hb⟩
  refine zB 15 [] ((0:Int)<(v.length:Int)) (λh3=> ?_) (λh3=>z7 [] (.string (mkS v)) λw hO=>hE (by rw [List.eq_nil_of_length_eq_zero (by omega:v.length=0)];rfl) w hO.below)
  have hv0:0<v.length:=by omega
  obtain ⟨cz,hcz⟩:∃ x,v[v.length-1]'Om=x:=⟨_,rfl⟩
  exact dF 20 [] (YI (IntKind.i64.wrap ((v.length:Int) -1))) (YI ((v.length-1:Nat):Int)) (by rw [IntWalk.i64_in _ Om,show (v.length:Int) -1=((v.length-1:Nat):Int) by omega]) (bV 21 [] v (v.length-1) Om cz hcz (zB 22 [] ((cz.toNat:Int)=32) (λh4=>x_i 27 [] ((v.length:Int) -1) (x_shi 28 [] v ((v.length:Int) -1) Om Om (.string (mkS (v.take (v.length-1)))) (by rw [show ((v.length:Int) -1).toNat=v.length-1 by omega]) (nx (v.take (v.length-1)) (v.take (v.length-1)).length [] (by rw [List.length_take];omega) ⟨⟨by rw [rev_go hv0 hcz h4];exact hv,by rw [List.length_take];omega⟩,rfl⟩ Kr Kr))) (λh4=>z7 [] (.string (mkS v)) λw hO=>hE (rev_stop hv0 hcz h4) w hO.below)))
theorem rsalts_any (s:List UInt8)(W:World)(hs:s.length<=1000000):YC 272 #[.string (mkS s)] W λe w'=>∃ v' ob',e= .returned v'/\SlT v' (xM [] s) ob'/\Own [] W w' ob':=by
 refine zE Tryz.func272 (zO (α:=Nat×Nat×Value×List (List UInt8)×List Blk) (λ(i,q,u,_,_)=>[(0,.string (mkS s)),(3,u),(4,YI (q:Int)),(5,YI (i:Int))]) (λ(_,_,_,_,ob)=>ob) (λ(i,q,u,P,ob) m=>AlI s i q u P ob/\m=s.length-i) (0,0,.slice none 0 0,[],[]) (s.length-0) [] ⟨AlI.start s,rfl⟩ ?_)
 rintro ⟨i,q,u,P,ob⟩ m g kk ⟨hrel,hmm⟩ nx hkk
 subst hkk
 have hfi:=hrel.fi
 have hil:=hrel.il
 have hfl:=hrel.fl
 have hpl:=hrel.pl
 by_cases h1:((i+1:Nat):Int)<(s.length:Int)
 ·have hi:i+1<s.length:=by omega
  obtain ⟨c,hc⟩:∃ x,s[i]'Om=x:=⟨_,rfl⟩
  obtain ⟨d,hd⟩:∃ x,s[i+1]=x:=⟨_,rfl⟩
  refine x_i 7 [] ((i+1:Nat):Int) (zB 10 [] (((i+1:Nat):Int)<(s.length:Int)) (λ_=>bV 15 [] s i Om c hc (zB 16 [] ((c.toNat:Int)=124) (λh2=>x_i 20 [] ((i+1:Nat):Int) (bV 21 [] s (i+1) hi d hd (zB 22 [] ((d.toNat:Int)=124) (λh3=>zB 27 [] ((q:Int)<=(i:Int)) (λh4=> ?_) (λh4=>x_i 12 [] ((i+1:Nat):Int) (nx (i+1,q,u,P,ob) (s.length-(i+1)) [] Om ⟨hrel.on hi hc hd Om,rfl⟩ Kr Kr))) (λh3=>x_i 12 [] ((i+1:Nat):Int) (nx (i+1,q,u,P,ob) (s.length-(i+1)) [] Om ⟨hrel.on hi hc hd Om,rfl⟩ Kr Kr))))) (λh2=>x_i 12 [] ((i+1:Nat):Int) (nx (i+1,q,u,P,ob) (s.length-(i+1)) [] Om ⟨hrel.on hi hc hd Om,rfl⟩ Kr Kr)))) (λh=>absurd h1 h))
  exact x_smid 33 [] s (q:Int) (i:Int) Om (.string (mkS ((s.drop q).take (i-q)))) rfl (qO [] 1 9 #[.string (mkS ((s.drop q).take (i-q)))] λb1=>bP (m:=1) (cp:=1) [] [⟨b1, #[.string (mkS ((s.drop q).take (i-q)))],9⟩] ob [] 0 (⟨b1, #[.string (mkS ((s.drop q).take (i-q)))],9⟩::ob) (λw hO=>hO.cast (by simp)) hrel.sl Om λu2 ob2 hu2=>x_i 37 [] ((i+2:Nat):Int) (x_i 12 [] ((i+1:Nat):Int) (yT [] ob2 (λw hO=>(hO.past 1 (ob2++[])).cast (by simp)) (nx (i+1,i+2,u2,P++[(s.drop q).take (i-q)],ob2) (s.length-(i+1)) [] Om ⟨hrel.hit hi hc hd h2 h3 Om hu2,rfl⟩ Kr Kr))))
 ·exact x_i 7 [] ((i+1:Nat):Int) (zB 10 [] (((i+1:Nat):Int)<(s.length:Int)) (λh=>absurd h h1) (λ_=>x_slo 41 [] s (q:Int) Om Om (.string (mkS (s.drop q))) rfl (qO [] 1 9 #[.string (mkS (s.drop q))] λb1=>bP (m:=1) (cp:=1) [] [⟨b1, #[.string (mkS (s.drop q))],9⟩] ob [] 0 (⟨b1, #[.string (mkS (s.drop q))],9⟩::ob) (λw hO=>hO.cast (by simp)) hrel.sl Om λu2 ob2 hu2=>z7 [] u2 λw hO=>⟨u2,ob2,rfl,by rw [←hrel.fin Om];exact (show Sl 9 1 u2 (P.length+1) (jM P++yV (s.drop q)) ob2 from hu2).to (by simp) (by simp [jM,yV]),(hO.past 1 (ob2++[])).cast (by simp)⟩)))
end
section
theorem rsParse_any (s:List UInt8)(W:World)(hs:s.length<=1000000):YC 228 #[.string (mkS s)] W λe w'=>∃ v' ob',e= .returned (.tuple #[v',YI (bK s)])/\RgO v' ((kM s).getD []) ob'/\Own [] W w' ob':=by
 have hZ:=λ{z:Int} (h:bK s=z/\kM s=none) (w:World) (hb:Own [] W w [])=>show ∃ v' ob',Ending.returned (.tuple #[.agg #[.slice none 0 0],YI z])= .returned (.tuple #[v',YI (bK s)])/\RgO v' ((kM s).getD []) ob'/\Own [] W w ob' from ⟨_,[],by rw [h.1],by rw [h.2];exact RgO.nil,hb⟩
 refine zE Tryz.func228 (zL [] λb1=>zB 14 [] ((96:Int)<(s.length:Int)) (λh1=>yC [0] 0 (.agg #[.slice none 0 0]) (YI 3) λw hO=>hZ (errG_long Om) w (mP hO)) (λh1=>zL [] λb2=>kP (R:=λv' ob'=>SlT v' (xM [] s) ob') [] (λw hO=>rsalts_any s w hs) ?_))
 intro lv ol hol
 have hs6:s.length<=96:=by omega
 obtain ⟨l,hll⟩:∃ l,l=xM [] s:=⟨_,rfl⟩
 rw [←hll] at hol
 have hln:l.length<=97:=by rw [hll];have:=pT s [];omega
 have hlm:∀ x∈l,x.length<=96:=λx hx=>by have:=tY s [] x (hll▸hx);simp at this;omega
 obtain ⟨g,cur,lcap,rfl,rfl,hcur⟩:=SlT.blk hol (by rw [hll];exact altsL_ne s [])
 refine zO (α:=Nat×Option Addr×Nat×List Al×List Blk×List Blk) (λ(i,_,_,_,_,_)=>[(2,Zp b1 0),(4,Zp b2 0),(5,.slice (some ⟨g,0,none⟩) l.length lcap),(6,YI (i:Int))]) (λ(_,A,cap,xs,o1,o2)=>⟨b2, #[.slice A xs.length cap],234⟩::⟨b1, #[.slice none 0 0],234⟩::⟨g,cur,9⟩::(o1++o2)) (λ(i,A,cap,xs,o1,o2) m=>(i<=l.length/\RgA (.slice A xs.length cap) xs o1 o2/\fD parseA (l.take i)=some (yU xs))/\m=l.length-i) (0,none,0,[],[],[]) (l.length-0) [] ⟨⟨Nat.zero_le _,RgA.nil,rfl⟩,rfl⟩ ?_
 rintro ⟨i,A,cap,xs,o1,o2⟩ m gg kk ⟨⟨hil,hra,hal⟩,hmm⟩ nx hkk
 subst hkk
 by_cases h2:(i:Int)<(l.length:Int)
 ·have hi:i<l.length:=by omega
  obtain ⟨y,hy⟩:∃ y,l[i]=y:=⟨_,rfl⟩
  have hyl:y.length<=96:=hlm y (hy▸List.getElem_mem hi)
  have hxl:xs.length<=97:=by have q:=fC hal;rw [List.length_take,gF] at q;omega
  refine zB 21 [] ((i:Int)<(l.length:Int)) (λ_=>vY 26 [] (A:=some ⟨g,0,none⟩) rfl l.length lcap (i:Int) 1 (i*1) Om (vX 27 [] 2 cur (i*1) 9 (.string (mkS y)) (nK zX hcur i 0 Om Om _ (by rw [hy];kernel_rfl)) (kP (R:=λv' ob'=>SlT v' (zD 44 [] y) ob') [] (λw hO=>rsplit44_own y w Om) ?_))) (λh=>absurd h2 h)
  intro mv om hom
  obtain ⟨m',hml⟩:∃ m',m'=zD 44 [] y:=⟨_,rfl⟩
  rw [←hml] at hom
  have hmn:m'.length<=97:=by rw [hml];exact (pI hyl).1
  have hmm':∀ x∈m',x.length<=96:=λx hx=>(pI hyl).2 x (hml▸hx)
  obtain ⟨g2,cur2,mcap,rfl,rfl,hcur2⟩:=SlT.blk hom (by rw [hml];exact qR 44 y [])
  refine yT [] (⟨g2,cur2,9⟩::⟨b2, #[.slice A xs.length cap],234⟩::⟨b1, #[.slice none 0 0],234⟩::⟨g,cur,9⟩::(o1++o2)) (λw hO=>(hO.past 0 ((⟨b2, #[.slice A xs.length cap],234⟩::⟨b1, #[.slice none 0 0],234⟩::⟨g,cur,9⟩::(o1++o2))++[⟨g2,cur2,9⟩])).perm List.perm_append_comm) (zO (α:=Nat×Option Addr×Nat×List Co×List Blk) (λ(k,B,cb,a,_)=>[(2,Zp b1 0),(4,Zp b2 0),(5,.slice (some ⟨g,0,none⟩) l.length lcap),(6,YI (i:Int)),(7,.slice B a.length cb),(8,.slice (some ⟨g2,0,none⟩) m'.length mcap),(9,YI (k:Int))]) (λ(_,_,_,_,oa)=>⟨g2,cur2,9⟩::⟨b2, #[.slice A xs.length cap],234⟩::⟨b1, #[.slice none 0 0],234⟩::⟨g,cur,9⟩::(oa++(o1++o2))) (λ(k,B,cb,a,oa) m=>(k<=m'.length/\SlCo (.slice B a.length cb) a oa/\fD parseP (m'.take k)=some a)/\m=m'.length-k) (0,none,0,[],[]) (m'.length-0) [] ⟨⟨Nat.zero_le _,Sl.nil _ _,rfl⟩,rfl⟩ ?_)
  rintro ⟨k,B,cb,a,oa⟩ m2 g3 kk2 ⟨⟨hkl,hsl,hak⟩,hmk⟩ nxk hkk2
  subst hkk2
  have hal2:a.length<=97:=by have q:=fC hak;rw [List.length_take] at q;omega
  by_cases h3:(k:Int)<(m'.length:Int)
  ·have hk:k<m'.length:=by omega
   obtain ⟨z,hz⟩:∃ z,m'[k]=z:=⟨_,rfl⟩
   have hzl:z.length<=96:=hmm' z (hz▸List.getElem_mem hk)
   have hbz:=bareL_len z
   refine zB 32 [] ((k:Int)<(m'.length:Int)) (λ_=>vY 38 [] (A:=some ⟨g2,0,none⟩) rfl m'.length mcap (k:Int) 1 (k*1) Om (vX 39 [] 0 cur2 (k*1) 9 (.string (mkS z)) (nK zX hcur2 k 0 Om Om _ (by rw [hz];kernel_rfl)) (z8 (k:=274) (args:= #[.string (mkS z)]) (v:= .string (mkS (yD z))) [] (λw _=>rsbare_any z w Om) (z8 (k:=273) (args:= #[.string (mkS (yD z))]) (v:= .tuple #[coV (pcV (yD z)),YI (pcE (yD z))]) [] (λw _=>rcParse_any (yD z) w Om) (zL [] λb3=>jW 45 [0] (pcE (yD z)=0) (λh4=> ?_) (λh4=>yC [3] 3 (.agg #[.slice none 0 0]) (YI 6) λw hO=>hZ (errG_none hs6 (all_fails hll hi hy hml hk hz h4)) w (mP hO))))))) (λh=>absurd h3 h)
   refine qO [0] 1 166 (coV (pcV (yD z))).cells λb4=>bP (m:=1) (cp:=1) [] [⟨b4,(coV (pcV (yD z))).cells,166⟩,⟨b3,(coV (pcV (yD z))).cells,166⟩,⟨g2,cur2,9⟩,⟨b2, #[.slice A xs.length cap],234⟩,⟨b1, #[.slice none 0 0],234⟩,⟨g,cur,9⟩] oa (o1++o2) 0 (⟨b4,(coV (pcV (yD z))).cells,166⟩::⟨b3,(coV (pcV (yD z))).cells,166⟩::⟨g2,cur2,9⟩::⟨b2, #[.slice A xs.length cap],234⟩::⟨b1, #[.slice none 0 0],234⟩::⟨g,cur,9⟩::(oa++(o1++o2))) (λw hO=>hO.cast (by simp)) hsl Om λu2 ob2 hu2=> ?_
   have hu3:SlCo u2 (a++[pcV (yD z)]) ob2:=(show Sl 166 7 u2 (a.length+1) (a.flatMap coC++coC (pcV (yD z))) ob2 from hu2).to (by simp) (by simp)
   obtain ⟨B2,cb2,rfl⟩:=Sl.form hu3
   exact x_i 34 [] ((k+1:Nat):Int) (yT [] (⟨g2,cur2,9⟩::⟨b2, #[.slice A xs.length cap],234⟩::⟨b1, #[.slice none 0 0],234⟩::⟨g,cur,9⟩::(ob2++(o1++o2))) (λw hO=>hO.past 2 _) (nxk (k+1,B2,cb2,a++[pcV (yD z)],ob2) (m'.length-(k+1)) [] Om ⟨⟨by omega,hu3,allO_next hk hz hak (pc_ok h4)⟩,rfl⟩ Kr Kr))
  ·refine zB 32 [] ((k:Int)<(m'.length:Int)) (λh=>absurd h h3) (λ_=>qO [1] 1 265 #[.slice B a.length cb] λb3=>bP (m:=1) (cp:=1) [] ([⟨b3, #[.slice B a.length cb],265⟩,⟨g2,cur2,9⟩,⟨b2, #[.slice A xs.length cap],234⟩,⟨b1, #[.slice none 0 0],234⟩,⟨g,cur,9⟩]++oa) o1 o2 0 (⟨b3, #[.slice B a.length cb],265⟩::⟨g2,cur2,9⟩::⟨b2, #[.slice A xs.length cap],234⟩::⟨b1, #[.slice none 0 0],234⟩::⟨g,cur,9⟩::(oa++(o1++o2))) (λw hO=>hO.cast (by simp)) hra.top Om λu2 ob2 hu2=> ?_)
   have hra2:RgA u2 (xs++[(⟨B,a,cb⟩:Al)]) ob2 (oa++o2):=hra.add hu2 hsl
   obtain ⟨A2,cap2,rfl⟩:=Sl.form hra2.top
   exact x_i 23 [2] ((i+1:Nat):Int) (yT [] (⟨b2, #[.slice A2 (xs++[(⟨B,a,cb⟩:Al)]).length cap2],234⟩::⟨b1, #[.slice none 0 0],234⟩::⟨g,cur,9⟩::(ob2++(oa++o2))) (λw hO=>own_turn (hO.past 0 (([⟨b3, #[.slice B a.length cb],265⟩,⟨g2,cur2,9⟩,⟨b2, #[.slice A2 (xs++[(⟨B,a,cb⟩:Al)]).length cap2],234⟩,⟨b1, #[.slice none 0 0],234⟩,⟨g,cur,9⟩]++oa)++ob2++o2))) (nx (i+1,A2,cap2,xs++[(⟨B,a,cb⟩:Al)],ob2,oa++o2) (l.length-(i+1)) [] Om ⟨⟨by omega,hra2,by rw [show yU (xs++[(⟨B,a,cb⟩:Al)])=yU xs++[a] from by simp [yU]];exact allO_next hi hy hal (by have q:=hak;rw [List.take_of_length_le Om,hml] at q;exact q)⟩,rfl⟩ Kr Kr))
 ·have hall:qT s=some (yU xs):=by have q:=hal;rw [List.take_of_length_le Om,hll] at q;exact q
  have hfine:FineR (yU xs):=fine_part hs6 (λx hx=>hll▸hx) hln (by rw [hll];exact hall)
  have hin:∀ w,Own [] W w (o1++o2)->RgIn w w.heap.size A xs:=λw hO=>hra.inn rfl hO (λx hx=>List.mem_append_left _ hx) (λx hx=>List.mem_append_right _ hx) hfine
  refine zB 21 [] ((i:Int)<(l.length:Int)) (λh=>absurd h h2) (λ_=>z8 (k:=275) (args:= #[.agg #[.slice A xs.length cap]]) (v:= .bool (fewR (yU xs))) [0] (λw hO=>rsfew_any A cap xs w (hin w (hO.past 3 (o1++o2)))) ?_)
  cases h5:fewR (yU xs) with
  |false=>exact yC [1] 1 (.agg #[.slice none 0 0]) (.int .i64 6) λw hO=>hZ (errG_few hs6 hall h5) w (mP hO)
  |true=>exact z8 (k:=276) (args:= #[.agg #[.slice A xs.length cap]]) (v:= .string (mkS (kF (yU xs)))) [0] (λw hO=>rstext_any A cap xs w (hin w (hO.past 3 (o1++o2))) h5) (zB 64 [] ((96:Int)<((kF (yU xs)).length:Int)) (λh6=>yC [1] 1 (.agg #[.slice none 0 0]) (.int .i64 3) λw hO=>hZ (errG_big hs6 hall h5 Om) w (mP hO)) (λh6=>yC [0,1] 1 (.agg #[.slice A xs.length cap]) (.int .i64 0) λw hO=>⟨.agg #[.slice A xs.length cap],o1++o2,by rw [(errG_fine hs6 hall h5 Om).1],by rw [(errG_fine hs6 hall h5 Om).2];exact ⟨xs,_,o1,o2,rfl,rfl,rfl,hra⟩,hO.past 3 (o1++o2)⟩))
end
section
end
section
def turnL (l:List Sp)(k:Nat):List Sp:=((l.take k).map turnS).filter (·.may)
end
section
section
variable {M:List Nat}{W w:World}
end
theorem fine_get {s:List UInt8}(h:bK s=0):FineR ((kM s).getD []):=by
 cases hp:kM s with
 |none=>rcases err_none hp with e|e<;>rw [e] at h<;>exact absurd h (by decide)
 |some r=>exact fine_few (rgMay.facts (err_some hp).2.1).1
theorem rsParse_tup (s:List UInt8)(W:World)(hs:s.length<=1000000):YC 228 #[.string (mkS s)] W λe w'=>∃ v' ob',e= .returned v'/\(∃ rv,v'=Value.tuple #[rv,YI (bK s)]/\RgO rv ((kM s).getD []) ob')/\Own [] W w' ob':=
 (rsParse_any s W hs).mono λe w' ⟨v',ob',k1,k2,k3⟩=>⟨_,ob',k1,⟨v',rfl,k2⟩,k3⟩
end
section
theorem fewR_text {r:List (List Co)}(h:r≠[]){t:List UInt8}(ht:fM r=t):(t=[]->fewR r=false)/\(¬ t=[]->fewR r=true/\kF r=t):=by
 refine ⟨λq=>textR_nil.1 (ht.trans q),λq=> ?_⟩
 cases hf:fewR r with
 |false=>exact absurd (ht.symm.trans (textR_nil.2 hf)) q
 |true=>refine ⟨rfl, ?_⟩;unfold fM at ht;rw [hf] at ht;exact ht
theorem all_ne {s:List UInt8}{r:List (List Co)}(h:qT s=some r):r≠[]:=λe=>by
 have h2:=fC h
 rw [e] at h2
 exact altsL_ne s [] (List.eq_nil_of_length_eq_zero h2.symm)
theorem gParse_any (s:List UInt8)(W:World)(hs:s.length<=1000000)(ht:HasLib W):YC 214 #[.string (mkS s)] W λe w'=>∃ v' ob',e= .returned (.tuple #[v',YI (bK s)])/\RgO v' ((kM s).getD []) ob'/\Own [] W w' ob':=by
 have hsz:=zQ s
 refine Z2 (n:=62) Tryz.func214 rfl (ZO (Za (.agg #[.slice none 0 0]) (λb1=>Zv (YI 0) (ZN (yP (ZO (Zv (.string (mkS s)) (Zv (YI ((mkS s).size)) ?_))))))))
 by_cases h1:(96:Int)<(mkS s).size
 ·refine Zg h1 (ZY (ZO (Zv (.agg #[.slice none 0 0]) (Zs 0 ⟨b1, #[.slice none 0 0],234⟩ (off:=0) (.agg #[.slice none 0 0]) (Zv (YI 3) (ZN (kG ?_)))))))
  exact yE (ZD 0 ⟨b1, #[.slice none 0 0],234⟩ (off:=0) (.agg #[.slice none 0 0]) (YI 3) Tryz.results214 (λw hO=>⟨.agg #[.slice none 0 0],[],by rw [(errG_long (s:=s) Om).1],by rw [(errG_long (s:=s) Om).2];exact RgO.nil,mP hO⟩))
 have hs6:s.length<=96:=by omega
 refine Zh h1 (ZX (ZB (ZO (Za (.agg #[.slice none 0 0]) (λb2=>ZN (yP ?_))))))
 refine ZO (Zv (.string (mkS s)) (Zr (k:=239) (args:= #[.string (mkS s),.string ⟨#[124,124]⟩]) (λv' L'=>∃ ob',L'=ob'++([⟨b2, #[.slice none 0 0],234⟩,⟨b1, #[.slice none 0 0],234⟩])/\SlT v' (xM [] s) ob') (λw hO=>(split_bars s w hs (ht.on hO.below)).mono λe w' ⟨v',ob',k1,k2,k3⟩=>⟨v',_,k1,⟨ob',rfl,k2⟩,Own.joinN hO k3⟩) (λlv L2 hv2=> ?_)))
 obtain ⟨ol,rfl,hol⟩:=hv2
 obtain ⟨l,hll⟩:∃ l,l=xM [] s:=⟨_,rfl⟩
 rw [←hll] at hol
 have hln:l.length<=97:=by rw [hll];have:=pT s [];omega
 have hlm:∀ x∈l,x.length<=96:=λx hx=>by have:=tY s [] x (hll▸hx);simp at this;omega
 obtain ⟨g,cur,lcap,rfl,rfl,hcur⟩:=SlT.blk hol (by rw [hll];exact altsL_ne s [])
 refine Zv (YI (l.length:Int)) (Zv (YI 0) (ZN (jB (ok_cast (L':=⟨g,cur,9⟩::⟨b2, #[.slice none 0 0],234⟩::⟨b1, #[.slice none 0 0],234⟩::([]++[])) rfl (ok_loop (λL f m=>∃ (i:Nat) (A:Option Addr) (cap:Nat) (xs:List Al) (o1:List Blk) (o2:List Blk) (j:Nat->Value),(i<=l.length/\RgA (.slice A xs.length cap) xs o1 o2/\fD parseA (l.take i)=some (yU xs))/\L=⟨g,cur,9⟩::⟨b2, #[.slice A xs.length cap],234⟩::⟨b1, #[.slice none 0 0],234⟩::(o1++o2)/\f=bX j [(2,Zp b1 0),(4,Zp b2 0),(18,.slice (some ⟨g,0,none⟩) l.length lcap),(19,YI (l.length:Int)),(20,YI (i:Int))]/\m=l.length-i) (l.length-0) ⟨0,none,0,[],[],[],_,⟨Nat.zero_le _,RgA.nil,rfl⟩,rfl,ZU,rfl⟩ ?_)))))
 rintro L f m ⟨i,A,cap,xs,o1,o2,j,hrel,rfl,rfl,rfl⟩
 have hrel0:=hrel;have hra:=hrel.2.1;have hil:=hrel.1
 refine yP (yS ?_)
 by_cases h2:(i:Int)<(l.length:Int)
 ·have hi:i<l.length:=by omega
  obtain ⟨y,hy⟩:∃ y,l[i]=y:=⟨_,rfl⟩
  have hyl:y.length<=96:=hlm y (hy▸List.getElem_mem hi)
  refine Zg h2 (ZN (yP (Zt (ZB (yP (jB (ZO (kC (Zp g (i*1)) Kr (ZV (b:=g) (off:=0) (n:=l.length) (c:=lcap) (k:= .i64) (j:=(i:Int)) (e:=9) (sz:=1)) ?_))))))))
  refine s_load 0 ⟨g,cur,9⟩ (off:=i*1) (.string (mkS y)) Kr rfl Kr Kr (nK zX hcur i 0 Om Om _ (by rw [hy];kernel_rfl)) (Zv (.string (mkS y)) (ZR (Zv (.slice none 0 0) (ZN (yP (yP (yS ?_)))))))
  refine Zv (.string (mkS y)) (Zr (k:=239) (args:= #[.string (mkS y),.string ⟨#[44]⟩]) (λv' L'=>∃ ob',L'=ob'++(⟨g,cur,9⟩::(⟨b2, #[.slice A xs.length cap],234⟩::(⟨b1, #[.slice none 0 0],234⟩::((o1++o2)))))/\SlT v' (zD 44 [] y) ob') (λw hO=>(split_comma y w Om (ht.on hO.below)).mono λe w' ⟨v',ob',k1,k2,k3⟩=>⟨v',_,k1,⟨ob',rfl,k2⟩,Own.joinN hO k3⟩) (λmv L2 hv2=> ?_))
  obtain ⟨om,rfl,hom⟩:=hv2
  obtain ⟨m',hml⟩:∃ m',m'=zD 44 [] y:=⟨_,rfl⟩
  rw [←hml] at hom
  have hmn:m'.length<=97:=by rw [hml];exact (pI hyl).1
  have hmm:∀ x∈m',x.length<=96:=λx hx=>(pI hyl).2 x (hml▸hx)
  obtain ⟨g2,cur2,mcap,rfl,rfl,hcur2⟩:=SlT.blk hom (by rw [hml];exact qR 44 y [])
  refine Zv (YI (m'.length:Int)) (Zv (YI 0) (ZN (jB (ok_cast (L':=⟨g2,cur2,9⟩::⟨g,cur,9⟩::⟨b2, #[.slice A xs.length cap],234⟩::⟨b1, #[.slice none 0 0],234⟩::([]++(o1++o2))) rfl (ok_loop (λL f m=>∃ (k:Nat) (B:Option Addr) (cb:Nat) (a:List Co) (oa:List Blk) (j:Nat->Value),(k<=m'.length/\SlCo (.slice B a.length cb) a oa/\fD parseP (m'.take k)=some a)/\L=⟨g2,cur2,9⟩::⟨g,cur,9⟩::⟨b2, #[.slice A xs.length cap],234⟩::⟨b1, #[.slice none 0 0],234⟩::(oa++(o1++o2))/\f=bX j [(2,Zp b1 0),(4,Zp b2 0),(18,.slice (some ⟨g,0,none⟩) l.length lcap),(19,YI (l.length:Int)),(20,YI (i:Int)),(7,.slice B a.length cb),(25,.slice (some ⟨g2,0,none⟩) m'.length mcap),(26,YI (m'.length:Int)),(27,YI (k:Int))]/\m=m'.length-k) (m'.length-0) ⟨0,none,0,[],[],_,⟨Nat.zero_le _,Sl.nil _ _,rfl⟩,rfl,ZU,rfl⟩ ?_)))))
  rintro L f m ⟨k,B,cb,a,oa,j,hrel,rfl,rfl,rfl⟩
  have hkl:=hrel.1
  refine yP (yS ?_)
  by_cases h3:(k:Int)<(m'.length:Int)
  ·have hk:k<m'.length:=by omega
   obtain ⟨z,hz⟩:∃ z,m'[k]=z:=⟨_,rfl⟩
   have hzl:z.length<=96:=hmm z (hz▸List.getElem_mem hk)
   have hbz:=bareL_len z
   refine Zg h3 (ZN (yP (Zt (ZB (yP (jB (ZO (kC (Zp g2 (k*1)) Kr (ZV (b:=g2) (off:=0) (n:=m'.length) (c:=mcap) (k:= .i64) (j:=(k:Int)) (e:=9) (sz:=1)) ?_))))))))
   refine s_load 0 ⟨g2,cur2,9⟩ (off:=k*1) (.string (mkS z)) Kr rfl Kr Kr (nK zX hcur2 k 0 Om Om _ (by rw [hz];kernel_rfl)) (Zv (.string (mkS z)) (ZR (Zv (.string (mkS z)) (Zc (k:=255) (args:= #[.string (mkS z),.string ⟨#[32]⟩]) (.string (mkS (yD z))) (λw _=>trim_any z w Om) (Zc (k:=254) (args:= #[.string (mkS (yD z))]) (.tuple #[coV (pcV (yD z)),YI (pcE (yD z))]) (λw hO=>cParse_any (yD z) w Om (ht.tab.on hO.below)) (Zv (.tuple #[coV (pcV (yD z)),YI (pcE (yD z))]) (Zv (coV (pcV (yD z))) (Zv (YI (pcE (yD z))) ?_))))))))
   refine Za (.agg #[YI 0,YI 0,YI 0,YI 0,YI 0,.string ⟨#[]⟩,.string ⟨#[]⟩]) (λb3=>Zs 0 ⟨b3, #[YI 0,YI 0,YI 0,YI 0,YI 0,.string ⟨#[]⟩,.string ⟨#[]⟩],166⟩ (off:=0) (coV (pcV (yD z))) (Zv (YI (pcE (yD z))) (ZN (yP (ZO (Zv (YI (pcE (yD z))) ?_))))))
   by_cases h4:((pcE (yD z)):Int)=0
   ·refine Zn (p:=((pcE (yD z)):Int)=0) true (decide_eq_true (h4)) (ZX (ZB (yS (Zv (.slice B a.length cb) (Zl 0 ⟨b3,(coV (pcV (yD z))).cells,166⟩ (off:=0) (coV (pcV (yD z))) (s_lit 166 #[YI ((pcV (yD z)).op),YI ((pcV (yD z)).parts),YI ((pcV (yD z)).v.maj),YI ((pcV (yD z)).v.min),YI ((pcV (yD z)).v.pat),.string (mkS (pcV (yD z)).v.pre),.string (mkS (pcV (yD z)).v.build)] Kr rfl (λ_=>Kr) (λb4=> ?_)))))))
    obtain ⟨i0,z0,e1,e2,e3,e4,e5⟩:=co_info
    have hal:a.length<=97:=by have q:=fC hrel.2.2;rw [List.length_take] at q;omega
    refine fH (L':=[⟨b4, #[YI ((pcV (yD z)).op),YI ((pcV (yD z)).parts),YI ((pcV (yD z)).v.maj),YI ((pcV (yD z)).v.min),YI ((pcV (yD z)).v.pat),.string (mkS (pcV (yD z)).v.pre),.string (mkS (pcV (yD z)).v.build)],166⟩,⟨b3,(coV (pcV (yD z))).cells,166⟩,⟨g2,cur2,9⟩,⟨g,cur,9⟩,⟨b2, #[.slice A xs.length cap],234⟩,⟨b1, #[.slice none 0 0],234⟩]++oa++(o1++o2)) (by rw [List.append_assoc];kernel_rfl) (s_append (sz:=7) Kr rfl Tryz.underlying265 e1 e2 e3 e4 Kr hrel.2.1 (a:=⟨b4,0,none⟩) (m:=1) (c:=1) (news:=coC (pcV (yD z))) Kr rfl (λw hO j u hj=> ?_) (co_cells _) (by unfold maxLen;omega) (by rw [e5];omega) (λu2 ob2 hu2=> ?_))
    ·rw [xG,cell_of_row w b4 (0+j) (coC (pcV (yD z))).toArray 166 _ (hO.held ⟨b4,(coC (pcV (yD z))).toArray,166⟩ (List.mem_append_left _ (List.mem_append_left _ (List.mem_cons_self ..))))];simpa using hj
    have hu3:SlCo u2 (a++[(pcV (yD z))]) ob2:=hu2.to (by simp) (by simp)
    obtain ⟨B2,cb2,rfl⟩:=Sl.form hu3
    exact m4 (L':=⟨g2,cur2,9⟩::(⟨g,cur,9⟩::(⟨b2, #[.slice A xs.length cap],234⟩::(⟨b1, #[.slice none 0 0],234⟩::(ob2++((o1++o2))))))) (λw hO=>own_two (by simpa using hO)) (Zv (.slice B2 ((a++[(pcV (yD z))]).length) cb2) (dN (fV (g7 (yS (Zu (k:= .i64) (((k+1:Nat):Int)) (IntWalk.i64_in _ Om) (Zv (YI ((k+1:Nat):Int)) (dN (fU (m':=m'.length-(k+1)) Om ⟨k+1,B2,cb2,_,ob2,_,⟨by omega,hu3,allO_next hk hz hrel.2.2 (pc_ok (by assumption))⟩,rfl,ZU,rfl⟩)))))))))
   refine Zn (p:=((pcE (yD z)):Int)=0) false (decide_eq_false (h4)) (ZY (ZO (Zv (.agg #[.slice none 0 0]) (Zs 4 ⟨b1, #[.slice none 0 0],234⟩ (off:=0) (.agg #[.slice none 0 0]) (Zv (YI 6) (ZN (kG ?_)))))))
   refine yE (qJ (yE (dE (qJ (yE (qJ (yE (dE (qJ (yE (ZD 4 ⟨b1, #[.slice none 0 0],234⟩ (off:=0) (.agg #[.slice none 0 0]) (YI 6) Tryz.results214 ?_)))))))))))
   exact λw hO=>⟨.agg #[.slice none 0 0],[],by rw [(errG_none hs6 (all_fails hll hi hy hml hk hz (by assumption))).1],by rw [(errG_none hs6 (all_fails hll hi hy hml hk hz (by assumption))).2];exact RgO.nil,mP hO⟩
  refine Zh h3 (ZN (yP (Zf (ok_exit (qC (qX (qY (g7 (yS (Zv (Zp b2 0) ?_))))))))))
  refine Zl 2 ⟨b2, #[.slice A xs.length cap],234⟩ (off:=0) (.slice A xs.length cap) (Zv (.slice B a.length cb) (s_lit 265 #[.slice B a.length cb] Kr rfl (λ_=>Kr) (λb3=> ?_)))
  obtain ⟨i0,z0,e1,e2,e3,e4,e5⟩:=al_info
  have hal:xs.length<=97:=by have q:=fC hrel0.2.2;rw [List.length_take,gF] at q;omega
  refine fH (L':=([⟨b3, #[.slice B a.length cb],265⟩,⟨g2,cur2,9⟩,⟨g,cur,9⟩,⟨b2, #[.slice A xs.length cap],234⟩,⟨b1, #[.slice none 0 0],234⟩]++oa)++o1++o2) (by rw [List.append_assoc,List.append_assoc];kernel_rfl) (s_append (sz:=1) Kr rfl Tryz.underlying232 e1 e2 e3 e4 Kr hra.top (a:=⟨b3,0,none⟩) (m:=1) (c:=1) (news:=alC (Al.mk B a cb)) Kr rfl (λw hO j u hj=> ?_) (al_cells _) (by unfold maxLen;omega) (by rw [e5];omega) (λu2 ob2 hu2=> ?_))
  ·rw [xG,cell_of_row w b3 (0+j) (alC (Al.mk B a cb)).toArray 265 _ (hO.held ⟨b3,(alC (Al.mk B a cb)).toArray,265⟩ (by simp [alC]))];simpa using hj
  have hra2:=hra.add hu2 hrel.2.1
  obtain ⟨A2,cap2,rfl⟩:=Sl.form hra2.top
  exact m4 (L':=⟨g,cur,9⟩::(⟨b2, #[.slice A xs.length cap],234⟩::(⟨b1, #[.slice none 0 0],234⟩::((ob2++(oa++o2)))))) (λw hO=>own_turn hO) (Zv (Zp b2 0) (Zs 1 ⟨b2, #[.slice A xs.length cap],234⟩ (off:=0) (.slice A2 ((xs++[(Al.mk B a cb)]).length) cap2) (dN (fV (g7 (yS (Zu (k:= .i64) (((i+1:Nat):Int)) (IntWalk.i64_in _ Om) (Zv (YI ((i+1:Nat):Int)) (dN (fU (m':=l.length-(i+1)) Om ⟨i+1,A2,cap2,_,ob2,(oa++o2),_,⟨by omega,hra2,by rw [show yU (xs++[Al.mk B a cb])=yU xs++[a] from by simp [yU]];exact allO_next hi hy hrel0.2.2 (by have q:=hrel.2.2;rw [List.take_of_length_le Om,hml] at q;exact q)⟩,rfl,ZU,rfl⟩))))))))))
 have hall:qT s=some (yU xs):=by have q:=hrel0.2.2;rw [List.take_of_length_le Om,hll] at q;exact q
 have hfine:FineR (yU xs):=fine_part hs6 (λx hx=>hll▸hx) hln (by rw [hll];exact hall)
 obtain ⟨t,et⟩:∃ t,fM (yU xs)=t:=⟨_,rfl⟩
 obtain ⟨htn,hty⟩:=fewR_text (all_ne hall) et
 have htz:=zQ t
 refine Zh h2 (ZN (yP (Zf (ok_exit (qC (qX (qY (g7 (yP (yS ?_))))))))))
 refine Zl 1 ⟨b2, #[.slice A xs.length cap],234⟩ (off:=0) (.agg #[.slice A xs.length cap]) (Zc (k:=256) (args:= #[.agg #[.slice A xs.length cap]]) (.string (mkS t)) (λw hO=>ret_v (by rw [et]) (gtext_any A cap xs w (hra.inn rfl hO (λx hx=>by simp [hx]) (λx hx=>by simp [hx]) hfine) (ht.on hO.below))) (Zv (.string (mkS t)) (ZN (yP (ZO (Zv (.string (mkS t)) ?_))))))
 by_cases h5:(t:List UInt8)=[]
 ·refine kC Z4 Kr (gE (a:=t) (b:=([])) rfl Kr Kr (decide_eq_true (h5))) (ZY (ZO (Zv (.agg #[.slice none 0 0]) (Zs 2 ⟨b1, #[.slice none 0 0],234⟩ (off:=0) (.agg #[.slice none 0 0]) (Zv (YI 6) (ZN (kG ?_)))))))
  exact yE (ZD 2 ⟨b1, #[.slice none 0 0],234⟩ (off:=0) (.agg #[.slice none 0 0]) (YI 6) Tryz.results214 (λw hO=>⟨.agg #[.slice none 0 0],[],by rw [(errG_few hs6 hall (htn (by assumption))).1],by rw [(errG_few hs6 hall (htn (by assumption))).2];exact RgO.nil,mP hO⟩))
 obtain ⟨hfw,htx⟩:=hty h5
 refine kC Z5 Kr (gE (a:=t) (b:=([])) rfl Kr Kr (decide_eq_false (h5))) (ZX (ZB (yP (ZO (Zv (.string (mkS t)) (Zv (YI ((mkS t).size)) ?_))))))
 by_cases h6:(96:Int)<(mkS t).size
 ·refine Zg h6 (ZY (ZO (Zv (.agg #[.slice none 0 0]) (Zs 2 ⟨b1, #[.slice none 0 0],234⟩ (off:=0) (.agg #[.slice none 0 0]) (Zv (YI 3) (ZN (kG ?_)))))))
  exact yE (ZD 2 ⟨b1, #[.slice none 0 0],234⟩ (off:=0) (.agg #[.slice none 0 0]) (YI 3) Tryz.results214 (λw hO=>⟨.agg #[.slice none 0 0],[],by rw [(errG_big hs6 hall hfw (by rw [htx];omega)).1],by rw [(errG_big hs6 hall hfw (by rw [htx];omega)).2];exact RgO.nil,mP hO⟩))
 refine Zh h6 (ZX (ZB (ZO (Zl 1 ⟨b2, #[.slice A xs.length cap],234⟩ (off:=0) (.agg #[.slice A xs.length cap]) (Zs 2 ⟨b1, #[.slice none 0 0],234⟩ (off:=0) (.agg #[.slice A xs.length cap]) (Zv (YI 0) (dN ?_)))))))
 exact g7 (kG (ZD 2 ⟨b1, #[.slice A xs.length cap],234⟩ (off:=0) (.agg #[.slice A xs.length cap]) (YI 0) Tryz.results214 (λw hO=>⟨.agg #[.slice A xs.length cap],o1++o2,by rw [(errG_fine hs6 hall hfw (by rw [htx];omega)).1],by rw [(errG_fine hs6 hall hfw (by rw [htx];omega)).2];exact ⟨xs,_,o1,o2,rfl,rfl,rfl,hra⟩,Own.sub [_,_,_] hO⟩)))
end
section
set_option linter.unnecessarySimpa false
def rt (st:List (Nat×Tr)):List Int:=(st.map λp=>((p.1:Nat):Int)).reverse
theorem vR (p:Nat×Tr)(st:List (Nat×Tr)):rt (p::st)=rt st++[(p.1:Int)]:=by unfold rt;simp
theorem j7 (st:List (Nat×Tr)):(rt st).length=st.length:=by unfold rt;simp
theorem rt_take (p:Nat×Tr)(st:List (Nat×Tr)):(rt (p::st)).take st.length=rt st:=by rw [vR,←j7 st];simp
theorem rt_take2 (p q:Nat×Tr)(st:List (Nat×Tr)):(rt (p::q::st)).take st.length=rt st:=by rw [vR,vR,←j7 st];simp
theorem rt_last (p:Nat×Tr)(st:List (Nat×Tr))(h:st.length<(rt (p::st)).length):(rt (p::st))[st.length]=(p.1:Int):=by
 have e:=vR p st
 have h2:(rt (p::st))[st.length]?=some (p.1:Int):=by rw [e,←j7 st];simp
 rw [List.getElem?_eq_getElem h] at h2
 exact Option.some.inj h2
theorem rt_prev (p q:Nat×Tr)(st:List (Nat×Tr))(h:st.length<(rt (p::q::st)).length):(rt (p::q::st))[st.length]=(q.1:Int):=by
 have h2:(rt (p::q::st))[st.length]?=some (q.1:Int):=by rw [vR,vR,←j7 st];simp
 rw [List.getElem?_eq_getElem h] at h2
 exact Option.some.inj h2
def fY (l:List Nd):Bool:=match vE 0 [] l with|some s=>decide (l=[])||decide (s.length=1)|none=>false
theorem bZ {i:Nat}{st s:List (Nat×Tr)}{n:Nd}{r:List Nd}(h:stp i st n=some s):vE i st (n::r)=vE (i+1) s r:=by rw [vE,h]
theorem kE {i:Nat}{st:List (Nat×Tr)}{n:Nd}{r:List Nd}(h:stp i st n=none):vE i st (n::r)=none:=by rw [vE,h]
theorem stp_leaf {i:Nat}{st:List (Nat×Tr)}{n:Nd}(h:xD n=true):stp i st n=some ((i,.is n.key.toNat n.text)::st):=by unfold stp;rw [if_pos h]
theorem stp_not {i:Nat}{p:Nat×Tr}{st:List (Nat×Tr)}{n:Nd}(h:xD n=false)(h1:jE (p::st) n=true):stp i (p::st) n=some ((i,.no p.2)::st):=by unfold stp;rw [if_neg (by rw [h];simp),if_pos h1]
theorem stp_bin {i:Nat}{p q:Nat×Tr}{st:List (Nat×Tr)}{n:Nd}(h:xD n=false)(h1:jE (p::q::st) n=false)(h2:isBin (p::q::st) n=true):stp i (p::q::st) n=some ((i,if n.op=3 then .both q.2 p.2 else .one q.2 p.2)::st):=by unfold stp;rw [if_neg (by rw [h];simp),if_neg (by rw [h1];simp),if_pos h2]
theorem tE {i:Nat}{st:List (Nat×Tr)}{n:Nd}(h:xD n=false)(h1:jE st n=false)(h2:isBin st n=false):stp i st n=none:=by unfold stp;rw [if_neg (by rw [h];simp),if_neg (by rw [h1];simp),if_neg (by rw [h2];simp)]
theorem isNot_cons {st:List (Nat×Tr)}{n:Nd}(h:jE st n=true):∃ p r,st=p::r:=by cases st with|nil=>cases h|cons p r=>exact ⟨p,r,rfl⟩
theorem isBin_cons {st:List (Nat×Tr)}{n:Nd}(h:isBin st n=true):∃ p q r,st=p::q::r:=by
 match st,h with
 |p::q::r,_=>exact ⟨p,q,r,rfl⟩
theorem st_one {st:List (Nat×Tr)}(h:0<st.length):∃ p r,st=p::r:=by cases st with|nil=>cases h|cons p r=>exact ⟨p,r,rfl⟩
theorem st_two {st:List (Nat×Tr)}(h:1<st.length):∃ p q r,st=p::q::r:=by
 match st,h with
 |p::q::r,_=>exact ⟨p,q,r,rfl⟩
theorem st_none {st:List (Nat×Tr)}(h:¬ 0<st.length):st=[]:=List.eq_nil_of_length_eq_zero Om
theorem bin_short {st:List (Nat×Tr)}{n:Nd}(h:¬ 1<st.length):isBin st n=false:=by
 match st,h with
 | [],_=>rfl
 | [p],_=>rfl
 |p::q::r,h=>simp at h
theorem op_not {st:List (Nat×Tr)}{n:Nd}(h:¬ n.op=2):jE st n=false:=by cases st with|nil=>rfl|cons p r=>unfold jE;rw [decide_eq_false h];rfl
theorem op_bin {st:List (Nat×Tr)}{n:Nd}(h:¬ n.op=3)(h2:¬ n.op=4):isBin st n=false:=by
 match st with
 | []=>rfl
 | [p]=>rfl
 |p::q::r=>unfold isBin;rw [decide_eq_false h,decide_eq_false h2];rfl
theorem bare_not {st:List (Nat×Tr)}{n:Nd}(h:fB n=false):jE st n=false:=by cases st with|nil=>rfl|cons p r=>unfold jE;rw [h];simp
theorem bare_bin {st:List (Nat×Tr)}{n:Nd}(h:fB n=false):isBin st n=false:=by
 match st with
 | []=>rfl
 | [p]=>rfl
 |p::q::r=>unfold isBin;rw [h];simp
theorem r10tree_any (A:Option Addr)(cap0:Nat)(l:List Nd)(W:World)(hv:Reads nC W W.heap.size A l)(hn0:l.length<=1000)(ht:∀ n∈l,n.text.length<=1000000):YC 317 #[.slice A l.length cap0] W (YR (.bool (fY l)) W):=by
 refine zE Tryz.func317 (zO (α:=Nat×List (Nat×Tr)×Option Addr×Nat×List Blk) (λ(i,st,B,cap,oc)=>[(0,.slice A l.length cap0),(3,.slice B (rt st).length cap),(4,YI (i:Int))]) (λ(i,st,B,cap,oc)=>oc) (λ(i,st,B,cap,oc) m=>(i<=l.length/\vE 0 [] l=vE i st (l.drop i)/\SlZ (.slice B (rt st).length cap) (rt st) oc/\st.length<=i)/\m=l.length-i) (0,[],none,0,[]) (l.length-0) [] ⟨⟨Nat.zero_le _,rfl,Sl.nil _ _,Nat.le_refl _⟩,rfl⟩ ?_)
 rintro ⟨i,st,B,cap,oc⟩ m g kk ⟨⟨hi6,hrun,hsl,hstl⟩,hmm⟩ nx hkk
 subst hkk
 have hrtl:=j7 st
 by_cases h1:(i:Int)<(l.length:Int)
 ·have hil:i<l.length:=by omega
  obtain ⟨bp,off,hA,hlt,hcell⟩:=hv Om
  obtain ⟨n,hn⟩:∃ n,l[i]=n:=⟨_,rfl⟩
  have hnt:=hn▸ht l[i] (List.getElem_mem hil)
  have hdr:l.drop i=n::l.drop (i+1):=by rw [←hn];exact List.drop_eq_getElem_cons hil
  refine zB 11 [] ((i:Int)<(l.length:Int)) (λ_=> ?_) (λhq=>absurd h1 hq)
  refine zJ 16 [] hA l.length cap0 i 5 hil (zH 17 [] 275 bp (off+i*5) (ndV n) (λw hO=>Reads.load qH (hv.on hO.below hO.size) hA i 0 hil Om _ (by rw [hn];kernel_rfl)) (zL [] λb1=> ?_))
  refine x_joinF (.s (.s (.s (.s (.s .z))))) (α:=Bool) (λc=>[(0,.slice A l.length cap0),(3,.slice B (rt st).length cap),(4,YI (i:Int)),(5,Zp b1 0),(6,YI ((rt st).length:Int)),(7,.bool c)]) (λ_=>⟨b1,(ndV n).cells,275⟩::oc) (λc=>c=fB n) [0] (λnj=> ?_) (λc gg hc=> ?_)
  ·exact zB 22 [0] (n.key=0) (λh2=>x2 26 [0] n.text [] (λh3=>nj true [] (by unfold fB;simp [h2,h3]) Kr) (λh3=>nj false [] (by unfold fB;simp [h2,h3]) Kr)) (λh2=>nj false [] (by unfold fB;simp [h2]) Kr)
  refine z8 (k:=343) (args:= #[ndV n]) (v:= .bool (xD n)) [0] (λw _=>r10leaf_any n w hnt) ?_
  cases h4:xD n with
  |true=>
   refine qO [] 1 3 #[YI (i:Int)] λb2=>bP (m:=1) (cp:=1) [] [⟨b2, #[YI (i:Int)],3⟩,⟨b1,(ndV n).cells,275⟩] oc [] 0 (⟨b2, #[YI (i:Int)],3⟩::⟨b1,(ndV n).cells,275⟩::oc) (λw hO=>(hO.cast (by simp))) hsl Om λu2 ob2 hu2=> ?_
   have hu2s:SlZ u2 (rt st++[(i:Int)]) ob2:=SlZ.add hu2
   obtain ⟨B2,cb2,rfl⟩:=Sl.form hu2s
   have hrl2:(rt ((i,Tr.is n.key.toNat n.text)::st)).length=(rt st++[(i:Int)]).length:=by rw [vR]
   rw [←hrl2]
   exact x_i 13 [] ((i+1:Nat):Int) (yT [] ob2 (λw hO=>(hO.past 2 (ob2++[])).cast (by simp)) (nx (i+1,((i,Tr.is n.key.toNat n.text)::st),B2,cb2,ob2) (l.length-(i+1)) [] Om ⟨⟨by omega,by rw [hrun,hdr,bZ (stp_leaf h4)],by rw [vR];exact hu2s,by first|(rw [hst] at hstl;simp only [List.length_cons] at hstl ⊢;omega)|(simp only [List.length_cons];omega)⟩,rfl⟩ Kr Kr))
  |false=>
   refine x_joinF (.s (.s (.s (.s (.s .z))))) (α:=Bool) (λd=>[(0,.slice A l.length cap0),(3,.slice B (rt st).length cap),(4,YI (i:Int)),(5,Zp b1 0),(6,YI ((rt st).length:Int)),(7,.bool c),(31,.bool d)]) (λ_=>⟨b1,(ndV n).cells,275⟩::oc) (λd=>d=jE st n) [] (λnj=> ?_) (λd gg hd=> ?_)
   ·refine zB 34 [0] (n.op=2) (λh5=> ?_) (λh5=>nj false [] (op_not h5).symm Kr)
    cases c with
    |false=>exact nj false [] (bare_not hc.symm).symm Kr
    |true=>
     refine zB 40 [] ((0:Int)<((rt st).length:Int)) (λh7=> ?_) (λh7=>nj false [] (by rw [st_none (st:=st) (by rw [←j7];omega)];rfl) Kr)
     obtain ⟨p,r,hst⟩:=st_one (st:=st) Om
     obtain ⟨g,hg,hcap⟩:=Sl.at0 hsl Om
     have hrl:(rt st).length=r.length+1:=by rw [j7,hst];rfl
     have hlast:∀ h:r.length<(rt st).length,(rt st)[r.length]=(p.1:Int):=by subst hst;exact λh=>rt_last p r h
     have hY:=λ(b:Bool) (hb:(decide (n.a=(p.1:Int)) && decide (n.b=0))=b)=>show b=jE st n by rw [hst,←hb];unfold jE;simp [h5,←hc]
     exact x_i 47 [0] (((rt st).length:Int) -1) (vY 48 [] hg (rt st).length cap (((rt st).length:Int) -1) 1 (0+r.length*1) Om (zH 49 [] 3 g (0+r.length*1) (YI (p.1:Int)) (λw hO=>Reads.load zC_len (Sl.reads hsl rfl (hO.past 1 oc) (λx hx=>hx)) hg (r.length) 0 Om Om _ (by rw [hlast];kernel_rfl)) (zB 50 [] (n.a=(p.1:Int)) (λh8=>zB 55 [0] (n.b=0) (λh9=>nj true [] (hY _ (by simp [h8,h9])) Kr) (λh9=>nj false [] (hY _ (by simp [h9])) Kr)) (λh8=>nj false [] (hY _ (by simp [h8])) Kr))))
   cases d with
   |true=>
    obtain ⟨p,r,hst⟩:=isNot_cons hd.symm
    obtain ⟨g,hgB,hcap⟩:=Sl.at0 hsl (by rw [j7,hst];simp)
    have hrl:(rt st).length=r.length+1:=by rw [j7,hst];rfl
    have hrr:=j7 r
    have hsl2:SlZ (.slice (some ⟨g,0,none⟩) (rt r).length cap) (rt r) oc:=by
     subst hst;subst hgB
     have q9:=Sl.front zC_len hsl (by rw [vR];simp) (k:=r.length) Om
     rw [rt_take] at q9
     unfold SlZ;rw [show (rt r).length=r.length from j7 r] at q9 ⊢;exact q9
    refine x_i 59 [] (((rt st).length:Int) -1) (x_slhi 60 [] hgB (rt st).length cap 1 (((rt st).length:Int) -1) Om Om (.slice (some ⟨g,0,none⟩) (rt r).length cap) (by rw [show (((rt st).length:Int) -1).toNat=(rt r).length by omega]) ?_)
    refine qO [] 1 3 #[YI (i:Int)] λb2=>bP (m:=1) (cp:=1) [] [⟨b2, #[YI (i:Int)],3⟩,⟨b1,(ndV n).cells,275⟩] oc [] 0 (⟨b2, #[YI (i:Int)],3⟩::⟨b1,(ndV n).cells,275⟩::oc) (λw hO=>(hO.cast (by simp))) hsl2 Om λu2 ob2 hu2=> ?_
    have hu2s:SlZ u2 (rt r++[(i:Int)]) ob2:=SlZ.add hu2
    obtain ⟨B2,cb2,rfl⟩:=Sl.form hu2s
    have hrl2:(rt ((i,Tr.no p.2)::r)).length=(rt r++[(i:Int)]).length:=by rw [vR]
    rw [←hrl2]
    exact x_i 13 [] ((i+1:Nat):Int) (yT [] ob2 (λw hO=>(hO.past 2 (ob2++[])).cast (by simp)) (nx (i+1,((i,Tr.no p.2)::r),B2,cb2,ob2) (l.length-(i+1)) [] Om ⟨⟨by omega,by rw [hrun,hdr,bZ (hst▸stp_not h4 (hst▸hd.symm))],by rw [vR];exact hu2s,by first|(rw [hst] at hstl;simp only [List.length_cons] at hstl ⊢;omega)|(simp only [List.length_cons];omega)⟩,rfl⟩ Kr Kr))
   |false=>
    refine x_joinF (.s (.s (.s .z))) (α:=Bool) (λd=>[(0,.slice A l.length cap0),(3,.slice B (rt st).length cap),(4,YI (i:Int)),(5,Zp b1 0),(6,YI ((rt st).length:Int)),(7,.bool c),(61,.bool d)]) (λ_=>⟨b1,(ndV n).cells,275⟩::oc) (λd=>d=isBin st n) [] (λnj=> ?_) (λd' gg hd'=> ?_)
    ·by_cases h11:n.op=3\/n.op=4
     ·cases c with
      |false=>exact zB 64 [0] (n.op=3) (λ_=>nj false [] (bare_bin hc.symm).symm Kr) (λh=>zB 68 [0] (n.op=4) (λ_=>nj false [] (bare_bin hc.symm).symm Kr) (λ_=>nj false [] (bare_bin hc.symm).symm Kr))
      |true=>
       by_cases h13:(1:Int)<((rt st).length:Int)
       ·obtain ⟨p,q,r,hst⟩:=st_two (st:=st) Om
        obtain ⟨g,hg,hcap⟩:=Sl.at0 hsl Om
        have hrl:(rt st).length=r.length+2:=by rw [j7,hst];rfl
        have hlast:∀ h:r.length+1<(rt st).length,(rt st)[r.length+1]=(p.1:Int):=by subst hst;exact λh=>rt_last p (q::r) h
        have hprev:∀ h:r.length<(rt st).length,(rt st)[r.length]=(q.1:Int):=by subst hst;exact λh=>rt_prev p q r h
        have hY:=λ(b:Bool) (hb:(decide (n.a=(q.1:Int)) && decide (n.b=(p.1:Int)))=b)=>show b=isBin st n by rw [hst,←hb];unfold isBin;rcases h11 with h|h<;>simp [h,←hc]
        by_cases h3:n.op=3
        ·exact zB 64 [0] (n.op=3) (λ_=>zB 75 [] ((1:Int)<((rt st).length:Int)) (λ_=>x_i 82 [0] (((rt st).length:Int) -2) (vY 83 [] hg (rt st).length cap (((rt st).length:Int) -2) 1 (0+r.length*1) Om (zH 84 [] 3 g (0+r.length*1) (YI (q.1:Int)) (λw hO=>Reads.load zC_len (Sl.reads hsl rfl (hO.past 1 oc) (λx hx=>hx)) hg (r.length) 0 Om Om _ (by rw [hprev];kernel_rfl)) (zB 85 [] (n.a=(q.1:Int)) (λh8=>x_i 92 [0] (((rt st).length:Int) -1) (vY 93 [] hg (rt st).length cap (((rt st).length:Int) -1) 1 (0+(r.length+1)*1) Om (zH 94 [] 3 g (0+(r.length+1)*1) (YI (p.1:Int)) (λw hO=>Reads.load zC_len (Sl.reads hsl rfl (hO.past 1 oc) (λx hx=>hx)) hg ((r.length+1)) 0 Om Om _ (by rw [hlast];kernel_rfl)) (zB 95 [] (n.b=(p.1:Int)) (λh9=>nj true [] (hY _ (by simp [h8,h9])) Kr) (λh9=>nj false [] (hY _ (by simp [h9])) Kr))))) (λh8=>nj false [] (hY _ (by simp [h8])) Kr))))) (λh=>absurd h13 h)) (λh=>absurd h3 h)
        ·exact zB 64 [0] (n.op=3) (λh=>absurd h h3) (λ_=>zB 68 [0] (n.op=4) (λ_=>zB 75 [] ((1:Int)<((rt st).length:Int)) (λ_=>x_i 82 [0] (((rt st).length:Int) -2) (vY 83 [] hg (rt st).length cap (((rt st).length:Int) -2) 1 (0+r.length*1) Om (zH 84 [] 3 g (0+r.length*1) (YI (q.1:Int)) (λw hO=>Reads.load zC_len (Sl.reads hsl rfl (hO.past 1 oc) (λx hx=>hx)) hg (r.length) 0 Om Om _ (by rw [hprev];kernel_rfl)) (zB 85 [] (n.a=(q.1:Int)) (λh8=>x_i 92 [0] (((rt st).length:Int) -1) (vY 93 [] hg (rt st).length cap (((rt st).length:Int) -1) 1 (0+(r.length+1)*1) Om (zH 94 [] 3 g (0+(r.length+1)*1) (YI (p.1:Int)) (λw hO=>Reads.load zC_len (Sl.reads hsl rfl (hO.past 1 oc) (λx hx=>hx)) hg ((r.length+1)) 0 Om Om _ (by rw [hlast];kernel_rfl)) (zB 95 [] (n.b=(p.1:Int)) (λh9=>nj true [] (hY _ (by simp [h8,h9])) Kr) (λh9=>nj false [] (hY _ (by simp [h9])) Kr))))) (λh8=>nj false [] (hY _ (by simp [h8])) Kr))))) (λh=>absurd h13 h)) (λh=>absurd (h11.resolve_left h3) h))
       ·have hN:=bin_short (n:=n) (st:=st) (by rw [←j7];omega)
        exact zB 64 [0] (n.op=3) (λ_=>zB 75 [] ((1:Int)<((rt st).length:Int)) (λh=>absurd h h13) (λ_=>nj false [] hN.symm Kr)) (λ_=>zB 68 [0] (n.op=4) (λ_=>zB 75 [] ((1:Int)<((rt st).length:Int)) (λh=>absurd h h13) (λ_=>nj false [] hN.symm Kr)) (λ_=>nj false [] hN.symm Kr))
     ·exact zB 64 [0] (n.op=3) (λh=>absurd (.inl h) h11) (λh=>zB 68 [0] (n.op=4) (λh=>absurd (.inr h) h11) (λh'=>nj false [] (op_bin h h').symm Kr))
    cases d' with
    |true=>
     obtain ⟨p,q,r,hst⟩:=isBin_cons hd'.symm
     obtain ⟨g,hgB,hcap⟩:=Sl.at0 hsl (by rw [j7,hst];simp)
     have hrl:(rt st).length=r.length+2:=by rw [j7,hst];rfl
     have hrr:=j7 r
     have hsl2:SlZ (.slice (some ⟨g,0,none⟩) (rt r).length cap) (rt r) oc:=by
      subst hst;subst hgB
      have q9:=Sl.front zC_len hsl (by rw [vR];simp) (k:=r.length) Om
      rw [rt_take2] at q9
      unfold SlZ;rw [show (rt r).length=r.length from j7 r] at q9 ⊢;exact q9
     refine x_i 99 [] (((rt st).length:Int) -2) (x_slhi 100 [] hgB (rt st).length cap 1 (((rt st).length:Int) -2) Om Om (.slice (some ⟨g,0,none⟩) (rt r).length cap) (by rw [show (((rt st).length:Int) -2).toNat=(rt r).length by omega]) ?_)
     refine qO [] 1 3 #[YI (i:Int)] λb2=>bP (m:=1) (cp:=1) [] [⟨b2, #[YI (i:Int)],3⟩,⟨b1,(ndV n).cells,275⟩] oc [] 0 (⟨b2, #[YI (i:Int)],3⟩::⟨b1,(ndV n).cells,275⟩::oc) (λw hO=>(hO.cast (by simp))) hsl2 Om λu2 ob2 hu2=> ?_
     have hu2s:SlZ u2 (rt r++[(i:Int)]) ob2:=SlZ.add hu2
     obtain ⟨B2,cb2,rfl⟩:=Sl.form hu2s
     have hrl2:(rt ((i,if n.op=3 then Tr.both q.2 p.2 else Tr.one q.2 p.2)::r)).length=(rt r++[(i:Int)]).length:=by rw [vR]
     rw [←hrl2]
     exact x_i 13 [] ((i+1:Nat):Int) (yT [] ob2 (λw hO=>(hO.past 2 (ob2++[])).cast (by simp)) (nx (i+1,((i,if n.op=3 then Tr.both q.2 p.2 else Tr.one q.2 p.2)::r),B2,cb2,ob2) (l.length-(i+1)) [] Om ⟨⟨by omega,by rw [hrun,hdr,bZ (hst▸stp_bin h4 (hst▸hd.symm) (hst▸hd'.symm))],by rw [vR];exact hu2s,by first|(rw [hst] at hstl;simp only [List.length_cons] at hstl ⊢;omega)|(simp only [List.length_cons];omega)⟩,rfl⟩ Kr Kr))
    |false=>
     exact z7 [] Z5 (λw hO=>⟨by rw [show fY l=false from by unfold fY;rw [hrun,hdr,kE (tE h4 hd.symm hd'.symm)]],(hO.past 0 (⟨b1,(ndV n).cells,275⟩::oc)).below⟩)
 ·have hil:l.drop i=[]:=List.drop_of_length_le Om
  have hY:=λ(b:Bool) (hb:(decide (l=[])||decide (st.length=1))=b) (w:World) (hO:Own [] W w oc)=>show Ending.returned (.bool b)= .returned (.bool (fY l))/\Below W.heap.size W w from ⟨by rw [show fY l=b from by unfold fY;rw [hrun,hil];exact hb],hO.below⟩
  exact zB 11 [] ((i:Int)<(l.length:Int)) (λhq=>absurd hq h1) (λ_=>zB 107 [] ((l.length:Int)=0) (λh=>z7 [] Z4 (λw hO=>hY _ (by rw [List.length_eq_zero_iff.1 (by omega:l.length=0)];rfl) w (hO.past 0 oc))) (λh=>zB 111 [] (((rt st).length:Int)=1) (λh'=>z7 [] Z4 (λw hO=>hY _ (by simp;omega) w (hO.past 0 oc))) (λh'=>z7 [] Z5 (λw hO=>hY _ (by simp;exact ⟨λe=>h (by rw [e];rfl),by omega⟩) w (hO.past 0 oc)))))
end
section
set_option linter.unnecessarySimpa false
theorem join_wrap (c:Bool){l:List Tok}(h:l≠[]):zG 32 (gZ c l)=yM c (zG 32 l):=by
 unfold gZ yM
 cases c with
 |false=>rfl
 |true=>
  show zG 32 ([x5]++(l++[x7]))=_
  rw [dX 32 [x5] _ (by simp) (by simp),dX 32 l [x7] h (by simp)]
  simp [zG,x5,x7]
theorem wrapT_ne {c:Bool}{l:List Tok}(h:l≠[]):gZ c l≠[]:=by unfold gZ;cases c<;>simp [h]
theorem text_is (k:Nat)(t:List UInt8):(Tr.is k t).text=x1 k++[32,61,32]++t:=by
 unfold Tr.text;rw [Tr.tok];simp [zG,tEq]
theorem text_no_is (k:Nat)(t:List UInt8):(Tr.no (.is k t)).text=x1 k++[32,33,61,32]++t:=by
 unfold Tr.text;rw [Tr.tok];simp [zG,tNe]
theorem text_no {x:Tr}(h:∀ k t,x≠ .is k t):(Tr.no x).text=[110,111,116,32]++yM x.isBin x.text:=by
 unfold Tr.text
 rw [Tr.tok_no h,show qM::gZ x.isBin x.tok=[qM]++gZ x.isBin x.tok from rfl,dX 32 _ _ (by simp) (wrapT_ne x.tok_ne),join_wrap _ x.tok_ne];simp [zG,qM]
theorem fR (x y:Tr):(Tr.both x y).text=yM x.isOne x.text++[32,97,110,100,32]++yM y.isBin y.text:=by
 unfold Tr.text
 rw [Tr.tok,show bN::gZ y.isBin y.tok=[bN]++gZ y.isBin y.tok from rfl,dX 32 _ _ (wrapT_ne x.tok_ne) (by simp),dX 32 [bN] _ (by simp) (wrapT_ne y.tok_ne),join_wrap _ x.tok_ne,join_wrap _ y.tok_ne];simp [zG,bN]
theorem text_one (x y:Tr):(Tr.one x y).text=x.text++[32,111,114,32]++yM y.isOne y.text:=by
 unfold Tr.text
 rw [Tr.tok,show tOr::gZ y.isOne y.tok=[tOr]++gZ y.isOne y.tok from rfl,dX 32 _ _ x.tok_ne (by simp),dX 32 [tOr] _ (by simp) (wrapT_ne y.tok_ne),join_wrap _ y.tok_ne];simp [zG,tOr]
def Tr.opc:Tr->Int
 | .is _ _=>1
 | .no _=>2
 | .both _ _=>3
 | .one _ _=>4
theorem opc_14 (t:Tr):1<=t.opc/\t.opc<=4:=by cases t<;>simp [Tr.opc]
theorem wW (t:Tr):t.isOne=decide (t.opc=4):=by cases t<;>rfl
theorem mV (t:Tr):t.isBin=(decide (t.opc=4)||decide (t.opc=3)):=by cases t<;>rfl
theorem w_small:∀ t:Tr,t.ok=true->t.w<=20*t.sz
 | .is k v,h=>by
  unfold Tr.ok at h
  simp only [Bool.and_eq_true,decide_eq_true_eq] at h
  have hv:=h.2
  unfold wdL at hv
  simp only [Bool.and_eq_true,decide_eq_true_eq] at hv
  rw [w_is]
  have:(x1 k).length<=4:=by unfold x1;split<;>(try split)<;>simp
  show _<=20;omega
 | .no x,h=>by have:=w_small x h;have:=(w_no x).1;have:=x.w_le;show _<=20*(x.sz+1);omega
 | .both x y,h=>by
  unfold Tr.ok at h;rw [Bool.and_eq_true] at h
  have:=w_small x h.1;have:=w_small y h.2;have:=x.w_le;have:=y.w_le
  rw [w_both];show _<=20*(x.sz+y.sz+1);omega
 | .one x y,h=>by
  unfold Tr.ok at h;rw [Bool.and_eq_true] at h
  have:=w_small x h.1;have:=w_small y h.2;have:=x.w_le;have:=y.w_le
  rw [w_one];show _<=20*(x.sz+y.sz+1);omega
def jI (A:Option Addr)(cap:Nat)(l:List Nd)(a:Nat)(t:Tr):Prop:=∀ W:World,Reads nC W W.heap.size A l->YC 318 #[.slice A l.length cap,YI (a:Int)] W (YR (.string (mkS t.text)) W)
theorem vL (c:Bool)(s:List UInt8):(yM c s).length<=s.length+4:=by unfold yM;cases c<;>simp
theorem qW {α:Type}{l:List α}{r:Nat}{x:α}(h:l[r]?=some x):∃ hr:r<l.length,l[r]=x:=List.getElem?_eq_some_iff.1 h
theorem tx_is {A:Option Addr}{cap:Nat}{l:List Nd}(hn:l.length<=1000){r:Nat}{k:Nat}{t:List UInt8}(hk:k<3)(ht:t.length<=1000)(hr:l[r]?=some ⟨1,0,0,(k:Int),t⟩):jI A cap l r (.is k t):=λW hv=>by
 obtain ⟨hr,er⟩:=qW hr
 obtain ⟨bp,off,hA,hlt,hcell⟩:=hv Om
 have hkl:(x1 k).length<=4:=by unfold x1;split<;>(try split)<;>simp
 exact zE Tryz.func318 (zJ 11 [] hA l.length cap r 5 Om (zH 12 [] 275 bp (off+r*5) (ndV ⟨1,0,0,k,t⟩) (λw hO=>Reads.load qH (hv.on hO.below hO.size) hA r 0 hr Om _ (by rw [er];kernel_rfl)) (zL [] λb1=>(z8 (k:=344) (args:= #[YI (k:Int)]) (v:= .string (mkS (x1 k))) [0,0,0] (λw _=>r10key_any k hk w) (zW 20 [] (x1 k) ([32,61,32]) (zW 23 [0] ((x1 k)++[32,61,32]) t (z7 [] (.string (mkS (((x1 k)++[32,61,32])++t))) (λw hO=>⟨by rw [text_is],hO.below⟩))))))))
theorem tx_no_is {A:Option Addr}{cap:Nat}{l:List Nd}(hn:l.length<=1000){r:Nat}{a k:Nat}{t:List UInt8}(hk:k<3)(ht:t.length<=1000)(hr:l[r]?=some ⟨2,(a:Int),0,0,[]⟩)(ha:l[a]?=some ⟨1,0,0,(k:Int),t⟩):jI A cap l r (.no (.is k t)):=λW hv=>by
 obtain ⟨hr,er⟩:=qW hr
 obtain ⟨ha,ea⟩:=qW ha
 obtain ⟨bp,off,hA,hlt,hcell⟩:=hv Om
 have hkl:(x1 k).length<=4:=by unfold x1;split<;>(try split)<;>simp
 exact zE Tryz.func318 (zJ 11 [] hA l.length cap r 5 Om (zH 12 [] 275 bp (off+r*5) (ndV ⟨2,a,0,0,[]⟩) (λw hO=>Reads.load qH (hv.on hO.below hO.size) hA r 0 hr Om _ (by rw [er];kernel_rfl)) (zL [] λb1=>(zJ 29 [0,0,0] hA l.length cap a 5 Om (zH 30 [] 275 bp (off+a*5) (ndV ⟨1,0,0,k,t⟩) (λw hO=>Reads.load qH (hv.on hO.below hO.size) hA a 0 ha Om _ (by rw [ea];kernel_rfl)) (zL [] λb2=>(z8 (k:=344) (args:= #[YI (k:Int)]) (v:= .string (mkS (x1 k))) [0,0,0] (λw _=>r10key_any k hk w) (zW 37 [] (x1 k) ([32,33,61,32]) (zW 40 [0] ((x1 k)++[32,33,61,32]) t (z7 [] (.string (mkS (((x1 k)++[32,33,61,32])++t))) (λw hO=>⟨by rw [text_no_is],hO.below⟩)))))))))))
theorem tx_no {A:Option Addr}{cap:Nat}{l:List Nd}(hn:l.length<=1000){r:Nat}{a:Nat}{na:Nd}{x:Tr}(hne:∀ k t,x≠ .is k t)(hxl:x.text.length<=100000)(hr:l[r]?=some ⟨2,(a:Int),0,0,[]⟩)(ha:l[a]?=some na)(ha':jI A cap l a x)(hxo:na.op=x.opc)(hx1:¬ na.op=1)(hx5:1<=na.op/\na.op<=4):jI A cap l r (.no x):=λW hv=>by
 obtain ⟨hr,er⟩:=qW hr
 obtain ⟨ha,ea⟩:=qW ha
 obtain ⟨bp,off,hA,hlt,hcell⟩:=hv Om
 have hw1:=vL true x.text
 have hw2:=vL false x.text
 refine zE Tryz.func318 (zJ 11 [] hA l.length cap r 5 Om (zH 12 [] 275 bp (off+r*5) (ndV ⟨2,a,0,0,[]⟩) (λw hO=>Reads.load qH (hv.on hO.below hO.size) hA r 0 hr Om _ (by rw [er];kernel_rfl)) (zL [] λb1=>(zJ 29 [0,0,0] hA l.length cap a 5 Om (zH 30 [] 275 bp (off+a*5) (ndV na) (λw hO=>Reads.load qH (hv.on hO.below hO.size) hA a 0 ha Om _ (by rw [ea];kernel_rfl)) (zL [] λb2=>(zB 33 [0,0] ((na.op:Int)=1) (λhq=>absurd hq (hx1)) (λ_=>z8 (k:=318) (args:= #[.slice A l.length cap,YI (a:Int)]) (v:= .string (mkS x.text)) [1] (λw hO=>ha' w (hv.on hO.below hO.size)) ?_))))))))
 by_cases h1:(na.op:Int)=2
 ·refine jW 47 [0] ((na.op:Int)=2) (λ_=> ?_) (λhq=>absurd (h1) hq)
  exact z8 (k:=345) (args:= #[.string (mkS x.text),.bool false]) (v:= .string (mkS (yM false x.text))) [] (λw _=>xY x.text false w Om) (zW 49 [] ([110,111,116,32]) (yM false x.text) (z7 [] (.string (mkS ([110,111,116,32]++(yM false x.text)))) (λw hO=>⟨by rw [text_no hne,show x.isBin=false from by rw [mV];simp [←hxo];omega],hO.below⟩)))
 exact jW 47 [0] ((na.op:Int)=2) (λhq=>absurd hq (h1)) (λ_=>z8 (k:=345) (args:= #[.string (mkS x.text),.bool true]) (v:= .string (mkS (yM true x.text))) [] (λw _=>xY x.text true w Om) (zW 49 [] ([110,111,116,32]) (yM true x.text) (z7 [] (.string (mkS ([110,111,116,32]++(yM true x.text)))) (λw hO=>⟨by rw [text_no hne,show x.isBin=true from by rw [mV];simp [←hxo];omega],hO.below⟩))))
theorem tx_both {A:Option Addr}{cap:Nat}{l:List Nd}(hn:l.length<=1000){r:Nat}{a b:Nat}{na nb:Nd}{x y:Tr}(hxl:x.text.length<=100000)(hyl:y.text.length<=100000)(hr:l[r]?=some ⟨3,(a:Int),(b:Int),0,[]⟩)(ha:l[a]?=some na)(hb:l[b]?=some nb)(ha':jI A cap l a x)(hb':jI A cap l b y)(hxo:na.op=x.opc)(hyo:nb.op=y.opc):jI A cap l r (.both x y):=λW hv=>by
 obtain ⟨hr,er⟩:=qW hr
 obtain ⟨ha,ea⟩:=qW ha
 obtain ⟨hb,eb⟩:=qW hb
 obtain ⟨bp,off,hA,hlt,hcell⟩:=hv Om
 have hw0:=vL true x.text
 have hw1:=vL false x.text
 have hw2:=vL true y.text
 have hw3:=vL false y.text
 refine zE Tryz.func318 (zJ 11 [] hA l.length cap r 5 Om (zH 12 [] 275 bp (off+r*5) (ndV ⟨3,a,b,0,[]⟩) (λw hO=>Reads.load qH (hv.on hO.below hO.size) hA r 0 hr Om _ (by rw [er];kernel_rfl)) (zL [] λb1=>(zJ 55 [0,0,0] hA l.length cap a 5 Om (zH 57 [] 3 bp (off+a*5+0) (YI na.op) (λw hO=>Reads.load qH (hv.on hO.below hO.size) hA a 0 ha Om _ (by rw [ea];kernel_rfl)) (zJ 61 [0] hA l.length cap b 5 Om (zH 63 [] 3 bp (off+b*5+0) (YI nb.op) (λw hO=>Reads.load qH (hv.on hO.below hO.size) hA b 0 hb Om _ (by rw [eb];kernel_rfl)) (z8 (k:=318) (args:= #[.slice A l.length cap,YI (a:Int)]) (v:= .string (mkS x.text)) [0] (λw hO=>ha' w (hv.on hO.below hO.size)) ?_))))))))
 by_cases h1:(na.op:Int)=4
 ·refine zB 69 [] ((na.op:Int)=4) (λ_=> ?_) (λhq=>absurd (h1) hq)
  refine z8 (k:=345) (args:= #[.string (mkS x.text),.bool true]) (v:= .string (mkS (yM true x.text))) [] (λw _=>xY x.text true w Om) (zW 71 [] (yM true x.text) ([32,97,110,100,32]) (z8 (k:=318) (args:= #[.slice A l.length cap,YI (b:Int)]) (v:= .string (mkS y.text)) [0] (λw hO=>hb' w (hv.on hO.below hO.size)) ?_))
  by_cases h2:(nb.op:Int)=4
  ·refine zB 77 [] ((nb.op:Int)=4) (λ_=> ?_) (λhq=>absurd (h2) hq)
   exact z8 (k:=345) (args:= #[.string (mkS y.text),.bool true]) (v:= .string (mkS (yM true y.text))) [] (λw _=>xY y.text true w Om) (zW 83 [] ((yM true x.text)++[32,97,110,100,32]) (yM true y.text) (z7 [] (.string (mkS (((yM true x.text)++[32,97,110,100,32])++(yM true y.text)))) (λw hO=>⟨by rw [fR,show x.isOne=true from by rw [wW,←hxo];simp;omega,show y.isBin=true from by rw [mV,←hyo];simp;omega],hO.below⟩)))
  refine zB 77 [] ((nb.op:Int)=4) (λhq=>absurd hq (h2)) (λ_=> ?_)
  by_cases h3:(nb.op:Int)=3
  ·refine zB 80 [] ((nb.op:Int)=3) (λ_=> ?_) (λhq=>absurd (h3) hq)
   exact z8 (k:=345) (args:= #[.string (mkS y.text),.bool true]) (v:= .string (mkS (yM true y.text))) [] (λw _=>xY y.text true w Om) (zW 83 [] ((yM true x.text)++[32,97,110,100,32]) (yM true y.text) (z7 [] (.string (mkS (((yM true x.text)++[32,97,110,100,32])++(yM true y.text)))) (λw hO=>⟨by rw [fR,show x.isOne=true from by rw [wW,←hxo];simp;omega,show y.isBin=true from by rw [mV,←hyo];simp;omega],hO.below⟩)))
  exact zB 80 [] ((nb.op:Int)=3) (λhq=>absurd hq (h3)) (λ_=>z8 (k:=345) (args:= #[.string (mkS y.text),.bool false]) (v:= .string (mkS (yM false y.text))) [] (λw _=>xY y.text false w Om) (zW 83 [] ((yM true x.text)++[32,97,110,100,32]) (yM false y.text) (z7 [] (.string (mkS (((yM true x.text)++[32,97,110,100,32])++(yM false y.text)))) (λw hO=>⟨by rw [fR,show x.isOne=true from by rw [wW,←hxo];simp;omega,show y.isBin=false from by rw [mV,←hyo];simp;omega],hO.below⟩))))
 refine zB 69 [] ((na.op:Int)=4) (λhq=>absurd hq (h1)) (λ_=>z8 (k:=345) (args:= #[.string (mkS x.text),.bool false]) (v:= .string (mkS (yM false x.text))) [] (λw _=>xY x.text false w Om) (zW 71 [] (yM false x.text) ([32,97,110,100,32]) (z8 (k:=318) (args:= #[.slice A l.length cap,YI (b:Int)]) (v:= .string (mkS y.text)) [0] (λw hO=>hb' w (hv.on hO.below hO.size)) ?_)))
 by_cases h4:(nb.op:Int)=4
 ·refine zB 77 [] ((nb.op:Int)=4) (λ_=> ?_) (λhq=>absurd (h4) hq)
  exact z8 (k:=345) (args:= #[.string (mkS y.text),.bool true]) (v:= .string (mkS (yM true y.text))) [] (λw _=>xY y.text true w Om) (zW 83 [] ((yM false x.text)++[32,97,110,100,32]) (yM true y.text) (z7 [] (.string (mkS (((yM false x.text)++[32,97,110,100,32])++(yM true y.text)))) (λw hO=>⟨by rw [fR,show x.isOne=false from by rw [wW,←hxo];simp;omega,show y.isBin=true from by rw [mV,←hyo];simp;omega],hO.below⟩)))
 refine zB 77 [] ((nb.op:Int)=4) (λhq=>absurd hq (h4)) (λ_=> ?_)
 by_cases h5:(nb.op:Int)=3
 ·refine zB 80 [] ((nb.op:Int)=3) (λ_=> ?_) (λhq=>absurd (h5) hq)
  exact z8 (k:=345) (args:= #[.string (mkS y.text),.bool true]) (v:= .string (mkS (yM true y.text))) [] (λw _=>xY y.text true w Om) (zW 83 [] ((yM false x.text)++[32,97,110,100,32]) (yM true y.text) (z7 [] (.string (mkS (((yM false x.text)++[32,97,110,100,32])++(yM true y.text)))) (λw hO=>⟨by rw [fR,show x.isOne=false from by rw [wW,←hxo];simp;omega,show y.isBin=true from by rw [mV,←hyo];simp;omega],hO.below⟩)))
 exact zB 80 [] ((nb.op:Int)=3) (λhq=>absurd hq (h5)) (λ_=>z8 (k:=345) (args:= #[.string (mkS y.text),.bool false]) (v:= .string (mkS (yM false y.text))) [] (λw _=>xY y.text false w Om) (zW 83 [] ((yM false x.text)++[32,97,110,100,32]) (yM false y.text) (z7 [] (.string (mkS (((yM false x.text)++[32,97,110,100,32])++(yM false y.text)))) (λw hO=>⟨by rw [fR,show x.isOne=false from by rw [wW,←hxo];simp;omega,show y.isBin=false from by rw [mV,←hyo];simp;omega],hO.below⟩))))
theorem tx_one {A:Option Addr}{cap:Nat}{l:List Nd}(hn:l.length<=1000){r:Nat}{a b:Nat}{na nb:Nd}{x y:Tr}(hxl:x.text.length<=100000)(hyl:y.text.length<=100000)(hr:l[r]?=some ⟨4,(a:Int),(b:Int),0,[]⟩)(ha:l[a]?=some na)(hb:l[b]?=some nb)(ha':jI A cap l a x)(hb':jI A cap l b y)(hxo:na.op=x.opc)(hyo:nb.op=y.opc):jI A cap l r (.one x y):=λW hv=>by
 obtain ⟨hr,er⟩:=qW hr
 obtain ⟨ha,ea⟩:=qW ha
 obtain ⟨hb,eb⟩:=qW hb
 obtain ⟨bp,off,hA,hlt,hcell⟩:=hv Om
 have hw0:=vL true x.text
 have hw1:=vL false x.text
 have hw2:=vL true y.text
 have hw3:=vL false y.text
 refine zE Tryz.func318 (zJ 11 [] hA l.length cap r 5 Om (zH 12 [] 275 bp (off+r*5) (ndV ⟨4,a,b,0,[]⟩) (λw hO=>Reads.load qH (hv.on hO.below hO.size) hA r 0 hr Om _ (by rw [er];kernel_rfl)) (zL [] λb1=>(z8 (k:=318) (args:= #[.slice A l.length cap,YI (a:Int)]) (v:= .string (mkS x.text)) [0,0,0] (λw hO=>ha' w (hv.on hO.below hO.size)) (zW 88 [] x.text ([32,111,114,32]) (z8 (k:=318) (args:= #[.slice A l.length cap,YI (b:Int)]) (v:= .string (mkS y.text)) [0] (λw hO=>hb' w (hv.on hO.below hO.size)) (zJ 96 [0] hA l.length cap b 5 Om (zH 98 [] 3 bp (off+b*5+0) (YI nb.op) (λw hO=>Reads.load qH (hv.on hO.below hO.size) hA b 0 hb Om _ (by rw [eb];kernel_rfl)) ?_))))))))
 by_cases h1:(nb.op:Int)=4
 ·refine zB 99 [] ((nb.op:Int)=4) (λ_=> ?_) (λhq=>absurd (h1) hq)
  exact z8 (k:=345) (args:= #[.string (mkS y.text),.bool true]) (v:= .string (mkS (yM true y.text))) [] (λw _=>xY y.text true w Om) (zW 101 [] (x.text++[32,111,114,32]) (yM true y.text) (z7 [] (.string (mkS ((x.text++[32,111,114,32])++(yM true y.text)))) (λw hO=>⟨by rw [text_one,show y.isOne=true from by rw [wW,←hyo];simp;omega],hO.below⟩)))
 exact zB 99 [] ((nb.op:Int)=4) (λhq=>absurd hq (h1)) (λ_=>z8 (k:=345) (args:= #[.string (mkS y.text),.bool false]) (v:= .string (mkS (yM false y.text))) [] (λw _=>xY y.text false w Om) (zW 101 [] (x.text++[32,111,114,32]) (yM false y.text) (z7 [] (.string (mkS ((x.text++[32,111,114,32])++(yM false y.text)))) (λw hO=>⟨by rw [text_one,show y.isOne=false from by rw [wW,←hyo];simp;omega],hO.below⟩))))
def wS (l:List Nd)(o:Nat)(t:Tr):Prop:=∀ i x,(t.enc o)[i]?=some x->l[o+i]?=some x
theorem gB {l:List Nd}{o:Nat}{p q:List Nd}(h:∀ i x,(p++q)[i]?=some x->l[o+i]?=some x):∀ i x,p[i]?=some x->l[o+i]?=some x:=λi x hi=>h i x (by rw [List.getElem?_append_left (List.getElem?_eq_some_iff.1 hi).1];exact hi)
theorem kJ {l:List Nd}{o k:Nat}{p q:List Nd}(hk:p.length=k)(h:∀ i x,(p++q)[i]?=some x->l[o+i]?=some x):∀ i x,q[i]?=some x->l[o+k+i]?=some x:=λi x hi=>by
 have:=h (k+i) x (by rw [List.getElem?_append_right Om,hk,Nat.add_sub_cancel_left];exact hi)
 rw [←Nat.add_assoc] at this;exact this
theorem root_op:∀ (t:Tr) (o:Nat),∃ n,(t.enc o)[t.sz-1]?=some n/\n.op=t.opc
 | .is k v,o=>⟨_,rfl,rfl⟩
 | .no x,o=>⟨⟨2,((o+x.sz-1:Nat):Int),0,0,[]⟩,by rw [Tr.enc,List.getElem?_append_right (by rw [Tr.enc_len];show x.sz<=x.sz+1-1;omega),Tr.enc_len];show [_][x.sz+1-1-x.sz]?=_;rw [show x.sz+1-1-x.sz=0 by omega];rfl,rfl⟩
 | .both x y,o=>⟨⟨3,((o+x.sz-1:Nat):Int),((o+x.sz+y.sz-1:Nat):Int),0,[]⟩,by rw [Tr.enc,List.getElem?_append_right (by rw [List.length_append,Tr.enc_len,Tr.enc_len];show x.sz+y.sz<=x.sz+y.sz+1-1;omega),List.length_append,Tr.enc_len,Tr.enc_len];show [_][x.sz+y.sz+1-1-(x.sz+y.sz)]?=_;rw [show x.sz+y.sz+1-1-(x.sz+y.sz)=0 by omega];rfl,rfl⟩
 | .one x y,o=>⟨⟨4,((o+x.sz-1:Nat):Int),((o+x.sz+y.sz-1:Nat):Int),0,[]⟩,by rw [Tr.enc,List.getElem?_append_right (by rw [List.length_append,Tr.enc_len,Tr.enc_len];show x.sz+y.sz<=x.sz+y.sz+1-1;omega),List.length_append,Tr.enc_len,Tr.enc_len];show [_][x.sz+y.sz+1-1-(x.sz+y.sz)]?=_;rw [show x.sz+y.sz+1-1-(x.sz+y.sz)=0 by omega];rfl,rfl⟩
theorem gA {l:List Nd}{o:Nat}{t:Tr}(h:wS l o t):∃ n,l[o+t.sz-1]?=some n/\n.op=t.opc:=by
 obtain ⟨n,h1,h2⟩:=root_op t o
 have hz:=t.sz_pos
 have:=h _ _ h1
 rw [←Nat.add_sub_assoc Om] at this
 exact ⟨n,this,h2⟩
theorem bY {t:Tr}(h:t.ok=true)(hs:t.sz<=1000):t.text.length<=100000:=by have:=w_small t h;have:=t.text_w;omega
theorem word_short {v:List UInt8}(h:wdL v=true):v.length<=12:=by unfold wdL at h;simp only [Bool.and_eq_true,decide_eq_true_eq] at h;omega
theorem wV {A:Option Addr}{cap:Nat}{l:List Nd}(hn:l.length<=1000):∀ (t:Tr) (o:Nat),t.ok=true->wS l o t->t.sz<=1000->jI A cap l (o+t.sz-1) t
 | .is k v,o,h,hs,_=>by
  unfold Tr.ok at h
  simp only [Bool.and_eq_true,decide_eq_true_eq] at h
  exact tx_is hn h.1 (by have:=word_short h.2;omega) (hs 0 _ rfl)
 | .no x,o,h,hs,hz=>by
  have hx:x.ok=true:=h
  have hzx:x.sz+1<=1000:=hz
  have hxz:=x.sz_pos
  have hs1:wS l o x:=gB hs
  have hr:=kJ (k:=x.sz) (Tr.enc_len x o) hs 0 _ rfl
  have ih:=wV (A:=A) (cap:=cap) hn x o hx hs1 Om
  obtain ⟨na,hna,hop⟩:=gA hs1
  rw [Nat.add_zero] at hr
  have goal:jI A cap l (o+x.sz) (.no x):=by
   by_cases hi:∃ k v,x= .is k v
   ·obtain ⟨k,v,rfl⟩:=hi
    unfold Tr.ok at hx
    simp only [Bool.and_eq_true,decide_eq_true_eq] at hx
    exact tx_no_is hn hx.1 (by have:=word_short hx.2;omega) hr (hs1 0 _ rfl)
   ·refine tx_no hn (λk v q=>hi ⟨k,v,q⟩) (bY hx (by omega)) hr hna ih hop ?_ ?_
    ·rw [hop];cases x<;>first|exact absurd ⟨_,_,rfl⟩ hi|(intro q;cases q)
    ·rw [hop];exact opc_14 x
  show jI A cap l (o+(x.sz+1) -1) _
  rw [show o+(x.sz+1) -1=o+x.sz by omega];exact goal
 | .both x y,o,h,hs,hz=>by
  unfold Tr.ok at h
  rw [Bool.and_eq_true] at h
  have hzx:x.sz+y.sz+1<=1000:=hz
  have hs0:∀ i u,(x.enc o++y.enc (o+x.sz))[i]?=some u->l[o+i]?=some u:=gB hs
  have hs1:wS l o x:=gB hs0
  have hs2:wS l (o+x.sz) y:=kJ (Tr.enc_len x o) hs0
  have hr:=kJ (k:=x.sz+y.sz) (by rw [List.length_append,Tr.enc_len,Tr.enc_len]) hs 0 _ rfl
  obtain ⟨na,hna,hop⟩:=gA hs1
  obtain ⟨nb,hnb,hopb⟩:=gA hs2
  have goal:jI A cap l (o+(x.sz+y.sz)+0) (.both x y):=tx_both hn (bY h.1 Om) (bY h.2 Om) hr hna hnb (wV hn x o h.1 hs1 Om) (wV hn y (o+x.sz) h.2 hs2 Om) hop hopb
  show jI A cap l (o+(x.sz+y.sz+1) -1) _
  rw [show o+(x.sz+y.sz+1) -1=o+(x.sz+y.sz)+0 by omega];exact goal
 | .one x y,o,h,hs,hz=>by
  unfold Tr.ok at h
  rw [Bool.and_eq_true] at h
  have hzx:x.sz+y.sz+1<=1000:=hz
  have hs0:∀ i u,(x.enc o++y.enc (o+x.sz))[i]?=some u->l[o+i]?=some u:=gB hs
  have hs1:wS l o x:=gB hs0
  have hs2:wS l (o+x.sz) y:=kJ (Tr.enc_len x o) hs0
  have hr:=kJ (k:=x.sz+y.sz) (by rw [List.length_append,Tr.enc_len,Tr.enc_len]) hs 0 _ rfl
  obtain ⟨na,hna,hop⟩:=gA hs1
  obtain ⟨nb,hnb,hopb⟩:=gA hs2
  have goal:jI A cap l (o+(x.sz+y.sz)+0) (.one x y):=tx_one hn (bY h.1 Om) (bY h.2 Om) hr hna hnb (wV hn x o h.1 hs1 Om) (wV hn y (o+x.sz) h.2 hs2 Om) hop hopb
  show jI A cap l (o+(x.sz+y.sz+1) -1) _
  rw [show o+(x.sz+y.sz+1) -1=o+(x.sz+y.sz)+0 by omega];exact goal
theorem treeB_cases {l:List Nd}(h:fY l=true):l=[]∨∃ t:Tr,t.ok=true/\l=t.enc 0:=by
 unfold fY at h
 cases hr:vE 0 [] l with
 |none=>rw [hr] at h;cases h
 |some s=>
  rw [hr] at h
  simp only [Bool.or_eq_true,decide_eq_true_eq] at h
  rcases h with h|h
  ·exact .inl h
  ·match s,h,hr with
   | [p],_,hr=>
    obtain ⟨l0,hl0,hok,_,e⟩:=run_lies l [] [] [p] rfl hr
    have:l0=[]:=hl0
    subst this
    exact .inr ⟨p.2,hok,e⟩
theorem treeB_enc {t:Tr}(h:t.ok=true):fY (t.enc 0)=true:=by unfold fY;rw [pG t 0 [] h];simp
theorem stands_self (t:Tr):wS (t.enc 0) 0 t:=λi x h=>by rw [Nat.zero_add];exact h
def vD (l:List Nd):List UInt8:=match vZ l with|some t=>t.text|none=>[]
theorem wholeL_enc {t:Tr}(h:t.ok=true):vD (t.enc 0)=t.text:=by unfold vD;rw [fX h]
theorem tO (l:List Nd):dU l=(decide (l.length<=15) && (fY l && decide ((vD l).length<=96))):=by
 cases h:fY l with
 |false=>
  cases hm:dU l with
  |false=>simp
  |true=>
   rcases pO hm with rfl|⟨t,hok,rfl,_,_⟩
   ·cases h
   ·rw [treeB_enc hok] at h;cases h
 |true=>
  rcases treeB_cases h with rfl|⟨t,hok,rfl⟩
  ·rfl
  ·rw [mayM_enc hok,wholeL_enc hok,Tr.enc_len];simp
theorem r10whole_any (A:Option Addr)(cap:Nat)(l:List Nd)(W:World)(hv:Reads nC W W.heap.size A l)(hn:l.length<=1000)(ht:fY l=true):YC 271 #[.slice A l.length cap] W (YR (.string (mkS (vD l))) W):=by
 refine zE Tryz.func271 ?_
 by_cases h1:(l.length:Int)=0
 ·have hl0:l=[]:=List.eq_nil_of_length_eq_zero Om
  refine zB 5 [] ((l.length:Int)=0) (λ_=> ?_) (λhq=>absurd (h1) hq)
  exact z7 [] (.string ⟨#[]⟩) (λw hO=>⟨by rw [show vD l=[] from by rw [hl0];rfl];rfl,hO.below⟩)
 obtain ⟨t,hok,hl⟩:=(treeB_cases ht).resolve_left (λq=>h1 (by rw [q];rfl))
 have hlen:l.length=t.sz:=by rw [hl,Tr.enc_len]
 have hpos:=t.sz_pos
 exact zB 5 [] ((l.length:Int)=0) (λhq=>absurd hq (h1)) (λ_=>x_i 9 [] ((l.length:Int) -1) (z8 (k:=318) (args:= #[.slice A l.length cap,YI ((l.length:Int) -1)]) (v:= .string (mkS t.text)) [] (λw hO=>by have q:=wV (A:=A) (cap:=cap) hn t 0 hok (hl▸stands_self t) Om w (hv.on hO.below hO.size);rw [show ((0+t.sz-1:Nat):Int)=(l.length:Int) -1 by omega] at q;exact q) (z7 [] (.string (mkS t.text)) (λw hO=>⟨by rw [show vD l=t.text from by rw [hl,wholeL_enc hok]],hO.below⟩))))
theorem r10May_any (A:Option Addr)(cap:Nat)(l:List Nd)(W:World)(hv:Reads nC W W.heap.size A l)(hn:l.length<=1000)(ht:∀ n∈l,n.text.length<=1000000):YC 270 #[.agg #[.slice A l.length cap]] W (YR (.bool (dU l)) W):=by
 have hsz:=zQ (vD l)
 refine zE Tryz.func270 (yN [] λb1=> ?_)
 by_cases h1:(l.length:Int)<=15
 ·refine zB 6 [0] ((l.length:Int)<=15) (λ_=> ?_) (λhq=>absurd (h1) hq)
  refine z8 (k:=317) (args:= #[.slice A l.length cap]) (v:= .bool (fY l)) [0] (λw hO=>r10tree_any A cap l w (hv.on hO.below hO.size) hn ht) ?_
  cases h2:fY l with
  |true=>
   refine z8 (k:=271) (args:= #[.slice A l.length cap]) (v:= .string (mkS (vD l))) [0] (λw hO=>r10whole_any A cap l w (hv.on hO.below hO.size) hn h2) ?_
   by_cases h3:((mkS (vD l)).size:Int)<=96
   ·refine zB 17 [] (((mkS (vD l)).size:Int)<=96) (λ_=> ?_) (λhq=>absurd (h3) hq)
    exact z7 [] Z4 (λw hO=>⟨by rw [tO];simp [h1,h2,h3,zQ];try omega,hO.below⟩)
   exact zB 17 [] (((mkS (vD l)).size:Int)<=96) (λhq=>absurd hq (h3)) (λ_=>z7 [] Z5 (λw hO=>⟨by rw [tO];simp [h1,h2,h3,zQ];try omega,hO.below⟩))
  |false=>
   exact z7 [] Z5 (λw hO=>⟨by rw [tO];simp [h1,h2,zQ];try omega,hO.below⟩)
 exact zB 6 [0] ((l.length:Int)<=15) (λhq=>absurd hq (h1)) (λ_=>z7 [] Z5 (λw hO=>⟨by rw [tO];simp [h1,zQ];try omega,hO.below⟩))
end
section
set_option linter.unnecessarySimpa false
def valN (e:Pf)(n:Nd)(vs:List Int):Int:=
 if n.op=1 then (if e n.key.toNat=[] then 1 else if e n.key.toNat=n.text then 2 else 0)
 else if n.op=2 then 2-vs.getD n.a.toNat 0
 else if n.op=3 then min (vs.getD n.a.toNat 0) (vs.getD n.b.toNat 0) else max (vs.getD n.a.toNat 0) (vs.getD n.b.toNat 0)
structure NdOk (n:Nd)(m:Nat):Prop where
 is:n.op=1->0<=n.key/\n.key<3
 a:n.op≠1->0<=n.a/\n.a<m
 b:n.op≠1->n.op≠2->0<=n.b/\n.b<m
end
section
set_option linter.unnecessarySimpa false
theorem Own.lentR {ob R:List Blk}{M:List Nat}{W w:World}(h:Own M W w (R++ob)):Own (ob.map Blk.b) w w ob:=Own.lend (h.sublist (List.sublist_append_right _ _))
end
section
set_option linter.unnecessarySimpa false
def VStands (e:Pf)(vs:List Int)(o:Nat)(t:Tr):Prop:=∀ i z,(vlT e t)[i]?=some z->vs[o+i]?=some z
theorem nd_dec (u v:Nd):decide (u=v)=(decide (u.op=v.op) && (decide (u.a=v.a) && (decide (u.b=v.b) && (decide (u.key=v.key) && decide (u.text=v.text))))):=by
 obtain ⟨a,b,c,d,e⟩:=u
 obtain ⟨a',b',c',d',e'⟩:=v
 simp only [Nd.mk.injEq,Bool.decide_and]
theorem eq_nd (u v:Nd)(d:Nat)(w:World):(Op.equalIn (d+1+1) 275 (ndV u) (ndV v)).run Tryz.prog w= .ok (decide (u=v)) w:=by
  have h:=eq_agg (P:=Tryz.prog) (d:=d+1) (t:=275) (xs:=(ndV u).cells) (ys:=(ndV v).cells) (bs:=[u.op==v.op,u.a==v.a,u.b==v.b,u.key==v.key,(mkS u.text).toList==(mkS v.text).toList]) Tryz.underlying275 Kr
    ⟨by decide,⟨YI u.op,YI v.op,λw=>⟨by kernel_rfl,by kernel_rfl,run_equalIn_int w d _ _ _ _ _ Tryz.underlying3⟩⟩,
     by decide,⟨YI u.a,YI v.a,λw=>⟨by kernel_rfl,by kernel_rfl,run_equalIn_int w d _ _ _ _ _ Tryz.underlying3⟩⟩,
     by decide,⟨YI u.b,YI v.b,λw=>⟨by kernel_rfl,by kernel_rfl,run_equalIn_int w d _ _ _ _ _ Tryz.underlying3⟩⟩,
     by decide,⟨YI u.key,YI v.key,λw=>⟨by kernel_rfl,by kernel_rfl,run_equalIn_int w d _ _ _ _ _ Tryz.underlying3⟩⟩,
     by decide,⟨.string (mkS u.text),.string (mkS v.text),λw=>⟨by kernel_rfl,by kernel_rfl,run_equalIn_string w d _ _ _ Tryz.underlying9⟩⟩,trivial⟩ w
  rw [all5,str_beq,int_beq,int_beq,int_beq,int_beq,←nd_dec] at h
  exact h
theorem guard_nd:Tryz.prog.eqGuardType Tryz.prog.depth 275=false:=by kernel_rfl
theorem nM {ρ:Operand->Value}{o:Oper}{t':TypeId}{x y:Operand}{u v:Nd}{b:Bool}(ho:o.op= .binOp .neq 275 x y t')(hx:ρ x=ndV u)(hy:ρ y=ndV v)(hb:decide (u=v)=b)(w:World):(execOp ρ o).run Tryz.prog w= .ok (.value (.bool (!b))) w:=
 run_ne_op ho hx hy guard_nd (λw=>hb▸eq_nd u v 9998 w) w
end
section
set_option linter.unnecessarySimpa false
def Rd (b:Nat)(A:Option Addr)(cap:Nat)(ws:List Tok)(ts:List Tok)(nd:List Nd)(bad:Bool)(ob:List Blk):Prop:=
 ∃ pre C cc g,ws=pre++ts/\ob=⟨b, #[.slice A ws.length cap,YI ((pre.length:Nat):Int),.slice C nd.length cc,.bool bad],285⟩::g/\SlN (.slice C nd.length cc) nd g
structure Lent (B b:Nat)(A:Option Addr)(cap:Nat)(ws ts:List Tok)(nd:List Nd)(bad:Bool)(ob:List Blk)(W:World):Prop where
 rd:Rd b A cap ws ts nd bad ob
 own:Own (ob.map Blk.b) W W ob
 ge:∀ x∈ob,B<=x.b
 le:B<=W.heap.size
 words:Reads yV W B A ws
 short:∀ x∈ws,x.length<=1000000
 few:ws.length<=10000
 small:nd.length+ts.length<=10000
structure Back (b:Nat)(A:Option Addr)(cap:Nat)(ws ts:List Tok)(nd:List Nd)(bad:Bool)(ob ob':List Blk)(W w':World):Prop where
 rd:Rd b A cap ws ts nd bad ob'
 own:Own (ob.map Blk.b) W w' ob'
def kD (x:Tok)(ts:List Tok):Bool:=decide (ts.head?=some x)
def jR (x:Tok)(ts:List Tok):List Tok:=if kD x ts then ts.tail else ts
theorem next_yes {x:Tok}{r:List Tok}:kD x (x::r)=true/\jR x (x::r)=r:=by
 have h:kD x (x::r)=true:=by unfold kD;simp
 exact ⟨h,by unfold jR;rw [h];rfl⟩
theorem vT {x:Tok}{ts:List Tok}(h:ts.head?≠some x):kD x ts=false/\jR x ts=ts:=by
 have h1:kD x ts=false:=decide_eq_false h
 exact ⟨h1,by unfold jR;rw [h1];rfl⟩
theorem r10next_any {B b:Nat}{A:Option Addr}{cap:Nat}{ws ts:List Tok}{nd:List Nd}{bad:Bool}{ob:List Blk}{W:World}(hL:Lent B b A cap ws ts nd bad ob W)(x:Tok):YC 315 #[.pointer (some ⟨b,0,none⟩),.string (mkS x)] W λe w'=>∃ ob',e= .returned (.bool (kD x ts))/\Back b A cap ws (jR x ts) nd bad ob ob' W w':=by
 have hM':=gQ hL.ge
 have hBW:=hL.le
 have hw:=hL.words
 have hfw:=hL.few
 have hO:=hL.own
 obtain ⟨pre,C,cc,g,hws,rfl,hsl⟩:=hL.rd
 have hwl:ws.length=pre.length+ts.length:=by rw [hws,List.length_append]
 by_cases h1:((pre.length:Nat):Int)<(ws.length:Int)
 ·obtain ⟨c,r,rfl⟩:∃ c r,ts=c::r:=by cases ts with|nil=>simp at hwl;omega|cons c r=>exact ⟨c,r,rfl⟩
  obtain ⟨bp,off,hA,hlt,hcell⟩:=hw Om
  have hc:∀ h:pre.length<ws.length,ws[pre.length]=c:=by subst hws;intro h;simp
  have hld:∀ w,Own ((⟨b, #[.slice A ws.length cap,YI ((pre.length:Nat):Int),.slice C nd.length cc,.bool bad],285⟩::g).map Blk.b) W w []->(loadVar 9 ⟨bp,off+pre.length*1,none⟩).run Tryz.prog w= .ok (.string (mkS c)) w:=λw hO=>Reads.load zX (hw.on (hO.belowB hM' hBW) (Nat.le_refl _)) hA pre.length 0 Om Om _ (by rw [hc];kernel_rfl)
  refine zN hO Tryz.func315 (zB 14 [0,0] (((pre.length:Nat):Int)<(ws.length:Int)) (λ_=>zJ 24 [0,0] hA ws.length cap pre.length 1 (by omega) (zH 25 [] 9 bp (off+pre.length*1) (.string (mkS c)) (λw hO=>hld w hO.no) (x2 27 [] c x (λh2=> ?_) (λh2=> ?_)))) (λh=>absurd h1 h))
  ·subst h2;exact x_i 33 [0] ((pre.length+1:Nat):Int) (z7 [0] (.bool true) (λw hO=>⟨⟨b, #[.slice A ws.length cap,YI ((pre.length+1:Nat):Int),.slice C nd.length cc,.bool bad],285⟩::g,congrArg (λz=>Ending.returned (.bool z)) next_yes.1.symm,⟨by rw [next_yes.2];exact ⟨pre++[c],C,cc,g,by rw [hws];simp,by rw [show (pre++[c]).length=pre.length+1 from by simp],hsl⟩,hO.past 0 (⟨b, #[.slice A ws.length cap,YI ((pre.length+1:Nat):Int),.slice C nd.length cc,.bool bad],285⟩::g)⟩⟩))
  ·have hn:=vT (x:=x) (ts:=c::r) (by simp;exact h2)
   exact z7 [] Z5 (λw hO=>⟨⟨b, #[.slice A ws.length cap,YI ((pre.length:Nat):Int),.slice C nd.length cc,.bool bad],285⟩::g,congrArg (λz=>Ending.returned (.bool z)) hn.1.symm,⟨by rw [hn.2];exact ⟨pre,C,cc,g,hws,rfl,hsl⟩,hO.past 0 (⟨b, #[.slice A ws.length cap,YI ((pre.length:Nat):Int),.slice C nd.length cc,.bool bad],285⟩::g)⟩⟩)
 ·obtain rfl:ts=[]:=by cases ts with|nil=>rfl|cons c r=>simp at hwl;omega
  have hn:=vT (x:=x) (ts:=([]:List Tok)) (by simp)
  exact zN hO Tryz.func315 (zB 14 [0,0] (((pre.length:Nat):Int)<(ws.length:Int)) (λh=>absurd h h1) (λ_=>z7 [] Z5 (λw hO=>⟨⟨b, #[.slice A ws.length cap,YI ((pre.length:Nat):Int),.slice C nd.length cc,.bool bad],285⟩::g,congrArg (λz=>Ending.returned (.bool z)) hn.1.symm,⟨by rw [hn.2];exact ⟨pre,C,cc,g,hws,rfl,hsl⟩,hO.past 0 (⟨b, #[.slice A ws.length cap,YI ((pre.length:Nat):Int),.slice C nd.length cc,.bool bad],285⟩::g)⟩⟩)))
theorem r10take_any {B b:Nat}{A:Option Addr}{cap:Nat}{ws ts:List Tok}{nd:List Nd}{bad:Bool}{ob:List Blk}{W:World}(hL:Lent B b A cap ws ts nd bad ob W):YC 362 #[.pointer (some ⟨b,0,none⟩)] W λe w'=>∃ ob',e= .returned (.string (mkS (ts.headD [])))/\Back b A cap ws ts.tail nd (bad||decide (ts=[])) ob ob' W w':=by
 have hM':=gQ hL.ge
 have hBW:=hL.le
 have hw:=hL.words
 have hfw:=hL.few
 have hO:=hL.own
 obtain ⟨pre,C,cc,g,hws,rfl,hsl⟩:=hL.rd
 have hwl:ws.length=pre.length+ts.length:=by rw [hws,List.length_append]
 by_cases h1:(ws.length:Int)<=((pre.length:Nat):Int)
 ·obtain rfl:ts=[]:=by cases ts with|nil=>rfl|cons c r=>simp at hwl;omega
  exact zN hO Tryz.func362 (zB 12 [0,0] ((ws.length:Int)<=((pre.length:Nat):Int)) (λ_=>z7 [0] (.string (mkS [])) (λw hO=>⟨⟨b, #[.slice A ws.length cap,YI ((pre.length:Nat):Int),.slice C nd.length cc,.bool true],285⟩::g,rfl,⟨by rw [show (bad||decide (([]:List Tok)=[]))=true from by simp];exact ⟨pre,C,cc,g,hws,rfl,hsl⟩,hO.past 0 (⟨b, #[.slice A ws.length cap,YI ((pre.length:Nat):Int),.slice C nd.length cc,.bool true],285⟩::g)⟩⟩)) (λh=>absurd h1 h))
 ·obtain ⟨c,r,rfl⟩:∃ c r,ts=c::r:=by cases ts with|nil=>simp at hwl;omega|cons c r=>exact ⟨c,r,rfl⟩
  obtain ⟨bp,off,hA,hlt,hcell⟩:=hw Om
  have hc:∀ h:pre.length<ws.length,ws[pre.length]=c:=by subst hws;intro h;simp
  have hld:∀ w,Own ((⟨b, #[.slice A ws.length cap,YI ((pre.length:Nat):Int),.slice C nd.length cc,.bool bad],285⟩::g).map Blk.b) W w []->(loadVar 9 ⟨bp,off+pre.length*1,none⟩).run Tryz.prog w= .ok (.string (mkS c)) w:=λw hO=>Reads.load zX (hw.on (hO.belowB hM' hBW) (Nat.le_refl _)) hA pre.length 0 Om Om _ (by rw [hc];kernel_rfl)
  exact zN hO Tryz.func362 (zB 12 [0,0] ((ws.length:Int)<=((pre.length:Nat):Int)) (λh=>absurd h h1) (λ_=>x_i 20 [0] ((pre.length+1:Nat):Int) (x_i 31 [0,0,0] (((pre.length+1:Nat):Int) -1) (vY 32 [] hA ws.length cap (((pre.length+1:Nat):Int) -1) 1 (off+pre.length*1) Om (zH 33 [] 9 bp (off+pre.length*1) (.string (mkS c)) (λw hO=>hld w hO.no) (z7 [] (.string (mkS c)) (λw hO=>⟨⟨b, #[.slice A ws.length cap,YI ((pre.length+1:Nat):Int),.slice C nd.length cc,.bool bad],285⟩::g,rfl,⟨by rw [show (bad||decide ((c::r)=([]:List Tok)))=bad from by simp];exact ⟨pre++[c],C,cc,g,by rw [hws];simp,by rw [show (pre++[c]).length=pre.length+1 from by simp],hsl⟩,hO.past 0 (⟨b, #[.slice A ws.length cap,YI ((pre.length+1:Nat):Int),.slice C nd.length cc,.bool bad],285⟩::g)⟩⟩)))))))
theorem r10put_any {B b:Nat}{A:Option Addr}{cap:Nat}{ws ts:List Tok}{nd:List Nd}{bad:Bool}{ob:List Blk}{W:World}(hL:Lent B b A cap ws ts nd bad ob W)(n:Nd)(hn9:nd.length<=1000000):YC 316 #[.pointer (some ⟨b,0,none⟩),ndV n] W λe w'=>∃ ob',e= .returned (YI (nd.length:Int))/\Back b A cap ws ts (nd++[n]) bad ob ob' W w':=by
 have hO:=hL.own
 have hsm:=hL.small
 obtain ⟨pre,C,cc,g,hws,rfl,hsl⟩:=hL.rd
 have hnl:(nd++[n]).length=nd.length+1:=by simp
 refine zN hO Tryz.func316 (yN [] λb1=>gY 8 [] [⟨b1,(ndV n).cells,275⟩,⟨b, #[.slice A ws.length cap,YI ((pre.length:Nat):Int),.slice C nd.length cc,.bool bad],285⟩] (λw hO=>(hO.past 0 (⟨b1,(ndV n).cells,275⟩::⟨b, #[.slice A ws.length cap,YI ((pre.length:Nat):Int),.slice C nd.length cc,.bool bad],285⟩::g)).sublist (by simp)) (kY [1,0] 6 (fE 1 275 (ndV n).cells λb2=>kY [] 7 (p7 (m:=1) (cp:=1) [⟨b2,(ndV n).cells,275⟩,⟨b1,(ndV n).cells,275⟩,⟨b, #[.slice A ws.length cap,YI ((pre.length:Nat):Int),.slice C nd.length cc,.bool bad],285⟩] g [] 0 (⟨b2,(ndV n).cells,275⟩::⟨b1,(ndV n).cells,275⟩::⟨b, #[.slice A ws.length cap,YI ((pre.length:Nat):Int),.slice C nd.length cc,.bool bad],285⟩::g) [⟨b1,(ndV n).cells,275⟩,⟨b, #[.slice A ws.length cap,YI ((pre.length:Nat):Int),.slice C nd.length cc,.bool bad],285⟩] (λw hO=>hO.cast (by simp)) (λo w hO=>hO.sublist (List.Sublist.cons _ (List.Sublist.cons_cons _ (List.Sublist.cons_cons _ (List.nil_sublist _))))) hsl Om λv' ob' h=> ?_))))
 obtain ⟨B2,cb2,rfl⟩:=h.form
 exact x_i 20 [2,2] (((nd.length+1:Nat):Int) -1) (z7 [] (YI (((nd.length+1:Nat):Int) -1)) (λw hO=>⟨⟨b, #[.slice A ws.length cap,YI ((pre.length:Nat):Int),.slice B2 (nd.length+1) cb2,.bool bad],285⟩::ob',by rw [show (nd.length:Int)=((nd.length+1:Nat):Int) -1 from by omega],⟨⟨pre,B2,cb2,ob',hws,by rw [hnl],by rw [hnl];exact SlN.add h⟩,(hO.past 2 (⟨b, #[.slice A ws.length cap,YI ((pre.length:Nat):Int),.slice B2 (nd.length+1) cb2,.bool bad],285⟩::(ob'++[]))).cast (by simp)⟩⟩))
end
end Go.Proofs.YteghandhpbmpgaaGreatDoor
