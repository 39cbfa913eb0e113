/-
 What the statement's proof leans on: the ways of walking, plain mathematics, and what the program's functions return; each theorem says on what conditions.
-/
import Derived.Lib.AppendStr
import Derived.Shelf.Strings.Builder1
import Derived.Shelf.Strings.Builder2
import Derived.Shelf.Strings.OnBuilder
import Derived.Shelf.Strings.Trim
import Derived.Shelf.Small.Utf8
import Derived.Shelf.Small.Bits
import Derived.Shelf.Small.Strs
import Derived.Shelf.Small.Wraps
import Derived.Shelf.Strings.BuilderF
import Derived.Shelf.Strings.BuilderK
import Derived.Shelf.Strings.Builder2Cap
import Derived.Shelf.Strconv.Itoa0
import Derived.Shelf.Strconv.Itoa1
import Derived.Shelf.LaysM
import Derived.Shelf.Strconv.Itoa2
import Derived.Shelf.Strconv.Itoa3
import Derived.Shelf.Strconv.Clone
import Derived.Shelf.Strings.Search1
import Derived.Shelf.Strings.Search2
import Derived.Shelf.Strings.Search3
import Derived.Shelf.Strings.Cut
import Derived.Shelf.Strings.Count
import Derived.Shelf.Strings.Shaped
import Derived.Shelf.Strings.Prefix
import Derived.Shelf.Strings.Split
import Derived.Shelf.Strings.SplitShaped
import Derived.Shelf.Unicode.Decode
import Derived.Shelf.Strings.Runes
import Derived.Shelf.Strings.RuneCount
import Derived.Shelf.Strings.AsciiSet
import Derived.Shelf.Strings.Explode
import Derived.Shelf.Unicode.DecodeSlow
import Derived.Shelf.Strings.BuilderCap
import Derived.Ground.SlgnProg
import Derived.Shelf.SlicesE.Equal
import Derived.Ground.SlgqProg
import Derived.Shelf.SlicesQ.Equal
import Derived.Ground.SlgfProg
import Derived.Shelf.SlicesQ.IndexFunc
import Derived.Ground.SlsfProg
import Derived.Shelf.SlSortCmp.Insertion
import Derived.Shelf.SlSortCmp.SiftDown1
import Derived.Shelf.SlSortCmp.HeapSort1
import Derived.Shelf.SlSortCmp.Insertion1
import Derived.Shelf.SlSortCmp.Median1
import Derived.Shelf.SlSortCmp.Pivot1
import Derived.Shelf.SlSortCmp.ReverseRange1
import Derived.Shelf.SlSortCmp.PartialInsertion1
import Derived.Shelf.SlSortCmp.PartitionEqual1
import Derived.Shelf.SlSortCmp.Partition1
import Derived.Test.YteghandhpbmpgaaGreatDoorProg
import Derived.Shelf.RegionOpenPlain
import Derived.IntWalk
import Derived.Lib.Strings
import Derived.Laws.Rows
import Derived.Outline
import Derived.Deep.LoopGhost
import Derived.Lib.OthersKept
import Derived.Lib.Slices
import Derived.Lib.Walk
import Derived.Lib.Builder
import Derived.Lib.UnsafeStr
import Derived.WalkKit
import Derived.Laws.Externs
import Derived.Lib.AppendIntMem
import Derived.Lib.ItoaLen
import Derived.Lib.SliceRun
import Derived.Lib.Small
import Derived.Deep.RegionHeld3
import Derived.StillTailTactics
import Derived.Laws.StructEq
import Derived.WalkLawsBesides
import Derived.Test.YteghandhpbmpgaaGreatDoorSA1
set_option maxRecDepth 1000000
set_option maxHeartbeats 8000000
set_option linter.unusedVariables false
set_option linter.unusedSimpArgs false
set_option linter.unnecessarySimpa false
namespace Go.Proofs.YteghandhpbmpgaaGreatDoor
open Go.RowKit

section
def oT (o:Oper):TypeId:=match o.op with
 | .index t _ _=>t
 | .indexAddr t _ _=>t
 | .binOp _ t _ _ _=>t
 | .load t _=>t
 |_=>0
def oU (o:Oper):TypeId:=match o.op with
 | .binOp _ _ _ _ t=>t
 |_=>0
def oX (o:Oper):Operand:=match o.op with
 | .index _ x _=>x
 | .indexAddr _ x _=>x
 | .binOp _ _ x _ _=>x
 | .load _ x=>x
 |_=> .tmp 0
def oY (o:Oper):Operand:=match o.op with
 | .index _ _ y=>y
 | .indexAddr _ _ y=>y
 | .binOp _ _ _ y _=>y
 |_=> .tmp 0
def xAg:Value->Array Value
 | .agg vs=>vs
 |_=> #[]
def xEl (P:Program)(t:TypeId):TypeId:=match P.underlying t with
 |some (.array _ e)=>e
 |some (.slice e)=>e
 |_=>0
def xW (n:Nat)(c:Xc):Bool:=match c.top with
 | .ops a (o::_)=>zM a n c.f o
 | .qps a (o::_)=>zM a n c.f o
 |_=>false
section
variable {M:List Nat}{P:Program}{n:Nat}{W:World}{Q:Exit->Act->World->Prop}{c:Xc}
theorem vV (t:Nat)(h:List Nat)(v0 v:Value)(e:v0=v)(hg:zA M P n W Q ((xgo P n t h c).st t v))(hkt:(xgl P n t h c,(xgo P n t h c).f t)=(xgr P n t h c,v0):=by kernel_rfl):zA M P n W Q c:=by
 obtain ⟨hk,hv⟩:=Prod.mk.inj hkt
 exact fR t h v (hv.trans e) hg hk
theorem x_i (t:Nat)(h:List Nat)(z:Int)(hg:zA M P n W Q ((xgo P n t h c).st t (YI z)))(hz: -9223372036854775808<=z/\z<=9223372036854775807:=by omega)
  (hkt:(xgl P n t h c,(xgo P n t h c).f t)=(xgr P n t h c,YI (IntKind.i64.wrap z)):=by kernel_rfl):zA M P n W Q c:=by
 obtain ⟨hk,hv⟩:=Prod.mk.inj hkt
 exact x_sum t h z (IntWalk.i64_in _ hz) hg hkt
theorem Own.nth {L:List Blk}{w:World}(i:Nat)(x:Blk)(hO:Own M W w L)(h:L[i]?=some x:=by kernel_rfl):Own M W w [x]:=hO.take (λy hy=>by rw [List.mem_singleton.1 hy];exact List.mem_of_getElem? h) (by simp)
theorem Own.past {L:List Blk}{w:World}(i:Nat)(L':List Blk)(hO:Own M W w L)(h:L.drop i=L':=by kernel_rfl):Own M W w L':=by
 rw [←h]
 exact Own.sub (L.take i) (by rw [List.take_append_drop];exact hO)
theorem Own.cast {L L':List Blk}{w:World}(hO:Own M W w L)(e:L=L'):Own M W w L':=e▸hO
theorem Own.no {L:List Blk}{w:World}(hO:Own M W w L):Own M W w []:=hO.take (λy hy=>by simp at hy) (by simp)
theorem yZ {v:Value}(hw:xW n c=true)(hr:∀ w,(execOp (ev n c.f) (xO c)).run P w= .ok (.value v) w)(hg:zA M P n W Q (c.put v)):zA M P n W Q c:=by
 obtain ⟨top,kk,L,f⟩:=c
 unfold xW at hw
 unfold Xc.put at hg
 cases top with
 |ops a r=>cases r with
  |nil=>cases hw
  |cons o r=>exact ⟨λhq=>gB v hw hr (hg.go hq)⟩
 |qps a r=>cases r with
  |nil=>cases hw
  |cons o r=>exact ⟨λhq=>q_val v hw hr (hg.go hq)⟩
 |_=>cases hw
theorem x_val (d:Nat)(h:List Nat)(v:Value)(hr:∀ w,(execOp (ev n (xgo P n (d+50000) h c).f) (xO (xgo P n (d+50000) h c))).run P w= .ok (.value v) w)(hg:zA M P n W Q ((xgo P n (d+50000) h c).put v))
  (hkt:(xgl P n (d+50000) h c,xW n (xgo P n (d+50000) h c))=(xgr P n (d+50000) h c,true):=by kernel_rfl):zA M P n W Q c:=by
 obtain ⟨hk,hw⟩:=Prod.mk.inj hkt
 exact zJ h c hk (yZ hw hr hg)
theorem x_idx (d:Nat)(h:List Nat)(g:Nat->List UInt8)(k N:Nat)(hN:k<N)(hg:zA M P n W Q ((xgo P n (d+50000) h c).put (.string (mkS (g k)))))
  (hk:xgl P n (d+50000) h c=xgr P n (d+50000) h c:=by kernel_rfl)
  (hp:((List.range N).map λi=>λw=>(part (xEl P (oT (xO (xgo P n (d+50000) h c)))) (xAg (ev n (xgo P n (d+50000) h c).f (oX (xO (xgo P n (d+50000) h c))))) i).run P w)=(List.range N).map λi=>(λw=> .ok (.string (mkS (g i))) w):=by kernel_rfl)
  (ht:(xW n (xgo P n (d+50000) h c),(xO (xgo P n (d+50000) h c)).op,ev n (xgo P n (d+50000) h c).f (oX (xO (xgo P n (d+50000) h c))),ev n (xgo P n (d+50000) h c).f (oY (xO (xgo P n (d+50000) h c))),P.underlying (oT (xO (xgo P n (d+50000) h c))),(P.info? (xEl P (oT (xO (xgo P n (d+50000) h c))))).map (·.size))
   =(true,.index (oT (xO (xgo P n (d+50000) h c))) (oX (xO (xgo P n (d+50000) h c))) (oY (xO (xgo P n (d+50000) h c))),.agg (xAg (ev n (xgo P n (d+50000) h c).f (oX (xO (xgo P n (d+50000) h c))))),YI (k:Int),some (.array N (xEl P (oT (xO (xgo P n (d+50000) h c))))),some 1):=by kernel_rfl):zA M P n W Q c:=by
 simp only [Prod.mk.injEq] at ht
 obtain ⟨e1,e2,e3,e4,e5,e6⟩:=ht
 refine zJ h c hk (yZ e1 (tA g hN e2 e3 e4 e5 (λi hi w=> ?_) e6) hg)
 have:=congrFun (List.map_inj_left.1 hp i (List.mem_range.2 hi)) w
 exact this
theorem gX (d:Nat)(h:List Nat)(a b:List UInt8)(hg:zA M P n W Q ((xgo P n (d+50000) h c).put (.string (mkS (a++b)))))(hb:a.length+b.length<=4000000000:=by (try simp only [List.length_append,List.length_cons,List.length_nil]);omega)
  (hkt:(xgl P n (d+50000) h c,(xW n (xgo P n (d+50000) h c),(xO (xgo P n (d+50000) h c)).op,ev n (xgo P n (d+50000) h c).f (oX (xO (xgo P n (d+50000) h c))),ev n (xgo P n (d+50000) h c).f (oY (xO (xgo P n (d+50000) h c)))))=(xgr P n (d+50000) h c,(true,.binOp .add (oT (xO (xgo P n (d+50000) h c))) (oX (xO (xgo P n (d+50000) h c))) (oY (xO (xgo P n (d+50000) h c))) (oU (xO (xgo P n (d+50000) h c))),.string (mkS a),.string (mkS b))):=by kernel_rfl):zA M P n W Q c:=by
 obtain ⟨hk,ht⟩:=Prod.mk.inj hkt
 simp only [Prod.mk.injEq] at ht
 exact zJ h c hk (yZ ht.1 (f7 ht.2.1 ht.2.2.1 ht.2.2.2 hb) hg)
def xPb:Value->Nat
 | .pointer (some a)=>a.block
 |_=>0
def xOi (i:Nat)(c:Xc):Oper:=(xA c).getD i default
def xHn (c:Xc)(i:Nat)(v:Value):Xc:=⟨.hps (xA c) ((xS c).setIfInBounds i true) (xU c) (xL0 c),c.k,c.L,upd c.f (xOi i c).dst v⟩
def pV (n:Nat)(i:Nat)(c:Xc):XTop×Option Oper×Bool×Bool×Bool×Bool:=
 (c.top,(xA c)[i]?,zM (xA c) n c.f (xOi i c),Region.noSelect (xA c),Region.free .any (xA c) (xS c) i,(Region.ready .any (xA c) (xS c)).contains i)
def dW (i:Nat)(c:Xc):XTop×Option Oper×Bool×Bool×Bool×Bool:=(.hps (xA c) (xS c) (xU c+1) (xL0 c),some (xOi i c),true,true,true,true)
theorem xtake {i:Nat}{v:Value}(hv:∀ w,Own M W w (xL0 c)->(execOp (ev n c.f) (xOi i c)).run P w= .ok (.value v) w)(hg:zA M P n W Q (xHn c i v))(hf:pV n i c=dW i c):zA M P n W Q c:=by
 simp only [pV,dW,Prod.mk.injEq] at hf
 obtain ⟨e1,e2,e3,e4,e5,e6⟩:=hf
 have:c=⟨.hps (xA c) (xS c) (xU c+1) (xL0 c),c.k,c.L,c.f⟩:=by rw [←e1]
 rw [this]
 exact ⟨λhq hs=>hl_take i _ v e2 e4 e5 e6 (tB hq c.k) hs e3 hv (hg.go hq hs)⟩
theorem xh_ixa (t:Nat)(h:List Nat)(i N k sz:Nat)(hN:k<N)(hg:zA M P n W Q (xHn (xgo P n t h c) i (.pointer (some ⟨xPb (ev n (xgo P n t h c).f (oX (xOi i (xgo P n t h c)))),xOff (ev n (xgo P n t h c).f (oX (xOi i (xgo P n t h c))))+(k:Int).toNat*sz,none⟩))))
  (hkt:(xgl P n t h c,pV n i (xgo P n t h c),(xOi i (xgo P n t h c)).op,ev n (xgo P n t h c).f (oX (xOi i (xgo P n t h c))),ev n (xgo P n t h c).f (oY (xOi i (xgo P n t h c))),P.underlying (oT (xOi i (xgo P n t h c))),(P.info? (xEl P (oT (xOi i (xgo P n t h c))))).map (·.size))
   =(xgr P n t h c,dW i (xgo P n t h c),.indexAddr (oT (xOi i (xgo P n t h c))) (oX (xOi i (xgo P n t h c))) (oY (xOi i (xgo P n t h c))),.pointer (some ⟨xPb (ev n (xgo P n t h c).f (oX (xOi i (xgo P n t h c)))),xOff (ev n (xgo P n t h c).f (oX (xOi i (xgo P n t h c)))),none⟩),YI (k:Int),some (.array N (xEl P (oT (xOi i (xgo P n t h c))))),some sz):=by kernel_rfl):zA M P n W Q c:=by
 simp only [Prod.mk.injEq] at hkt
 obtain ⟨hk,e1,e2,e3,e4,e5,e6⟩:=hkt
 exact zJ h c hk (xtake (λw _=>run_ixarr e2 e3 e4 e5 e6 Om Om rfl w) hg e1)
theorem xh_ldk (t:Nat)(h:List Nat)(i q:Nat)(cs:Array Value)(off:Nat)(ty:TypeId)(v:Value)(hv:yH P ty cs off=some v)(hg:zA M P n W Q (xHn (xgo P n t h c) i v))
  (hkt:(xgl P n t h c,pV n i (xgo P n t h c),(xOi i (xgo P n t h c)).op,(xL0 (xgo P n t h c))[q]?,(xG (xL0 (xgo P n t h c)) q).cs,ev n (xgo P n t h c).f (oX (xOi i (xgo P n t h c))))
   =(xgr P n t h c,dW i (xgo P n t h c),.load ty (oX (xOi i (xgo P n t h c))),some (xG (xL0 (xgo P n t h c)) q),cs,.pointer (some ⟨(xG (xL0 (xgo P n t h c)) q).b,off,none⟩)):=by kernel_rfl):zA M P n W Q c:=by
 simp only [Prod.mk.injEq] at hkt
 obtain ⟨hk,e1,e2,e3,e4,e5⟩:=hkt
 exact zJ h c hk (xtake (λw hO=>gC e2 e5 (yQ (by rw [e4];exact hv) (hO.get e3))) hg e1)
def aT (o:Oper):TypeId:=match o.op with
 | .call c=>c.argTypes.getD 0 0
 |_=>0
def aX (o:Oper)(i:Nat):Operand:=match o.op with
 | .call c=>c.args.getD i (.tmp 0)
 |_=> .tmp 0
def aOp (o:Oper):Op:= .call {callee:= .builtin .append,args:= #[aX o 0,aX o 1],argTypes:= #[aT o,aT o]}
def aInfo (P:Program)(T:TypeId):Option (Bool×Nat×Option Nat):=(P.info? T).map λi=>(Nat.ble i.bytes 1000000,i.size,i.zero.map λz=>z.cells.size)
def aNext (c:Xc)(L:List Blk)(v:Value):Xc:=⟨.hps (xA c) ((hS c).setIfInBounds (hI c) true) (hU c) (hL c),c.k,L,upd c.f (xO c).dst v⟩
theorem tN {ops:Array Oper}{L L' L0:List Blk}{u i:Nat}{s:Array Bool}{f:Nat->Value}(hs:∀ w,Own M W w L->Own M W w L')(h:bD M P n ops W L0 Q u s i L' f):bD M P n ops W L0 Q u s i L f:=⟨λw hO=>h.go w (hs w hO)⟩
theorem bB {T:TypeId}{sz:Nat}(h:aInfo P T=some (true,sz,some sz)):∃ i z,P.info? T=some i/\i.zero=some z/\i.size=sz/\z.cells.size=sz/\i.bytes<=1000000:=by
 unfold aInfo at h
 cases hi:P.info? T with
 |none=>rw [hi] at h;cases h
 |some i=>
  rw [hi] at h
  simp only [Option.map_some,Option.some.injEq,Prod.mk.injEq] at h
  obtain ⟨h1,h2,h3⟩:=h
  cases hz:i.zero with
  |none=>rw [hz] at h3;cases h3
  |some z=>rw [hz] at h3;exact ⟨i,z,rfl,hz,h2,Option.some.inj h3,Nat.le_of_ble_eq_true h1⟩
theorem qS {T:TypeId}{sz k m cp:Nat}{v:Value}{xs:List Value}(E ob R:List Blk)(q:Nat)(L1 L0:List Blk)(hs:∀ w,Own M W w L1->Own M W w (E++ob++R))(hsub:∀ ob' w,Own M W w (E++ob'++R)->Own M W w L0)(hv:Sl T sz v k xs ob)(hN:k+m<=1000000)
  (hg:∀ v' ob',Sl T sz v' (k+m) (xs++(xG E q).cs.toList) ob'->zA M P n W Q (aNext c (E++ob'++R) v'))
  (hkt:(c.L,hL c,c.top,(xA c)[hI c]?,zM (xA c) n c.f (xO c),(xO c).op,ev n c.f (aX (xO c) 0),ev n c.f (aX (xO c) 1),E[q]?,P.underlying (aT (xO c)),aInfo P T,(xG E q).cs.toList.length,(xG E q).cs.toList.all λu=>u.oneCell')
   =(L1,L0,.hst (xA c) (hS c) (hU c) (hL c) (hI c),some (xO c),true,aOp (xO c),v,.slice (some ⟨(xG E q).b,0,none⟩) m cp,some (xG E q),some (.slice T),some (true,sz,some sz),m*sz,true):=by kernel_rfl):zA M P n W Q c:=by
 simp only [Prod.mk.injEq] at hkt
 obtain ⟨f1,f2,e1,e2,e3,e4,e5,e6,e7,e8,e9,e10,e11⟩:=hkt
 rw [←f1] at hs
 rw [←f2] at hsub
 have:c=⟨.hst (xA c) (hS c) (hU c) (hL c) (hI c),c.k,c.L,c.f⟩:=by rw [←e1]
 rw [this]
 obtain ⟨i,z,hi,hz,hsz,hzs,hby⟩:=bB e9
 refine ⟨λhq hs0=>tN hs (hl_append (E:=E) (ob:=ob) (R:=R) (xO c) e2 e3 e4 e8 hi hz hsz hzs e5 hv e6 e10 (λw hO j u hj=> ?_) (List.all_eq_true.1 e11) ?_ ?_ hsub λv' ob' h=>(hg v' ob' h).go hq (hsub ob'))⟩
 ·have hmem:xG E q∈E++ob++R:=List.mem_append_left _ (List.mem_append_left _ (List.mem_of_getElem? e7))
  rw [yE,cell_of_row w _ _ _ _ _ (hO.held _ hmem),Nat.zero_add]
  simpa using hj
 ·unfold maxLen;omega
 ·have:=Nat.mul_le_mul hN hby;omega
theorem put_read {v:Value}(hw:xW n c=true)(hr:∀ w,Own M W w c.L->(execOp (ev n c.f) (xO c)).run P w= .ok (.value v) w)(hg:zA M P n W Q (c.put v)):zA M P n W Q c:=by
 obtain ⟨top,kk,L,f⟩:=c
 unfold xW at hw
 unfold Xc.put at hg
 cases top with
 |ops a r=>cases r with
  |nil=>cases hw
  |cons o r=>exact ⟨λhq=>s_read v hw hr (hg.go hq)⟩
 |qps a r=>cases r with
  |nil=>cases hw
  |cons o r=>exact ⟨λhq=>q_read v hw hr (hg.go hq)⟩
 |_=>cases hw
theorem zU (d:Nat)(h:List Nat){A:Option Addr}{b off:Nat}(hA:A=some ⟨b,off,none⟩)(N cp j sz:Nat)(hj:j<N)(hg:zA M P n W Q ((xgo P n (d+50000) h c).put (.pointer (some ⟨b,off+(j:Int).toNat*sz,none⟩))))
  (hkt:(xgl P n (d+50000) h c,xW n (xgo P n (d+50000) h c),(xO (xgo P n (d+50000) h c)).op,ev n (xgo P n (d+50000) h c).f (oX (xO (xgo P n (d+50000) h c))),ev n (xgo P n (d+50000) h c).f (oY (xO (xgo P n (d+50000) h c))),P.underlying (oT (xO (xgo P n (d+50000) h c))),(P.info? (xEl P (oT (xO (xgo P n (d+50000) h c))))).map (·.size))
   =(xgr P n (d+50000) h c,true,.indexAddr (oT (xO (xgo P n (d+50000) h c))) (oX (xO (xgo P n (d+50000) h c))) (oY (xO (xgo P n (d+50000) h c))),.slice A N cp,YI (j:Int),some (.slice (xEl P (oT (xO (xgo P n (d+50000) h c))))),some sz):=by kernel_rfl):zA M P n W Q c:=by
 simp only [Prod.mk.injEq] at hkt
 obtain ⟨hk,e1,e2,e3,e4,e5,e6⟩:=hkt
 exact zJ h c hk (yZ e1 (λw=>run_ixA e2 e3 hA e4 e5 e6 Om Om rfl w) hg)
theorem zP (d:Nat)(h:List Nat)(ty:TypeId)(b o:Nat)(v:Value)(hv:∀ w,Own M W w (xgo P n (d+50000) h c).L->(loadVar ty ⟨b,o,none⟩).run P w= .ok v w)(hg:zA M P n W Q ((xgo P n (d+50000) h c).put v))
  (hkt:(xgl P n (d+50000) h c,xW n (xgo P n (d+50000) h c),(xO (xgo P n (d+50000) h c)).op,ev n (xgo P n (d+50000) h c).f (oX (xO (xgo P n (d+50000) h c))))=(xgr P n (d+50000) h c,true,.load ty (oX (xO (xgo P n (d+50000) h c))),.pointer (some ⟨b,o,none⟩)):=by kernel_rfl):zA M P n W Q c:=by
 simp only [Prod.mk.injEq] at hkt
 obtain ⟨hk,e1,e2,e3⟩:=hkt
 exact zJ h c hk (put_read e1 (λw hO=>gC e2 e3 (hv w hO)) hg)
theorem xN (d:Nat)(h:List Nat)(s u:List UInt8)(h1:s=u->zA M P n W Q ((xgo P n (d+50000) h c).put (.bool true)))(h2:¬ s=u->zA M P n W Q ((xgo P n (d+50000) h c).put (.bool false)))
  (hkt:(xgl P n (d+50000) h c,xW n (xgo P n (d+50000) h c),(xO (xgo P n (d+50000) h c)).op,ev n (xgo P n (d+50000) h c).f (oX (xO (xgo P n (d+50000) h c))),ev n (xgo P n (d+50000) h c).f (oY (xO (xgo P n (d+50000) h c))))=(xgr P n (d+50000) h c,true,.binOp .eql (oT (xO (xgo P n (d+50000) h c))) (oX (xO (xgo P n (d+50000) h c))) (oY (xO (xgo P n (d+50000) h c))) (oU (xO (xgo P n (d+50000) h c))),.string (mkS s),.string (mkS u)):=by kernel_rfl):zA M P n W Q c:=by
 simp only [Prod.mk.injEq] at hkt
 obtain ⟨hk,e1,e2,e3,e4⟩:=hkt
 by_cases hp:s=u
 ·exact zJ h c hk (yZ e1 (λw=>qE e2 e3 e4 (decide_eq_true hp) w) (h1 hp))
 ·exact zJ h c hk (yZ e1 (λw=>qE e2 e3 e4 (decide_eq_false hp) w) (h2 hp))
theorem g8 (d:Nat)(h:List Nat)(s u:List UInt8)(h1:s=u->zA M P n W Q ((xgo P n (d+50000) h c).put (.bool false)))(h2:¬ s=u->zA M P n W Q ((xgo P n (d+50000) h c).put (.bool true)))
  (hkt:(xgl P n (d+50000) h c,xW n (xgo P n (d+50000) h c),(xO (xgo P n (d+50000) h c)).op,ev n (xgo P n (d+50000) h c).f (oX (xO (xgo P n (d+50000) h c))),ev n (xgo P n (d+50000) h c).f (oY (xO (xgo P n (d+50000) h c))))=(xgr P n (d+50000) h c,true,.binOp .neq (oT (xO (xgo P n (d+50000) h c))) (oX (xO (xgo P n (d+50000) h c))) (oY (xO (xgo P n (d+50000) h c))) (oU (xO (xgo P n (d+50000) h c))),.string (mkS s),.string (mkS u)):=by kernel_rfl):zA M P n W Q c:=by
 simp only [Prod.mk.injEq] at hkt
 obtain ⟨hk,e1,e2,e3,e4⟩:=hkt
 by_cases hp:s=u
 ·exact zJ h c hk (yZ e1 (λw=>run_strneq e2 e3 e4 (decide_eq_true hp) w) (h1 hp))
 ·exact zJ h c hk (yZ e1 (λw=>run_strneq e2 e3 e4 (decide_eq_false hp) w) (h2 hp))
def xBo:Value->Bool
 | .bool b=>b
 |_=>false
theorem pS (t:Nat)(h:List Nat)(h1:zA M P n W Q ((xgo P n t h c).st t (.bool true)))(h2:zA M P n W Q ((xgo P n t h c).st t (.bool false)))
  (hkt:(xgl P n t h c,(xgo P n t h c).f t)=(xgr P n t h c,.bool (xBo ((xgo P n t h c).f t))):=by kernel_rfl):zA M P n W Q c:=by
 obtain ⟨hk,hv⟩:=Prod.mk.inj hkt
 cases hb:xBo ((xgo P n t h c).f t) with
 |true=>rw [hb] at hv;exact fR t h _ hv h1 hk
 |false=>rw [hb] at hv;exact fR t h _ hv h2 hk
theorem fX (t:Nat)(h:List Nat)(i:Nat){A:Option Addr}{b off:Nat}(hA:A=some ⟨b,off,none⟩)(N cp j sz:Nat)(hj:j<N)(hg:zA M P n W Q (xHn (xgo P n t h c) i (.pointer (some ⟨b,off+(j:Int).toNat*sz,none⟩))))
  (hkt:(xgl P n t h c,pV n i (xgo P n t h c),(xOi i (xgo P n t h c)).op,ev n (xgo P n t h c).f (oX (xOi i (xgo P n t h c))),ev n (xgo P n t h c).f (oY (xOi i (xgo P n t h c))),P.underlying (oT (xOi i (xgo P n t h c))),(P.info? (xEl P (oT (xOi i (xgo P n t h c))))).map (·.size))
   =(xgr P n t h c,dW i (xgo P n t h c),.indexAddr (oT (xOi i (xgo P n t h c))) (oX (xOi i (xgo P n t h c))) (oY (xOi i (xgo P n t h c))),.slice A N cp,YI (j:Int),some (.slice (xEl P (oT (xOi i (xgo P n t h c))))),some sz):=by kernel_rfl):zA M P n W Q c:=by
 simp only [Prod.mk.injEq] at hkt
 obtain ⟨hk,e1,e2,e3,e4,e5,e6⟩:=hkt
 exact zJ h c hk (xtake (λw _=>run_ixA e2 e3 hA e4 e5 e6 Om Om rfl w) hg e1)
theorem dT (t:Nat)(h:List Nat)(i:Nat)(ty:TypeId)(b o:Nat)(v:Value)(hv:∀ w,Own M W w (xL0 (xgo P n t h c))->(loadVar ty ⟨b,o,none⟩).run P w= .ok v w)(hg:zA M P n W Q (xHn (xgo P n t h c) i v))
  (hkt:(xgl P n t h c,pV n i (xgo P n t h c),(xOi i (xgo P n t h c)).op,ev n (xgo P n t h c).f (oX (xOi i (xgo P n t h c))))=(xgr P n t h c,dW i (xgo P n t h c),.load ty (oX (xOi i (xgo P n t h c))),.pointer (some ⟨b,o,none⟩)):=by kernel_rfl):zA M P n W Q c:=by
 simp only [Prod.mk.injEq] at hkt
 obtain ⟨hk,e1,e2,e3⟩:=hkt
 exact zJ h c hk (xtake (λw hO=>gC e2 e3 (hv w hO)) hg e1)
theorem jU (t:Nat)(h:List Nat)(i:Nat)(a b:List UInt8)(hg:zA M P n W Q (xHn (xgo P n t h c) i (.string (mkS (a++b)))))(hb:a.length+b.length<=4000000000:=by (try simp only [List.length_append,List.length_cons,List.length_nil]);omega)
  (hkt:(xgl P n t h c,pV n i (xgo P n t h c),(xOi i (xgo P n t h c)).op,ev n (xgo P n t h c).f (oX (xOi i (xgo P n t h c))),ev n (xgo P n t h c).f (oY (xOi i (xgo P n t h c))))
   =(xgr P n t h c,dW i (xgo P n t h c),.binOp .add (oT (xOi i (xgo P n t h c))) (oX (xOi i (xgo P n t h c))) (oY (xOi i (xgo P n t h c))) (oU (xOi i (xgo P n t h c))),.string (mkS a),.string (mkS b)):=by kernel_rfl):zA M P n W Q c:=by
 simp only [Prod.mk.injEq] at hkt
 obtain ⟨hk,e1,e2,e3,e4⟩:=hkt
 exact zJ h c hk (xtake (λw _=>f7 e2 e3 e4 hb w) hg e1)
theorem Reads.elem {α:Type}{g:α->List Value}{sz:Nat}(hg:∀ x,(g x).length=sz){A:Option Addr}{l:List α}{B:Nat}(h:Reads g W B A l)(j:Nat)(hj:j<l.length):∃ b off,A=some ⟨b,off,none⟩∧∀ w,Below B W w→∀ (ty:TypeId) (fo:Nat) (v:Value),yH P ty ((g l[j]).drop fo).toArray 0=some v->(loadVar ty ⟨b,off+j*sz+fo,none⟩).run P w= .ok v w:=by
 obtain ⟨b,off,e,hb,hc⟩:=h Om
 refine ⟨b,off,e,λw hw ty fo v hr=>dO hg (λk u hu=> ?_) j fo hj rfl v hr⟩
 have:=hc k u hu
 rw [←this]
 unfold World.cell?
 rw [hw.block b hb]
theorem x_ixa (d:Nat)(h:List Nat)(N k sz:Nat)(hN:k<N)(hg:zA M P n W Q ((xgo P n (d+50000) h c).put (.pointer (some ⟨xPb (ev n (xgo P n (d+50000) h c).f (oX (xO (xgo P n (d+50000) h c)))),xOff (ev n (xgo P n (d+50000) h c).f (oX (xO (xgo P n (d+50000) h c))))+(k:Int).toNat*sz,none⟩))))
  (hkt:(xgl P n (d+50000) h c,xW n (xgo P n (d+50000) h c),(xO (xgo P n (d+50000) h c)).op,ev n (xgo P n (d+50000) h c).f (oX (xO (xgo P n (d+50000) h c))),ev n (xgo P n (d+50000) h c).f (oY (xO (xgo P n (d+50000) h c))),P.underlying (oT (xO (xgo P n (d+50000) h c))),(P.info? (xEl P (oT (xO (xgo P n (d+50000) h c))))).map (·.size))
   =(xgr P n (d+50000) h c,true,.indexAddr (oT (xO (xgo P n (d+50000) h c))) (oX (xO (xgo P n (d+50000) h c))) (oY (xO (xgo P n (d+50000) h c))),.pointer (some ⟨xPb (ev n (xgo P n (d+50000) h c).f (oX (xO (xgo P n (d+50000) h c)))),xOff (ev n (xgo P n (d+50000) h c).f (oX (xO (xgo P n (d+50000) h c)))),none⟩),YI (k:Int),some (.array N (xEl P (oT (xO (xgo P n (d+50000) h c))))),some sz):=by kernel_rfl):zA M P n W Q c:=by
 simp only [Prod.mk.injEq] at hkt
 obtain ⟨hk,e1,e2,e3,e4,e5,e6⟩:=hkt
 exact zJ h c hk (yZ e1 (λw=>run_ixarr e2 e3 e4 e5 e6 Om Om rfl w) hg)
theorem vN (d:Nat)(h:List Nat)(q:Nat)(cs:Array Value)(off:Nat)(ty:TypeId)(v:Value)(hv:yH P ty cs off=some v)(hg:zA M P n W Q ((xgo P n (d+50000) h c).put v))
  (hkt:(xgl P n (d+50000) h c,xW n (xgo P n (d+50000) h c),(xO (xgo P n (d+50000) h c)).op,(xgo P n (d+50000) h c).L[q]?,(xG (xgo P n (d+50000) h c).L q).cs,ev n (xgo P n (d+50000) h c).f (oX (xO (xgo P n (d+50000) h c))))=(xgr P n (d+50000) h c,true,.load ty (oX (xO (xgo P n (d+50000) h c))),some (xG (xgo P n (d+50000) h c).L q),cs,.pointer (some ⟨(xG (xgo P n (d+50000) h c).L q).b,off,none⟩)):=by kernel_rfl):zA M P n W Q c:=by
 simp only [Prod.mk.injEq] at hkt
 obtain ⟨hk,e1,e2,e3,e4,e5⟩:=hkt
 exact zJ h c hk (put_read e1 (λw hO=>gC e2 e5 (yQ (by rw [e4];exact hv) (hO.get e3))) hg)
theorem vJ {T:TypeId}{sz k m cp:Nat}{v:Value}{xs:List Value}(h:List Nat)(E ob R:List Blk)(q:Nat)(L1:List Blk)(hs:∀ w,Own M W w L1->Own M W w (E++ob++R))(hv:Sl T sz v k xs ob)(hN:k+m<=1000000)
  (hg:∀ v' ob',Sl T sz v' (k+m) (xs++(xG E q).cs.toList) ob'->zA M P n W Q ⟨.ops (xA (xgo P n nS h c)) (xT (xgo P n nS h c)),(xgo P n nS h c).k,E++ob'++R,upd (xgo P n nS h c).f (xO (xgo P n nS h c)).dst v'⟩)
  (hkt:(xgl P n nS h c,(xgo P n nS h c).L,(xgo P n nS h c).top,zM (xA (xgo P n nS h c)) n (xgo P n nS h c).f (xO (xgo P n nS h c)),(xO (xgo P n nS h c)).op,ev n (xgo P n nS h c).f (aX (xO (xgo P n nS h c)) 0),ev n (xgo P n nS h c).f (aX (xO (xgo P n nS h c)) 1),E[q]?,P.underlying (aT (xO (xgo P n nS h c))),aInfo P T,(xG E q).cs.toList.length,(xG E q).cs.toList.all λu=>u.oneCell')
   =(xgr P n nS h c,L1,.ops (xA (xgo P n nS h c)) (xO (xgo P n nS h c)::xT (xgo P n nS h c)),true,aOp (xO (xgo P n nS h c)),v,.slice (some ⟨(xG E q).b,0,none⟩) m cp,some (xG E q),some (.slice T),some (true,sz,some sz),m*sz,true):=by kernel_rfl):zA M P n W Q c:=by
 simp only [Prod.mk.injEq] at hkt
 obtain ⟨hk,f1,e1,e3,e4,e5,e6,e7,e8,e9,e10,e11⟩:=hkt
 refine zJ h c hk ?_
 generalize (xgo P n nS h c)=d at*
 rw [←f1] at hs
 have:d=⟨.ops (xA d) (xO d::xT d),d.k,d.L,d.f⟩:=by rw [←e1]
 rw [this]
 obtain ⟨i,z,hi,hz,hsz,hzs,hby⟩:=bB e9
 refine ⟨λhq=>vZ hs (m6 (E:=E) (ob:=ob) (L0:=R) e3 e4 e8 hi hz hsz hzs e5 hv e6 e10 (λw hO j u hj=> ?_) (List.all_eq_true.1 e11) ?_ ?_ λv' ob' h=>(hg v' ob' h).go hq)⟩
 ·have hmem:xG E q∈E++ob++R:=List.mem_append_left _ (List.mem_append_left _ (List.mem_of_getElem? e7))
  rw [yE,cell_of_row w _ _ _ _ _ (hO.held _ hmem),Nat.zero_add]
  simpa using hj
 ·unfold maxLen;omega
 ·have:=Nat.mul_le_mul hN hby;omega
end
end
section
def xNl:List XIt->Bool
 | []=>true
 | .lp _ _::_=>false
 |_::k=>xNl k
theorem KQ_any {M M':List Nat}{P:Program}{n:Nat}{W W':World}{Q:Exit->Act->World->Prop}:∀ {k:List XIt},xNl k=true->KQ M P n W Q k=KQ M' P n W' Q k
 | [],_=>rfl
 | .lp _ _::_,h=>by cases h
 | .code c::k,h=>by unfold KQ;rw [KQ_any (k:=k) h]
 | .blk _::k,h=>by unfold KQ;rw [KQ_any (k:=k) h]
 | .tl _ _::k,h=>by unfold KQ;rw [KQ_any (k:=k) h]
 | .rd _ _::k,h=>by unfold KQ;rw [KQ_any (k:=k) h]
def xOut:Exit->Bool
 | .exit _=>true
 | .ret=>true
 |_=>false
section
variable {M:List Nat}{P:Program}{n:Nat}{W:World}{Q:Exit->Act->World->Prop}{c:Xc}
theorem wp_skip {K:Act->World->Prop}{o:Oper}{f:Nat->Value}{w w':World}(hr:(execOp (ev n f) o).run P w= .ok .skip w')(h:K (Fr n (upd f o.dst undef)) w'):o.wp P (Fr n f) w K Q:=by
 unfold Oper.wp
 rw [jF,hr]
 show K ((Fr n f).put o.dst undef) w'
 rw [bE];exact h
def xNx (d:Xc)(L':List Blk)(v:Value):Xc:=⟨.ops (xA d) (xT d),d.k,L',upd d.f (xO d).dst v⟩
def xIW (n:Nat){α:Type}(lv:α->List (Nat×Value))(Mf:α->List Nat)(Lf:α->List Blk)(rel:α->World->Nat->Prop):World->(Nat->Value)->Nat->Prop:=λw f m=>∃ x,rel x w m/\Own (Mf x) w w (Lf x)/\pR f (lv x)
end
end
section
section
variable {M:List Nat}{P:Program}{W w:World}{E ob L0:List Blk}
theorem own_append_str {t u ty T:TypeId}{i:TypeInfo}(ht:P.underlying t=some (.slice T))(hu:P.underlying u=some .string)(hi:P.info? T=some i)(hz:i.zero=some (.int .u8 0))(hsz:i.size=1)(hby:i.bytes=1)
  {v:Value} {n:Nat} {xs:List Value} (hv:Sl T 1 v n xs ob) (hO:Own M W w (E++ob++L0)) (s:ByteArray)
  (h63:n+s.size<=maxLen) (hbytes:n+s.size<=140737488355328):
  ∃ v' w' ob',(Builtin.append_ #[t,u] ty #[v,.string s]).run P w= .ok v' w'/\Sl T 1 v' (n+s.size) (xs++Lib.strCells s) ob'/\Own M W w' (E++ob'++L0):=by
 have hsmall:n+s.size<=9223372036854775807:=by simp only [maxLen] at h63;omega
 have hxl:xs.length=n:=by simpa using hv.1
 have hsl:=Lib.strCells_length s
 have hlen:(xs++Lib.strCells s).length=(n+s.size)*1:=by rw [List.length_append,hxl,hsl,Nat.mul_one]
 have hz1:(Value.int IntKind.u8 0).cells.size=1:=rfl
 rcases hv.2 with ⟨rfl,rfl,rfl⟩|⟨g,cap,cur,rfl,rfl,hnc,hcm,hcs,htake⟩
 ·have hx:xs=[]:=List.eq_nil_of_length_eq_zero hxl
  subst hx
  by_cases hm:s.size=0
  ·have hn:Lib.strCells s=[]:=List.eq_nil_of_length_eq_zero (by rw [hsl];exact hm)
   refine ⟨.slice none 0 0,w,[], ?_,by rw [hm,hn];exact Sl.nil T 1,hO⟩
   have hf:=Lib.run_firstCells_string (P:=P) w 1 s
   rw [hm] at hf
   simp [Builtin.append_,run_underlying ht,run_underlying hu,sizeOf,typeInfo,hi,hsz,Builtin.lenOf,hm,hf]
  ·have hr:=run_append_nil_string (P:=P) w t u ty T i (.int .u8 0) ht hu hi hz s Om Om (by rw [hby];omega)
   have e1:(s.data.map λb=>Value.int .u8 b.toNat)=(Lib.strCells s).toArray:=by
    apply Array.ext'
    simp [Lib.strCells]
   rw [e1] at hr
   have hge:=grownCap_ge w s.size 0 T
   have hcm:=grownCap_le_maxLen w s.size 0 T (by simpa using h63)
   refine ⟨_,_,[⟨w.heap.size,(Lib.strCells s).toArray++Builtin.zeroCells (Value.int .u8 0).cells (grownCap w s.size 0 T-s.size),T⟩],hr,⟨by simpa using hlen,.inr ⟨w.heap.size,_,_,by simp,rfl,by simpa using hge,hcm, ?_, ?_⟩⟩, ?_⟩
   ·simp only [Array.size_append,List.size_toArray,size_zeroCells,hz1,hsl]
    omega
   ·simp only [Array.toList_append,Nat.zero_add,List.nil_append,Nat.mul_one]
    rw [←hsl]
    exact List.take_left
   ·have:=(dP hO).alloc ((Lib.strCells s).toArray++Builtin.zeroCells (Value.int .u8 0).cells (grownCap w s.size 0 T-s.size)) T
    exact Own.move (ob:=[]) this
 ·have hcs':cur.size=cap:=by simpa using hcs
  have ht':cur.toList.take n=xs:=by simpa using htake
  by_cases hroom:n+s.size<=cap
  ·have hk:(E++[Blk.mk g cur T]++L0)[E.length]?=some ⟨g,cur,T⟩:=by simp
   have hg:=hO.get hk
   have hr:=Lib.run_append_room_string (P:=P) w t u ty T i ht hu hi hsz g n cap cur hg s hroom Om
   refine ⟨_,_,[⟨g,(cur.toList.take n++Lib.strCells s++cur.toList.drop (n+s.size)).toArray,T⟩],hr,⟨hlen,.inr ⟨g,cap,_,rfl,rfl,hroom,hcm, ?_, ?_⟩⟩, ?_⟩
   ·simp only [List.size_toArray,List.length_append,List.length_take,List.length_drop,Array.length_toList,hsl]
    omega
   ·rw [ht',←hlen]
    exact List.take_left
   ·have:=hO.put hk (cur.toList.take n++Lib.strCells s++cur.toList.drop (n+s.size)).toArray
    have e:(E++[Blk.mk g cur T]++L0).set E.length ⟨g,(cur.toList.take n++Lib.strCells s++cur.toList.drop (n+s.size)).toArray,T⟩=E++[⟨g,(cur.toList.take n++Lib.strCells s++cur.toList.drop (n+s.size)).toArray,T⟩]++L0:=by simp
    rw [e] at this;exact this
  ·have hk:(E++[Blk.mk g cur T]++L0)[E.length]?=some ⟨g,cur,T⟩:=by simp
   have hg:=hO.get hk
   have holds:∀ j u,xs[j]?=some u->w.cell? ((⟨g,0,none⟩:Addr).add j)=some u:=λj u hj=>by
    rw [yE,cell_of_row w g (0+j) cur T _ hg]
    rw [←ht',List.getElem?_take] at hj
    split at hj
    ·simpa using hj
    ·cases hj
   have hr:=Lib.run_append_grow_string (P:=P) w t u ty T i (.int .u8 0) ht hu hi hz ⟨g,0,none⟩ n cap xs (by rw [hsz];simpa using hxl) holds s Om Om (by rw [hby];exact growslice_fits Om Om)
   have hge:=grownCap_ge w (n+s.size) cap T
   have hcm:=grownCap_le_maxLen w (n+s.size) cap T h63
   refine ⟨_,_,[⟨w.heap.size,xs.toArray++(Lib.strCells s).toArray++Builtin.zeroCells (Value.int .u8 0).cells (grownCap w (n+s.size) cap T-(n+s.size)),T⟩],hr,⟨hlen,.inr ⟨w.heap.size,_,_,rfl,rfl,hge,hcm, ?_, ?_⟩⟩, ?_⟩
   ·simp only [Array.size_append,List.size_toArray,size_zeroCells,hz1,hxl,hsl]
    omega
   ·simp only [Array.toList_append,List.append_assoc]
    rw [←List.append_assoc,←hlen]
    exact List.take_left
   ·exact Own.move ((dP hO).alloc (xs.toArray++(Lib.strCells s).toArray++Builtin.zeroCells (Value.int .u8 0).cells (grownCap w (n+s.size) cap T-(n+s.size))) T)
end
section
variable {M:List Nat}{P:Program}{n0:Nat}{ops:Array Oper}{W:World}{Q:Exit->Act->World->Prop}{rest:List Oper}{o:Oper}{E ob L0:List Blk}{f:Nat->Value}
theorem s_appstr {t u T:TypeId}{x y:Operand}{i:TypeInfo}(hw:zM ops n0 f o=true)(ho:o.op= .call {callee:= .builtin .append,args:= #[x,y],argTypes:= #[t,u]})
  (ht:P.underlying t=some (.slice T)) (hu:P.underlying u=some .string) (hi:P.info? T=some i) (hz:i.zero=some (.int .u8 0)) (hsz:i.size=1) (hby:i.bytes=1)
  {v:Value} {n:Nat} {xs:List Value} (hx:ev n0 f x=v) (hv:Sl T 1 v n xs ob) {s:ByteArray} (hy:ev n0 f y= .string s)
  (h63:n+s.size<=maxLen) (hbytes:n+s.size<=140737488355328)
  (h:∀ v' ob',Sl T 1 v' (n+s.size) (xs++Lib.strCells s) ob'->Seg M P n0 ops W Q rest (E++ob'++L0) (upd f o.dst v')):Seg M P n0 ops W Q (o::rest) (E++ob++L0) f:=
 gT hw λw hO=>by
  obtain ⟨v',w',ob',hr,h2,h3⟩:=own_append_str (P:=P) (ty:=o.type) ht hu hi hz hsz hby hv hO s h63 hbytes
  refine kN v' (w':=w') ?_ ((h v' ob' h2).go w' h3)
  unfold execOp
  simp only [ho,resolve,invoke,builtin,Sem.run_bind,Sem.run_pure,Result.andThen_ok,List.map_toArray,List.map_cons,List.map_nil,hx,hy,hr]
end
section
variable {M:List Nat}{P:Program}{n:Nat}{W:World}{L:List Blk}{f:Nat->Value}
theorem fin_none {fn:Func}{R:Ending->World->Prop}(hres:fn.results= #[])(hR:∀ w,Own M W w L->R (.returned (.tuple #[])) w):Fin M n W (bodyPost P fn R) .normal L f:=⟨λw hO=>
 bodyPost_end (results_none hres _ _ _) rfl (hR w hO)⟩
theorem fin_none_ret {fn:Func}{R:Ending->World->Prop}(hres:fn.results= #[])(hR:∀ w,Own M W w L->R (.returned (.tuple #[])) w):Fin M n W (bodyPost P fn R) .ret L f:=⟨λw hO=>
 bodyPost_ret (results_none hres _ _ _) rfl (hR w hO)⟩
end
end
section
section
variable {M:List Nat}{P:Program}{n:Nat}{W:World}{Q:Exit->Act->World->Prop}{c:Xc}
theorem y6 {M:List Nat}{L:List Blk}{k:FuncId}{fn:Func}{args:Array Value}{R:Ending->World->Prop}(hO:Own M W W L)(hf:P.funcs[k]?=some fn)(hg:zA M P fn.ntmps W (bodyPost P fn R) ⟨.code (fn.body.getD .skip),[],L,λt=>args.getD t undef⟩)
  (hb:fn.body.isSome=true:=by kernel_rfl) (hle:Nat.ble args.size fn.ntmps=true:=by kernel_rfl):Calls P k args W R:=by
 cases hb':fn.body with
 |none=>rw [hb'] at hb;cases hb
 |some b=>rw [hb'] at hg;exact calls_okL hO hf hb' rfl hle (hg.go pq_body)
theorem bT {fn:Func}{R:Ending->World->Prop}(h:List Nat)(v v' v2:Value)(hR:∀ w,Own M W w (xgo P n nS h c).L->R (.returned (.tuple #[v,v',v2])) w)
  (hkt:(xgl P n nS h c,((xgo P n nS h c).top,(xgo P n nS h c).k,fn.results,ev n (xgo P n nS h c).f (.tmp (xRt fn 0)),ev n (xgo P n nS h c).f (.tmp (xRt fn 1)),ev n (xgo P n nS h c).f (.tmp (xRt fn 2))))=(xgr P n nS h c,(.fin .ret,[], #[.tmp (xRt fn 0),.tmp (xRt fn 1),.tmp (xRt fn 2)],v,v',v2)):=by kernel_rfl):zA M P n W (bodyPost P fn R) c:=by
 obtain ⟨hk,ht⟩:=Prod.mk.inj hkt
 refine zJ h c hk ?_
 generalize xgo P n nS h c=d at hR ht ⊢
 obtain ⟨top,kk,L,f⟩:=d
 simp only [Prod.mk.injEq] at ht
 obtain ⟨rfl,rfl,e3,e4,e5,e6⟩:=ht
 exact ⟨λ_=>fin_ret3 v v' v2 e3 e4 e5 e6 hR⟩
theorem yI {fn:Func}{R:Ending->World->Prop}(h:List Nat)(i:Nat)(v v':Value)(hR:∀ w,Own M W w (xgo P n nS h c).L->R (.returned (.tuple #[v,v'])) w)(hkt:(xgl P n nS h c,((xgo P n nS h c).top,(xgo P n nS h c).k,fn.results,(xgo P n nS h c).L[i]?,ev n (xgo P n nS h c).f (.tmp (xRt fn 0)),yH P (xRy fn 0) (xG (xgo P n nS h c).L i).cs 0,ev n (xgo P n nS h c).f (.tmp (xRt fn 1))))=(xgr P n nS h c,(.fin .ret,[], #[.cell (xRt fn 0) (xRy fn 0),.tmp (xRt fn 1)],some (xG (xgo P n nS h c).L i),.pointer (some ⟨(xG (xgo P n nS h c).L i).b,0,none⟩),some v,v')):=by kernel_rfl):zA M P n W (bodyPost P fn R) c:=by
 obtain ⟨hk,ht⟩:=Prod.mk.inj hkt
 refine zJ h c hk ?_
 generalize xgo P n nS h c=d at hR ht ⊢
 obtain ⟨top,kk,L,f⟩:=d
 simp only [Prod.mk.injEq] at ht
 obtain ⟨rfl,rfl,e3,e4,e5,e6,e7⟩:=ht
 exact ⟨λ_=>fin_cell2 i (xG L i) v v' e3 e4 e5 e6 e7 hR⟩
theorem x_ret0 {fn:Func}{R:Ending->World->Prop}(h:List Nat)(hR:∀ w,Own M W w (xgo P n nS h c).L->R (.returned (.tuple #[])) w)
  (hkt:(xgl P n nS h c,(xgo P n nS h c).top,(xgo P n nS h c).k,fn.results)=(xgr P n nS h c,.fin .ret,[], #[]):=by kernel_rfl):zA M P n W (bodyPost P fn R) c:=by
 simp only [Prod.mk.injEq] at hkt
 obtain ⟨hk,e1,e2,e3⟩:=hkt
 refine zJ h c hk ?_
 generalize xgo P n nS h c=d at*
 obtain ⟨top,kk,L,f⟩:=d
 dsimp only at e1 e2
 subst e1;subst e2
 exact ⟨λ_=>fin_none_ret e3 hR⟩
theorem yU {fn:Func}{R:Ending->World->Prop}(h:List Nat)(hR:∀ w,Own M W w (xgo P n nS h c).L->R (.returned (.tuple #[])) w)
  (hkt:(xgl P n nS h c,(xgo P n nS h c).top,(xgo P n nS h c).k,fn.results)=(xgr P n nS h c,.fin .normal,[], #[]):=by kernel_rfl):zA M P n W (bodyPost P fn R) c:=by
 simp only [Prod.mk.injEq] at hkt
 obtain ⟨hk,e1,e2,e3⟩:=hkt
 refine zJ h c hk ?_
 generalize xgo P n nS h c=d at*
 obtain ⟨top,kk,L,f⟩:=d
 dsimp only at e1 e2
 subst e1;subst e2
 exact ⟨λ_=>fin_none e3 hR⟩
theorem yG (t:Nat)(b:Bool)(h1:b=true->zA M P n W Q (c.st t (.bool true)))(h2:b=false->zA M P n W Q (c.st t (.bool false)))(hv:c.f t= .bool b:=by kernel_rfl):zA M P n W Q c:=by
 cases b with
 |true=>
  have h:=h1 rfl
  unfold Xc.st at h
  rw [←d6 hv] at h
  exact h
 |false=>
  have h:=h2 rfl
  unfold Xc.st at h
  rw [←d6 hv] at h
  exact h
theorem x_yes (t:Nat)(h:List Nat)(p:Prop)[Decidable p](hp:p)(h1:zA M P n W Q ((xgo P n t h c).st t (.bool true)))(hkt:(xgl P n t h c,(xgo P n t h c).f t)=(xgr P n t h c,.bool (decide p)):=by kernel_rfl):zA M P n W Q c:=
 zE t h p (λ_=>h1) (λq=>absurd hp q) hkt
end
end
section
section
variable {M:List Nat}{P:Program}{n:Nat}{W:World}{Q:Exit->Act->World->Prop}{c:Xc}
end
def shQ (o:Oper):TypeId×Operand×Operand×Bool:=match o.op with
 | .slice t x none (some y) none=>(t,x,y,true)
 |_=>(0,.tmp 0,.tmp 0,false)
theorem shQ_op {o:Oper}(h:(shQ o).2.2.2=true):o.op= .slice (shQ o).1 (shQ o).2.1 none (some (shQ o).2.2.1) none:=by
 unfold shQ at h ⊢
 split at h
 ·rename_i q;simp only [q]
 ·cases h
def slQ (o:Oper):TypeId×Operand×Operand×Bool:=match o.op with
 | .slice t x (some y) none none=>(t,x,y,true)
 |_=>(0,.tmp 0,.tmp 0,false)
theorem slQ_op {o:Oper}(h:(slQ o).2.2.2=true):o.op= .slice (slQ o).1 (slQ o).2.1 (some (slQ o).2.2.1) none none:=by
 unfold slQ at h ⊢
 split at h
 ·rename_i e;rw [e]
 ·cases h
section
variable {M:List Nat}{P:Program}{n:Nat}{W:World}{Q:Exit->Act->World->Prop}{c:Xc}
end
def ltB (o:Oper):Bool:=match o.op with
 | .binOp .lss _ _ _ _=>true
 |_=>false
theorem ltB_op {o:Oper}(h:ltB o=true):o.op= .binOp .lss (oT o) (oX o) (oY o) (oU o):=by
 unfold ltB at h
 split at h
 ·rename_i q;simp only [oT,oX,oY,oU,q]
 ·cases h
def geB (o:Oper):Bool:=match o.op with
 | .binOp .geq _ _ _ _=>true
 |_=>false
section
variable {M:List Nat}{P:Program}{n:Nat}{W:World}{Q:Exit->Act->World->Prop}{c:Xc}
theorem x_slt (d:Nat)(h:List Nat)(s u:List UInt8)(h1:Op.bytesLess s u=true->zA M P n W Q ((xgo P n (d+50000) h c).put (.bool true)))(h2:Op.bytesLess s u=false->zA M P n W Q ((xgo P n (d+50000) h c).put (.bool false)))
  (hkt:(xgl P n (d+50000) h c,xW n (xgo P n (d+50000) h c),ltB (xO (xgo P n (d+50000) h c)),ev n (xgo P n (d+50000) h c).f (oX (xO (xgo P n (d+50000) h c))),ev n (xgo P n (d+50000) h c).f (oY (xO (xgo P n (d+50000) h c))))=(xgr P n (d+50000) h c,true,true,.string (mkS s),.string (mkS u)):=by kernel_rfl):zA M P n W Q c:=by
 simp only [Prod.mk.injEq] at hkt
 obtain ⟨hk,e1,e2,e3,e4⟩:=hkt
 cases hb:Op.bytesLess s u with
 |true=>exact zJ h c hk (yZ e1 (λw=>run_strlss (ltB_op e2) e3 e4 hb w) (h1 hb))
 |false=>exact zJ h c hk (yZ e1 (λw=>run_strlss (ltB_op e2) e3 e4 hb w) (h2 hb))
end
end
section
def mT (o:Oper):TypeId:=match o.op with
 | .makeSlice t _ _=>t
 |_=>0
def mX (o:Oper):Operand:=match o.op with
 | .makeSlice _ x _=>x
 |_=> .tmp 0
def mY (o:Oper):Operand:=match o.op with
 | .makeSlice _ _ y=>y
 |_=> .tmp 0
def skQ (o:Oper):TypeId×Operand×Operand×Operand×Bool:=match o.op with
 | .slice t x none (some y) (some z)=>(t,x,y,z,true)
 |_=>(0,.tmp 0,.tmp 0,.tmp 0,false)
theorem skQ_op {o:Oper}(h:(skQ o).2.2.2.2=true):o.op= .slice (skQ o).1 (skQ o).2.1 none (some (skQ o).2.2.1) (some (skQ o).2.2.2.1):=by
 unfold skQ at h ⊢
 split at h
 ·rename_i e;rw [e]
 ·cases h
def smQ (o:Oper):TypeId×Operand×Operand×Operand×Bool:=match o.op with
 | .slice t x (some y) (some z) none=>(t,x,y,z,true)
 |_=>(0,.tmp 0,.tmp 0,.tmp 0,false)
section
variable {M:List Nat}{P:Program}{n:Nat}{W:World}{Q:Exit->Act->World->Prop}{c:Xc}
theorem x_make (d:Nat)(h:List Nat)(N sz by_:Nat)(z:Value)(cs:Array Value)(hcs:madeCells z.cells (N*sz)=cs)(hb:by_*N<=281474976710656)
  (hg:∀ b,zA M P n W Q ⟨.ops (xA (xgo P n (d+50000) h c)) (xT (xgo P n (d+50000) h c)),(xgo P n (d+50000) h c).k,⟨b,cs,xEl P (mT (xO (xgo P n (d+50000) h c)))⟩::(xgo P n (d+50000) h c).L,upd (xgo P n (d+50000) h c).f (xO (xgo P n (d+50000) h c)).dst (.slice (some ⟨b,0,none⟩) N N)⟩)
  (hkt:(xgl P n (d+50000) h c,(xgo P n (d+50000) h c).top,zM (xA (xgo P n (d+50000) h c)) n (xgo P n (d+50000) h c).f (xO (xgo P n (d+50000) h c)),(xO (xgo P n (d+50000) h c)).op,ev n (xgo P n (d+50000) h c).f (mX (xO (xgo P n (d+50000) h c))),ev n (xgo P n (d+50000) h c).f (mY (xO (xgo P n (d+50000) h c))),P.underlying (mT (xO (xgo P n (d+50000) h c))),(P.info? (xEl P (mT (xO (xgo P n (d+50000) h c))))).map (λi=>(i.zero,i.size,i.bytes)))
   =(xgr P n (d+50000) h c,.ops (xA (xgo P n (d+50000) h c)) (xO (xgo P n (d+50000) h c)::xT (xgo P n (d+50000) h c)),true,.makeSlice (mT (xO (xgo P n (d+50000) h c))) (mX (xO (xgo P n (d+50000) h c))) (mY (xO (xgo P n (d+50000) h c))),YI (N:Int),YI (N:Int),some (.slice (xEl P (mT (xO (xgo P n (d+50000) h c))))),some (some z,sz,by_)):=by kernel_rfl)
  (h1:1<=by_:=by decide):zA M P n W Q c:=by
 simp only [Prod.mk.injEq] at hkt
 obtain ⟨hk,e1,e2,e3,e4,e5,e6,e7⟩:=hkt
 refine zJ h c hk ?_
 generalize xgo P n (d+50000) h c=d at*
 cases hi:P.info? (xEl P (mT (xO d))) with
 |none=>rw [hi] at e7;cases e7
 |some i=>
  rw [hi] at e7
  simp only [Option.map_some,Option.some.injEq,Prod.mk.injEq] at e7
  obtain ⟨i1,i2,i3⟩:=e7
  have hN:N<=281474976710656:=Nat.le_trans (Nat.le_mul_of_pos_left N h1) hb
  have:d=⟨.ops (xA d) (xO d::xT d),d.k,d.L,d.f⟩:=by rw [←e1]
  rw [this]
  exact ⟨λhq=>s_make e2 e3 e4 e5 e6 hi i1 Om Om (by rw [i3,←Int.natCast_mul];omega) Om λb=>by
   rw [show ((N:Nat):Int).toNat=N from rfl,i2,hcs]
   exact (hg b).go hq⟩
theorem d5 (d:Nat)(h:List Nat){A:Option Addr}{b off:Nat}(hA:A=some ⟨b,off,none⟩)(N cp:Nat)(j:Int)(sz o:Nat)(ho:0<=j/\j<N/\off+j.toNat*sz=o)(hg:zA M P n W Q ((xgo P n (d+50000) h c).put (.pointer (some ⟨b,o,none⟩))))
  (hkt:(xgl P n (d+50000) h c,xW n (xgo P n (d+50000) h c),(xO (xgo P n (d+50000) h c)).op,ev n (xgo P n (d+50000) h c).f (oX (xO (xgo P n (d+50000) h c))),ev n (xgo P n (d+50000) h c).f (oY (xO (xgo P n (d+50000) h c))),P.underlying (oT (xO (xgo P n (d+50000) h c))),(P.info? (xEl P (oT (xO (xgo P n (d+50000) h c))))).map (·.size))
   =(xgr P n (d+50000) h c,true,.indexAddr (oT (xO (xgo P n (d+50000) h c))) (oX (xO (xgo P n (d+50000) h c))) (oY (xO (xgo P n (d+50000) h c))),.slice A N cp,YI j,some (.slice (xEl P (oT (xO (xgo P n (d+50000) h c))))),some sz):=by kernel_rfl):zA M P n W Q c:=by
 simp only [Prod.mk.injEq] at hkt
 obtain ⟨hk,e1,e2,e3,e4,e5,e6⟩:=hkt
 exact zJ h c hk (yZ e1 (λw=>run_ixA e2 e3 hA e4 e5 e6 ho.1 ho.2.1 ho.2.2 w) hg)
theorem x_slhi (d:Nat)(h:List Nat){A:Option Addr}{b off:Nat}(hA:A=some ⟨b,off,none⟩)(N cp sz:Nat)(j:Int)(h0:0<=j)(h1:j<=cp)(v:Value)(hv: .slice (some ⟨b,off,none⟩) j.toNat cp=v)(hg:zA M P n W Q ((xgo P n (d+50000) h c).put v))
  (hkt:(xgl P n (d+50000) h c,xW n (xgo P n (d+50000) h c),(shQ (xO (xgo P n (d+50000) h c))).2.2.2,ev n (xgo P n (d+50000) h c).f (shQ (xO (xgo P n (d+50000) h c))).2.1,ev n (xgo P n (d+50000) h c).f (shQ (xO (xgo P n (d+50000) h c))).2.2.1,P.underlying (shQ (xO (xgo P n (d+50000) h c))).1,(P.info? (xEl P (shQ (xO (xgo P n (d+50000) h c))).1)).map (·.size))
   =(xgr P n (d+50000) h c,true,true,.slice A N cp,YI j,some (.slice (xEl P (shQ (xO (xgo P n (d+50000) h c))).1)),some sz):=by kernel_rfl):zA M P n W Q c:=by
 simp only [Prod.mk.injEq] at hkt
 obtain ⟨hk,e1,e2,e3,e4,e5,e6⟩:=hkt
 subst hA
 exact zJ h c hk (yZ e1 (λw=>by rw [run_slhi (shQ_op e2) e3 e4 e5 e6 h0 h1 w,hv]) hg)
theorem x_slhm (d:Nat)(h:List Nat)(b N cp sz:Nat)(j m:Int)(hj:0<=j/\j<=m/\m<=cp)(v:Value)(hv: .slice (some ⟨b,0,none⟩) j.toNat m.toNat=v)(hg:zA M P n W Q ((xgo P n (d+50000) h c).put v))
  (hkt:(xgl P n (d+50000) h c,xW n (xgo P n (d+50000) h c),(skQ (xO (xgo P n (d+50000) h c))).2.2.2.2,ev n (xgo P n (d+50000) h c).f (skQ (xO (xgo P n (d+50000) h c))).2.1,ev n (xgo P n (d+50000) h c).f (skQ (xO (xgo P n (d+50000) h c))).2.2.1,ev n (xgo P n (d+50000) h c).f (skQ (xO (xgo P n (d+50000) h c))).2.2.2.1,P.underlying (skQ (xO (xgo P n (d+50000) h c))).1,(P.info? (xEl P (skQ (xO (xgo P n (d+50000) h c))).1)).map (·.size))
   =(xgr P n (d+50000) h c,true,true,.slice (some ⟨b,0,none⟩) N cp,YI j,YI m,some (.slice (xEl P (skQ (xO (xgo P n (d+50000) h c))).1)),some sz):=by kernel_rfl):zA M P n W Q c:=by
 simp only [Prod.mk.injEq] at hkt
 obtain ⟨hk,e1,e2,e3,e4,e5,e6,e7⟩:=hkt
 exact zJ h c hk (yZ e1 (λw=>by rw [run_slhm (skQ_op e2) e3 e4 e5 e6 e7 hj.1 hj.2.1 hj.2.2 w,hv]) hg)
theorem x_appF {T:TypeId}{sz N cap m cp:Nat}(h:List Nat)(p q:Nat)(L1:List Blk)(hn:N*sz<=(xG L1 p).cs.size)(hroom:cap<N+m)(hN:N+m<=1000000)
  (hg:∀ v' ob',Sl T sz v' (N+m) ((xG L1 p).cs.toList.take (N*sz)++(xG L1 q).cs.toList) ob'->zA M P n W Q ⟨.ops (xA (xgo P n nS h c)) (xT (xgo P n nS h c)),(xgo P n nS h c).k,ob'++L1,upd (xgo P n nS h c).f (xO (xgo P n nS h c)).dst v'⟩)
  (hkt:(xgl P n nS h c,(xgo P n nS h c).L,(xgo P n nS h c).top,zM (xA (xgo P n nS h c)) n (xgo P n nS h c).f (xO (xgo P n nS h c)),(xO (xgo P n nS h c)).op,ev n (xgo P n nS h c).f (aX (xO (xgo P n nS h c)) 0),ev n (xgo P n nS h c).f (aX (xO (xgo P n nS h c)) 1),L1[p]?,L1[q]?,P.underlying (aT (xO (xgo P n nS h c))),aInfo P T,(xG L1 q).cs.toList.length)
   =(xgr P n nS h c,L1,.ops (xA (xgo P n nS h c)) (xO (xgo P n nS h c)::xT (xgo P n nS h c)),true,aOp (xO (xgo P n nS h c)),.slice (some ⟨(xG L1 p).b,0,none⟩) N cap,.slice (some ⟨(xG L1 q).b,0,none⟩) m cp,some (xG L1 p),some (xG L1 q),some (.slice T),some (true,sz,some sz),m*sz):=by kernel_rfl):zA M P n W Q c:=by
 simp only [Prod.mk.injEq] at hkt
 obtain ⟨hk,f1,e1,e3,e4,e5,e6,e7,e7',e8,e9,e10⟩:=hkt
 refine zJ h c hk ?_
 generalize (xgo P n nS h c)=d at*
 have:d=⟨.ops (xA d) (xO d::xT d),d.k,L1,d.f⟩:=by rw [←e1,←f1]
 rw [this]
 obtain ⟨i,z,hi,hz,hsz,hzs,hby⟩:=bB e9
 refine ⟨λhq=>s_appendF e3 e4 e8 hi hz hsz hzs e5 (by rw [List.length_take,Array.length_toList];omega) (λw hO j u hj=> ?_) e6 e10 (λw hO j u hj=> ?_) hroom (by unfold maxLen;omega) (by have:=Nat.mul_le_mul hN hby;omega) λv' ob' h=>(hg v' ob' h).go hq⟩
 ·rw [List.getElem?_take] at hj
  split at hj
  ·rw [yE,cell_of_row w _ _ _ _ _ (hO.held _ (List.mem_of_getElem? e7)),Nat.zero_add]
   simpa using hj
  ·cases hj
 ·rw [yE,cell_of_row w _ _ _ _ _ (hO.held _ (List.mem_of_getElem? e7')),Nat.zero_add]
  simpa using hj
theorem x_sllo (d:Nat)(h:List Nat){A:Option Addr}{b off:Nat}(hA:A=some ⟨b,off,none⟩)(N cp sz:Nat)(j:Int)(h0:0<=j)(h1:j<=N)(v:Value)(hv: .slice (some ⟨b,off+(if cp=j.toNat then 0 else j.toNat*sz),none⟩) (N-j.toNat) (cp-j.toNat)=v)(hg:zA M P n W Q ((xgo P n (d+50000) h c).put v))
  (hkt:(xgl P n (d+50000) h c,xW n (xgo P n (d+50000) h c),(slQ (xO (xgo P n (d+50000) h c))).2.2.2,ev n (xgo P n (d+50000) h c).f (slQ (xO (xgo P n (d+50000) h c))).2.1,ev n (xgo P n (d+50000) h c).f (slQ (xO (xgo P n (d+50000) h c))).2.2.1,P.underlying (slQ (xO (xgo P n (d+50000) h c))).1,(P.info? (xEl P (slQ (xO (xgo P n (d+50000) h c))).1)).map (·.size))
   =(xgr P n (d+50000) h c,true,true,.slice A N cp,YI j,some (.slice (xEl P (slQ (xO (xgo P n (d+50000) h c))).1)),some sz):=by kernel_rfl):zA M P n W Q c:=by
 simp only [Prod.mk.injEq] at hkt
 obtain ⟨hk,e1,e2,e3,e4,e5,e6⟩:=hkt
 subst hA
 exact zJ h c hk (yZ e1 (λw=>by rw [run_sllo (slQ_op e2) e3 e4 e5 e6 h0 h1 w,hv]) hg)
end
section
variable {M:List Nat}{n:Nat}{W:World}{Q:Exit->Act->World->Prop}{c:Xc}
theorem x_nea {α:Type}{p:α->α->Prop}[∀ u v,Decidable (p u v)](T:TypeId)(enc:α->Value)(hrun:∀ {ρ:Operand->Value} {o:Oper} {t':TypeId} {x y:Operand} {u v:α} {b:Bool},o.op= .binOp .neq T x y t'->ρ x=enc u->ρ y=enc v->decide (p u v)=b→∀ w,(execOp ρ o).run Tryz.prog w= .ok (.value (.bool (!b))) w)
  (d:Nat) (h:List Nat) (u v:α) (h1:p u v->zA M Tryz.prog n W Q ((xgo Tryz.prog n (d+50000) h c).put (.bool false))) (h2:¬ p u v->zA M Tryz.prog n W Q ((xgo Tryz.prog n (d+50000) h c).put (.bool true)))
  (hkt:(xgl Tryz.prog n (d+50000) h c,xW n (xgo Tryz.prog n (d+50000) h c),(xO (xgo Tryz.prog n (d+50000) h c)).op,ev n (xgo Tryz.prog n (d+50000) h c).f (oX (xO (xgo Tryz.prog n (d+50000) h c))),ev n (xgo Tryz.prog n (d+50000) h c).f (oY (xO (xgo Tryz.prog n (d+50000) h c))))=(xgr Tryz.prog n (d+50000) h c,true,.binOp .neq T (oX (xO (xgo Tryz.prog n (d+50000) h c))) (oY (xO (xgo Tryz.prog n (d+50000) h c))) (oU (xO (xgo Tryz.prog n (d+50000) h c))),enc u,enc v):=by kernel_rfl):zA M Tryz.prog n W Q c:=by
 simp only [Prod.mk.injEq] at hkt
 obtain ⟨hk,e1,e2,e3,e4⟩:=hkt
 by_cases hp:p u v
 ·exact zJ h c hk (yZ e1 (λw=>hrun e2 e3 e4 (decide_eq_true hp) w) (h1 hp))
 ·exact zJ h c hk (yZ e1 (λw=>hrun e2 e3 e4 (decide_eq_false hp) w) (h2 hp))
end
end
end Go.Proofs.YteghandhpbmpgaaGreatDoor
section
namespace Go.Proofs
open Go.Shelf
def Tryz.lays160_ren:Go.Shelf.Ren:=⟨fun|160=>255|232=>299|231=>298|227=>300|234=>302|233=>301|236=>304|235=>303|228=>332|271=>334|151=>333|197=>323|120=>349|152=>348|260=>347|137=>180|119=>358|224=>294|225=>293|217=>233|266=>280|n=>n,fun|9=>9|4=>4|3=>3|5=>5|117=>306|116=>305|0=>0|124=>309|21=>21|105=>317|46=>115|119=>337|139=>340|138=>339|n=>n,fun|3=>4|4=>5|n=>n⟩
theorem Tryz.lays160:Go.Proofs.Lays.n160 Tryz.prog Tryz.lays160_ren:={
 mixed:=by kernel_rfl
 f119:=Tryz.func358.trans (congrArg some (by kernel_rfl))
 f120:=Tryz.func349.trans (congrArg some (by kernel_rfl))
 f137:=Tryz.func180.trans (congrArg some (by kernel_rfl))
 f151:=Tryz.func333.trans (congrArg some (by kernel_rfl))
 f152:=Tryz.func348.trans (congrArg some (by kernel_rfl))
 f160:=Tryz.func255.trans (congrArg some (by kernel_rfl))
 f197:=Tryz.func323.trans (congrArg some (by kernel_rfl))
 f217:=Tryz.func233.trans (congrArg some (by kernel_rfl))
 f224:=Tryz.func294.trans (congrArg some (by kernel_rfl))
 f225:=Tryz.func293.trans (congrArg some (by kernel_rfl))
 f227:=Tryz.func300.trans (congrArg some (by kernel_rfl))
 f228:=Tryz.func332.trans (congrArg some (by kernel_rfl))
 f231:=Tryz.func298.trans (congrArg some (by kernel_rfl))
 f232:=Tryz.func299.trans (congrArg some (by kernel_rfl))
 f233:=Tryz.func301.trans (congrArg some (by kernel_rfl))
 f234:=Tryz.func302.trans (congrArg some (by kernel_rfl))
 f235:=Tryz.func303.trans (congrArg some (by kernel_rfl))
 f236:=Tryz.func304.trans (congrArg some (by kernel_rfl))
 f260:=Tryz.func347.trans (congrArg some (by kernel_rfl))
 f266:=Tryz.func280.trans (congrArg some (by kernel_rfl))
 f271:=Tryz.func334.trans (congrArg some (by kernel_rfl))
 t0:=Tryz.underlying0
 a0:=Tryz.isAgg0
 z0:=Tryz.sizeOf0
 v0:=Tryz.zeroValue0
 t3:=Tryz.underlying3
 a3:=Tryz.isAgg3
 z3:=Tryz.sizeOf3
 v3:=Tryz.zeroValue3
 t4:=Tryz.underlying4
 a4:=Tryz.isAgg4
 z4:=Tryz.sizeOf4
 v4:=Tryz.zeroValue4
 t5:=Tryz.underlying5
 a5:=Tryz.isAgg5
 z5:=Tryz.sizeOf5
 v5:=Tryz.zeroValue5
 t9:=Tryz.underlying9
 a9:=Tryz.isAgg9
 z9:=Tryz.sizeOf9
 v9:=Tryz.zeroValue9
 t21:=Tryz.underlying21
 a21:=Tryz.isAgg21
 z21:=Tryz.sizeOf21
 v21:=Tryz.zeroValue21
 t46:=Tryz.underlying115
 a46:=Tryz.isAgg115
 z46:=Tryz.sizeOf115
 v46:=Tryz.zeroValue115
 t105:=Tryz.underlying317
 a105:=Tryz.isAgg317
 z105:=Tryz.sizeOf317
 v105:=Tryz.zeroValue317
 t116:=Tryz.underlying305
 a116:=Tryz.isAgg305
 z116:=Tryz.sizeOf305
 t117:=Tryz.underlying306
 a117:=Tryz.isAgg306
 z117:=Tryz.sizeOf306
 v117:=Tryz.zeroValue306
 t119:=Tryz.underlying337
 a119:=Tryz.isAgg337
 z119:=Tryz.sizeOf337
 t124:=Tryz.underlying309
 a124:=Tryz.isAgg309
 z124:=Tryz.sizeOf309
 v124:=Tryz.zeroValue309
 t138:=Tryz.underlying339
 a138:=Tryz.isAgg339
 z138:=Tryz.sizeOf339
 v138:=Tryz.zeroValue339
 t139:=Tryz.underlying340
 a139:=Tryz.isAgg340
 z139:=Tryz.sizeOf340
 v139:=Tryz.zeroValue340
 g3:=by kernel_rfl
 g4:=by kernel_rfl}
open Go.RowKit in
theorem Tryz.strings_Trim_one (s:ByteArray)(c:UInt8)(hc:c.toNat<128)(w:World)(hs:s.size<=9223372036854775807):
  Calls Tryz.prog 255 #[.string s,.string ⟨#[c]⟩] w λe w'=>e= .returned (.string ⟨(Lib.trimB s.data.toList c).toArray⟩)/\(w'=w\/w'=w.drew):=Any.strings_Trim_one Tryz.lays160 s c hc w hs
def Tryz.lays118_ren:Go.Shelf.Ren:=⟨fun|118=>308|n=>n,fun|21=>21|3=>3|4=>4|n=>n,fun|n=>n⟩
theorem Tryz.lays118:Go.Proofs.Lays.n118 Tryz.prog Tryz.lays118_ren:={
 mixed:=by kernel_rfl
 f118:=Tryz.func308.trans (congrArg some (by kernel_rfl))
 t3:=Tryz.underlying3
 a3:=Tryz.isAgg3
 z3:=Tryz.sizeOf3
 v3:=Tryz.zeroValue3
 t4:=Tryz.underlying4
 a4:=Tryz.isAgg4
 z4:=Tryz.sizeOf4
 v4:=Tryz.zeroValue4
 t21:=Tryz.underlying21
 a21:=Tryz.isAgg21
 z21:=Tryz.sizeOf21
 v21:=Tryz.zeroValue21}
theorem Tryz.utf8_RuneLen (r:Int)(w:World):
  Calls Tryz.prog 308 #[.int .i32 r] w λe w'=>e= .returned (.int .i64 (Lib.runeLen r))/\w'=w:=Any.utf8_RuneLen Tryz.lays118 r w
def Tryz.lays106_ren:Go.Shelf.Ren:=⟨fun|106=>247|213=>285|265=>325|n=>n,fun|9=>9|3=>3|n=>n,fun|n=>n⟩
theorem Tryz.lays106:Go.Proofs.Lays.n106 Tryz.prog Tryz.lays106_ren:={
 mixed:=by kernel_rfl
 f106:=Tryz.func247.trans (congrArg some (by kernel_rfl))
 f213:=Tryz.func285.trans (congrArg some (by kernel_rfl))
 f265:=Tryz.func325.trans (congrArg some (by kernel_rfl))
 t3:=Tryz.underlying3
 a3:=Tryz.isAgg3
 z3:=Tryz.sizeOf3
 v3:=Tryz.zeroValue3
 t9:=Tryz.underlying9
 a9:=Tryz.isAgg9
 z9:=Tryz.sizeOf9
 v9:=Tryz.zeroValue9}
open Go.RowKit in
theorem Tryz.strings_Compare (a b:ByteArray)(w:World):
  Calls Tryz.prog 247 #[.string a,.string b] w λe w'=>e= .returned (.int .i64 (Lib.compareBytes a.data.toList b.data.toList))/\w'=w:=Any.strings_Compare Tryz.lays106 a b w
def Tryz.lays103_ren:Go.Shelf.Ren:=⟨fun|103=>161|210=>222|206=>266|n=>n,fun|9=>9|4=>4|24=>152|3=>3|n=>n,fun|n=>n⟩
theorem Tryz.lays103:Go.Proofs.Lays.n103 Tryz.prog Tryz.lays103_ren:={
 mixed:=by kernel_rfl
 f103:=Tryz.func161.trans (congrArg some (by kernel_rfl))
 f206:=Tryz.func266.trans (congrArg some (by kernel_rfl))
 f210:=Tryz.func222.trans (congrArg some (by kernel_rfl))
 t3:=Tryz.underlying3
 a3:=Tryz.isAgg3
 z3:=Tryz.sizeOf3
 v3:=Tryz.zeroValue3
 t4:=Tryz.underlying4
 a4:=Tryz.isAgg4
 z4:=Tryz.sizeOf4
 v4:=Tryz.zeroValue4
 t9:=Tryz.underlying9
 a9:=Tryz.isAgg9
 z9:=Tryz.sizeOf9
 v9:=Tryz.zeroValue9
 t24:=Tryz.underlying152
 a24:=Tryz.isAgg152
 z24:=Tryz.sizeOf152
 v24:=Tryz.zeroValue152}
open Go.RowKit in
theorem Tryz.strings_CutPrefix (s p:ByteArray)(w:World):
  Calls Tryz.prog 161 #[.string s,.string p] w λe w'=>e= .returned (.tuple #[.string ⟨(Lib.trimPrefix s.data.toList p.data.toList).toArray⟩,.bool (Lib.hasPrefix s.data.toList p.data.toList)])/\w'=w:=Any.strings_CutPrefix Tryz.lays103 s p w
def Tryz.lays122_ren:Go.Shelf.Ren:=⟨fun|122=>147|215=>202|n=>n,fun|3=>3|4=>4|n=>n,fun|n=>n⟩
theorem Tryz.lays122:Go.Proofs.Lays.n122 Tryz.prog Tryz.lays122_ren:={
 mixed:=by kernel_rfl
 f122:=Tryz.func147.trans (congrArg some (by kernel_rfl))
 f215:=Tryz.func202.trans (congrArg some (by kernel_rfl))
 t3:=Tryz.underlying3
 a3:=Tryz.isAgg3
 z3:=Tryz.sizeOf3
 v3:=Tryz.zeroValue3
 t4:=Tryz.underlying4
 a4:=Tryz.isAgg4
 z4:=Tryz.sizeOf4
 v4:=Tryz.zeroValue4}
open Go.RowKit in
theorem Tryz.cmp_Compare_int (x y:Int)(w:World):
  Calls Tryz.prog 147 #[.int .i64 x,.int .i64 y] w λe w'=>e= .returned (.int .i64 (Lib.compareInt x y))/\w'=w:=Any.cmp_Compare_int Tryz.lays122 x y w
def Tryz.laysM171_ren:Go.Shelf.Ren:=⟨fun|171=>224|243=>268|246=>313|283=>338|284=>339|285=>340|286=>341|129=>201|317=>353|318=>354|319=>355|320=>356|337=>360|338=>361|n=>n,fun|3=>3|9=>9|2=>2|4=>4|171=>327|0=>0|53=>36|37=>90|5=>5|173=>329|212=>335|51=>223|20=>20|213=>336|46=>115|232=>342|233=>343|n=>n,fun|17=>3|18=>6|19=>7|n=>n⟩
theorem Tryz.laysM171:Go.Proofs.LaysM.n171 Tryz.prog Tryz.laysM171_ren:={
 mixed:=by kernel_rfl
 f129:=Tryz.func201.trans (congrArg some (by kernel_rfl))
 f171:=Tryz.func224.trans (congrArg some (by kernel_rfl))
 f243:=Tryz.func268.trans (congrArg some (by kernel_rfl))
 f246:=Tryz.func313.trans (congrArg some (by kernel_rfl))
 f283:=Tryz.func338.trans (congrArg some (by kernel_rfl))
 f284:=Tryz.func339.trans (congrArg some (by kernel_rfl))
 f285:=Tryz.func340.trans (congrArg some (by kernel_rfl))
 f286:=Tryz.func341.trans (congrArg some (by kernel_rfl))
 f317:=Tryz.func353.trans (congrArg some (by kernel_rfl))
 f318:=Tryz.func354.trans (congrArg some (by kernel_rfl))
 f319:=Tryz.func355.trans (congrArg some (by kernel_rfl))
 f320:=Tryz.func356.trans (congrArg some (by kernel_rfl))
 f337:=Tryz.func360.trans (congrArg some (by kernel_rfl))
 f338:=Tryz.func361.trans (congrArg some (by kernel_rfl))
 t0:=Tryz.underlying0
 a0:=Tryz.isAgg0
 z0:=Tryz.sizeOf0
 v0:=Tryz.zeroValue0
 t2:=Tryz.underlying2
 a2:=Tryz.isAgg2
 z2:=Tryz.sizeOf2
 v2:=Tryz.zeroValue2
 t3:=Tryz.underlying3
 a3:=Tryz.isAgg3
 z3:=Tryz.sizeOf3
 v3:=Tryz.zeroValue3
 t4:=Tryz.underlying4
 a4:=Tryz.isAgg4
 z4:=Tryz.sizeOf4
 v4:=Tryz.zeroValue4
 t5:=Tryz.underlying5
 a5:=Tryz.isAgg5
 z5:=Tryz.sizeOf5
 v5:=Tryz.zeroValue5
 t9:=Tryz.underlying9
 a9:=Tryz.isAgg9
 z9:=Tryz.sizeOf9
 v9:=Tryz.zeroValue9
 t20:=Tryz.underlying20
 a20:=Tryz.isAgg20
 z20:=Tryz.sizeOf20
 v20:=Tryz.zeroValue20
 t37:=Tryz.underlying90
 a37:=Tryz.isAgg90
 z37:=Tryz.sizeOf90
 v37:=Tryz.zeroValue90
 t46:=Tryz.underlying115
 a46:=Tryz.isAgg115
 z46:=Tryz.sizeOf115
 v46:=Tryz.zeroValue115
 t51:=Tryz.underlying223
 a51:=Tryz.isAgg223
 z51:=Tryz.sizeOf223
 v51:=Tryz.zeroValue223
 t53:=Tryz.underlying36
 a53:=Tryz.isAgg36
 z53:=Tryz.sizeOf36
 v53:=Tryz.zeroValue36
 t171:=Tryz.underlying327
 a171:=Tryz.isAgg327
 z171:=Tryz.sizeOf327
 v171:=Tryz.zeroValue327
 t173:=Tryz.underlying329
 a173:=Tryz.isAgg329
 z173:=Tryz.sizeOf329
 v173:=Tryz.zeroValue329
 t212:=Tryz.underlying335
 a212:=Tryz.isAgg335
 z212:=Tryz.sizeOf335
 v212:=Tryz.zeroValue335
 t213:=Tryz.underlying336
 a213:=Tryz.isAgg336
 z213:=Tryz.sizeOf336
 t232:=Tryz.underlying342
 a232:=Tryz.isAgg342
 z232:=Tryz.sizeOf342
 v232:=Tryz.zeroValue342
 t233:=Tryz.underlying343
 a233:=Tryz.isAgg343
 z233:=Tryz.sizeOf343
 v233:=Tryz.zeroValue343
 g17:=by kernel_rfl
 g18:=by kernel_rfl
 g19:=by kernel_rfl
 i0:=by kernel_rfl
 i2:=by kernel_rfl
 i3:=by kernel_rfl
 i4:=by kernel_rfl
 i5:=by kernel_rfl
 i9:=by kernel_rfl
 i20:=by kernel_rfl
 i37:=by kernel_rfl
 i46:=by kernel_rfl
 i51:=by kernel_rfl
 i53:=by kernel_rfl
 i171:=by kernel_rfl
 i173:=by kernel_rfl
 i212:=by kernel_rfl
 i232:=by kernel_rfl
 i233:=by kernel_rfl
 m17:=by kernel_rfl
 m18:=by kernel_rfl
 m19:=by kernel_rfl}
open Go.RowKit Go.Sort Go.Lib in
theorem Tryz.strconv_Itoa (n : Int) (h0 : -9223372036854775808 ≤ n) (h1 : n ≤ 9223372036854775807) (w : World) (htab : Lib.TabIs Tryz.prog w "internal/strconv.uint64pow10" .u64 Lib.pow10Tab) :
  Calls Tryz.prog 224 #[.int .i64 n] w λe w'=>e= .returned (.string ⟨(Lib.itoa n).toArray⟩)∧∃ k os,w'=grow (w.drewN k) os:=Any.strconv_Itoa Tryz.laysM171 n h0 h1 w htab
def Tryz.lays219_ren:Go.Shelf.Ren:=⟨fun|219=>253|217=>233|225=>293|224=>294|267=>295|266=>280|314=>329|n=>n,fun|9=>9|3=>3|4=>4|5=>5|46=>115|146=>322|51=>223|n=>n,fun|1=>1|n=>n⟩
theorem Tryz.lays219:Go.Proofs.Lays.n219 Tryz.prog Tryz.lays219_ren:={
 mixed:=by kernel_rfl
 f217:=Tryz.func233.trans (congrArg some (by kernel_rfl))
 f219:=Tryz.func253.trans (congrArg some (by kernel_rfl))
 f224:=Tryz.func294.trans (congrArg some (by kernel_rfl))
 f225:=Tryz.func293.trans (congrArg some (by kernel_rfl))
 f266:=Tryz.func280.trans (congrArg some (by kernel_rfl))
 f267:=Tryz.func295.trans (congrArg some (by kernel_rfl))
 f314:=Tryz.func329.trans (congrArg some (by kernel_rfl))
 t3:=Tryz.underlying3
 a3:=Tryz.isAgg3
 z3:=Tryz.sizeOf3
 v3:=Tryz.zeroValue3
 t4:=Tryz.underlying4
 a4:=Tryz.isAgg4
 z4:=Tryz.sizeOf4
 v4:=Tryz.zeroValue4
 t5:=Tryz.underlying5
 a5:=Tryz.isAgg5
 z5:=Tryz.sizeOf5
 v5:=Tryz.zeroValue5
 t9:=Tryz.underlying9
 a9:=Tryz.isAgg9
 z9:=Tryz.sizeOf9
 v9:=Tryz.zeroValue9
 t46:=Tryz.underlying115
 a46:=Tryz.isAgg115
 z46:=Tryz.sizeOf115
 v46:=Tryz.zeroValue115
 t51:=Tryz.underlying223
 a51:=Tryz.isAgg223
 z51:=Tryz.sizeOf223
 v51:=Tryz.zeroValue223
 t146:=Tryz.underlying322
 a146:=Tryz.isAgg322
 z146:=Tryz.sizeOf322
 v146:=Tryz.zeroValue322
 g1:=by kernel_rfl}
open Go.RowKit Go.Lib in
theorem Tryz.stringslite_Index_one (s:ByteArray)(c:UInt8)(w:World):
  Calls Tryz.prog 253 #[.string s,.string ⟨#[c]⟩] w λe w'=>e= .returned (.int .i64 (Lib.indexByte s.data.toList c))/\w'=w:=Any.stringslite_Index_one Tryz.lays219 s c w
def Tryz.lays143_ren:Go.Shelf.Ren:=⟨fun|143=>283|219=>253|217=>233|225=>293|224=>294|267=>295|266=>280|314=>329|n=>n,fun|9=>9|3=>3|4=>4|5=>5|46=>115|146=>322|51=>223|n=>n,fun|1=>1|n=>n⟩
theorem Tryz.lays143:Go.Proofs.Lays.n143 Tryz.prog Tryz.lays143_ren:={
 mixed:=by kernel_rfl
 f143:=Tryz.func283.trans (congrArg some (by kernel_rfl))
 f217:=Tryz.func233.trans (congrArg some (by kernel_rfl))
 f219:=Tryz.func253.trans (congrArg some (by kernel_rfl))
 f224:=Tryz.func294.trans (congrArg some (by kernel_rfl))
 f225:=Tryz.func293.trans (congrArg some (by kernel_rfl))
 f266:=Tryz.func280.trans (congrArg some (by kernel_rfl))
 f267:=Tryz.func295.trans (congrArg some (by kernel_rfl))
 f314:=Tryz.func329.trans (congrArg some (by kernel_rfl))
 t3:=Tryz.underlying3
 a3:=Tryz.isAgg3
 z3:=Tryz.sizeOf3
 v3:=Tryz.zeroValue3
 t4:=Tryz.underlying4
 a4:=Tryz.isAgg4
 z4:=Tryz.sizeOf4
 v4:=Tryz.zeroValue4
 t5:=Tryz.underlying5
 a5:=Tryz.isAgg5
 z5:=Tryz.sizeOf5
 v5:=Tryz.zeroValue5
 t9:=Tryz.underlying9
 a9:=Tryz.isAgg9
 z9:=Tryz.sizeOf9
 v9:=Tryz.zeroValue9
 t46:=Tryz.underlying115
 a46:=Tryz.isAgg115
 z46:=Tryz.sizeOf115
 v46:=Tryz.zeroValue115
 t51:=Tryz.underlying223
 a51:=Tryz.isAgg223
 z51:=Tryz.sizeOf223
 v51:=Tryz.zeroValue223
 t146:=Tryz.underlying322
 a146:=Tryz.isAgg322
 z146:=Tryz.sizeOf322
 v146:=Tryz.zeroValue322
 g1:=by kernel_rfl}
open Go.RowKit Go.Lib in
theorem Tryz.strings_Index_one (s:ByteArray)(c:UInt8)(w:World):
  Calls Tryz.prog 283 #[.string s,.string ⟨#[c]⟩] w λe w'=>e= .returned (.int .i64 (Lib.indexByte s.data.toList c))/\w'=w:=Any.strings_Index_one Tryz.lays143 s c w
def Tryz.lays138_ren:Go.Shelf.Ren:=⟨fun|138=>282|195=>322|218=>324|143=>283|219=>253|217=>233|225=>293|224=>294|267=>295|266=>280|314=>329|n=>n,fun|9=>9|3=>3|4=>4|5=>5|0=>0|46=>115|146=>322|51=>223|n=>n,fun|1=>1|n=>n⟩
theorem Tryz.lays138:Go.Proofs.Lays.n138 Tryz.prog Tryz.lays138_ren:={
 mixed:=by kernel_rfl
 f138:=Tryz.func282.trans (congrArg some (by kernel_rfl))
 f143:=Tryz.func283.trans (congrArg some (by kernel_rfl))
 f195:=Tryz.func322.trans (congrArg some (by kernel_rfl))
 f217:=Tryz.func233.trans (congrArg some (by kernel_rfl))
 f218:=Tryz.func324.trans (congrArg some (by kernel_rfl))
 f219:=Tryz.func253.trans (congrArg some (by kernel_rfl))
 f224:=Tryz.func294.trans (congrArg some (by kernel_rfl))
 f225:=Tryz.func293.trans (congrArg some (by kernel_rfl))
 f266:=Tryz.func280.trans (congrArg some (by kernel_rfl))
 f267:=Tryz.func295.trans (congrArg some (by kernel_rfl))
 f314:=Tryz.func329.trans (congrArg some (by kernel_rfl))
 t0:=Tryz.underlying0
 a0:=Tryz.isAgg0
 z0:=Tryz.sizeOf0
 v0:=Tryz.zeroValue0
 t3:=Tryz.underlying3
 a3:=Tryz.isAgg3
 z3:=Tryz.sizeOf3
 v3:=Tryz.zeroValue3
 t4:=Tryz.underlying4
 a4:=Tryz.isAgg4
 z4:=Tryz.sizeOf4
 v4:=Tryz.zeroValue4
 t5:=Tryz.underlying5
 a5:=Tryz.isAgg5
 z5:=Tryz.sizeOf5
 v5:=Tryz.zeroValue5
 t9:=Tryz.underlying9
 a9:=Tryz.isAgg9
 z9:=Tryz.sizeOf9
 v9:=Tryz.zeroValue9
 t46:=Tryz.underlying115
 a46:=Tryz.isAgg115
 z46:=Tryz.sizeOf115
 v46:=Tryz.zeroValue115
 t51:=Tryz.underlying223
 a51:=Tryz.isAgg223
 z51:=Tryz.sizeOf223
 v51:=Tryz.zeroValue223
 t146:=Tryz.underlying322
 a146:=Tryz.isAgg322
 z146:=Tryz.sizeOf322
 v146:=Tryz.zeroValue322
 g1:=by kernel_rfl}
open Go.RowKit Go.Lib in
theorem Tryz.strings_Count_one (s:ByteArray)(c:UInt8)(w:World):
  Calls Tryz.prog 282 #[.string s,.string ⟨#[c]⟩] w λe w'=>e= .returned (.int .i64 (Lib.countByte s.data.toList c))/\w'=w:=Any.strings_Count_one Tryz.lays138 s c w
def Tryz.laysM143_ren:Go.Shelf.Ren:=⟨fun|143=>283|219=>253|217=>233|225=>293|224=>294|267=>295|266=>280|314=>329|n=>n,fun|9=>9|3=>3|4=>4|5=>5|46=>115|146=>322|51=>223|n=>n,fun|1=>1|n=>n⟩
theorem Tryz.laysM143:Go.Proofs.LaysM.n143 Tryz.prog Tryz.laysM143_ren:={
 mixed:=by kernel_rfl
 f143:=Tryz.func283.trans (congrArg some (by kernel_rfl))
 f217:=Tryz.func233.trans (congrArg some (by kernel_rfl))
 f219:=Tryz.func253.trans (congrArg some (by kernel_rfl))
 f224:=Tryz.func294.trans (congrArg some (by kernel_rfl))
 f225:=Tryz.func293.trans (congrArg some (by kernel_rfl))
 f266:=Tryz.func280.trans (congrArg some (by kernel_rfl))
 f267:=Tryz.func295.trans (congrArg some (by kernel_rfl))
 f314:=Tryz.func329.trans (congrArg some (by kernel_rfl))
 t3:=Tryz.underlying3
 a3:=Tryz.isAgg3
 z3:=Tryz.sizeOf3
 v3:=Tryz.zeroValue3
 t4:=Tryz.underlying4
 a4:=Tryz.isAgg4
 z4:=Tryz.sizeOf4
 v4:=Tryz.zeroValue4
 t5:=Tryz.underlying5
 a5:=Tryz.isAgg5
 z5:=Tryz.sizeOf5
 v5:=Tryz.zeroValue5
 t9:=Tryz.underlying9
 a9:=Tryz.isAgg9
 z9:=Tryz.sizeOf9
 v9:=Tryz.zeroValue9
 t46:=Tryz.underlying115
 a46:=Tryz.isAgg115
 z46:=Tryz.sizeOf115
 v46:=Tryz.zeroValue115
 t51:=Tryz.underlying223
 a51:=Tryz.isAgg223
 z51:=Tryz.sizeOf223
 v51:=Tryz.zeroValue223
 t146:=Tryz.underlying322
 a146:=Tryz.isAgg322
 z146:=Tryz.sizeOf322
 v146:=Tryz.zeroValue322
 g1:=by kernel_rfl
 i3:=by kernel_rfl
 i4:=by kernel_rfl
 i5:=by kernel_rfl
 i9:=by kernel_rfl
 i46:=by kernel_rfl
 i51:=by kernel_rfl
 i146:=by kernel_rfl
 m1:=by kernel_rfl
 s1_3:=λw h=>Go.Proofs.cell_of_shapedOpen_int (zero:= #[.int .i64 0]) (t:=3) h (of_decide_eq_true (by kernel_rfl)) (by kernel_rfl) rfl (by kernel_rfl) (by kernel_rfl) Tryz.underlying3}
def Tryz.lays99_ren:Go.Shelf.Ren:=⟨fun|99=>307|206=>266|n=>n,fun|9=>9|4=>4|3=>3|n=>n,fun|n=>n⟩
theorem Tryz.lays99:Go.Proofs.Lays.n99 Tryz.prog Tryz.lays99_ren:={
 mixed:=by kernel_rfl
 f99:=Tryz.func307.trans (congrArg some (by kernel_rfl))
 f206:=Tryz.func266.trans (congrArg some (by kernel_rfl))
 t3:=Tryz.underlying3
 a3:=Tryz.isAgg3
 z3:=Tryz.sizeOf3
 v3:=Tryz.zeroValue3
 t4:=Tryz.underlying4
 a4:=Tryz.isAgg4
 z4:=Tryz.sizeOf4
 v4:=Tryz.zeroValue4
 t9:=Tryz.underlying9
 a9:=Tryz.isAgg9
 z9:=Tryz.sizeOf9
 v9:=Tryz.zeroValue9}
open Go.RowKit Go.Lib in
theorem Tryz.strings_HasPrefix (s p:ByteArray)(w:World):
  Calls Tryz.prog 307 #[.string s,.string p] w λe w'=>e= .returned (.bool (Lib.hasPrefix s.data.toList p.data.toList))/\w'=w:=Any.strings_HasPrefix Tryz.lays99 s p w
def Tryz.lays221_ren:Go.Shelf.Ren:=⟨fun|221=>235|268=>281|138=>282|143=>283|195=>322|197=>323|218=>324|219=>253|260=>347|217=>233|225=>293|224=>294|267=>295|266=>280|314=>329|n=>n,fun|9=>9|3=>3|31=>75|4=>4|0=>0|105=>317|21=>21|5=>5|46=>115|119=>337|139=>340|138=>339|146=>322|51=>223|n=>n,fun|1=>1|3=>4|4=>5|n=>n⟩
theorem Tryz.lays221:Go.Proofs.Lays.n221 Tryz.prog Tryz.lays221_ren:={
 mixed:=by kernel_rfl
 f138:=Tryz.func282.trans (congrArg some (by kernel_rfl))
 f143:=Tryz.func283.trans (congrArg some (by kernel_rfl))
 f195:=Tryz.func322.trans (congrArg some (by kernel_rfl))
 f197:=Tryz.func323.trans (congrArg some (by kernel_rfl))
 f217:=Tryz.func233.trans (congrArg some (by kernel_rfl))
 f218:=Tryz.func324.trans (congrArg some (by kernel_rfl))
 f219:=Tryz.func253.trans (congrArg some (by kernel_rfl))
 f221:=Tryz.func235.trans (congrArg some (by kernel_rfl))
 f224:=Tryz.func294.trans (congrArg some (by kernel_rfl))
 f225:=Tryz.func293.trans (congrArg some (by kernel_rfl))
 f260:=Tryz.func347.trans (congrArg some (by kernel_rfl))
 f266:=Tryz.func280.trans (congrArg some (by kernel_rfl))
 f267:=Tryz.func295.trans (congrArg some (by kernel_rfl))
 f268:=Tryz.func281.trans (congrArg some (by kernel_rfl))
 f314:=Tryz.func329.trans (congrArg some (by kernel_rfl))
 t0:=Tryz.underlying0
 a0:=Tryz.isAgg0
 z0:=Tryz.sizeOf0
 v0:=Tryz.zeroValue0
 t3:=Tryz.underlying3
 a3:=Tryz.isAgg3
 z3:=Tryz.sizeOf3
 v3:=Tryz.zeroValue3
 t4:=Tryz.underlying4
 a4:=Tryz.isAgg4
 z4:=Tryz.sizeOf4
 v4:=Tryz.zeroValue4
 t5:=Tryz.underlying5
 a5:=Tryz.isAgg5
 z5:=Tryz.sizeOf5
 v5:=Tryz.zeroValue5
 t9:=Tryz.underlying9
 a9:=Tryz.isAgg9
 z9:=Tryz.sizeOf9
 v9:=Tryz.zeroValue9
 t21:=Tryz.underlying21
 a21:=Tryz.isAgg21
 z21:=Tryz.sizeOf21
 v21:=Tryz.zeroValue21
 t31:=Tryz.underlying75
 a31:=Tryz.isAgg75
 z31:=Tryz.sizeOf75
 v31:=Tryz.zeroValue75
 t46:=Tryz.underlying115
 a46:=Tryz.isAgg115
 z46:=Tryz.sizeOf115
 v46:=Tryz.zeroValue115
 t51:=Tryz.underlying223
 a51:=Tryz.isAgg223
 z51:=Tryz.sizeOf223
 v51:=Tryz.zeroValue223
 t105:=Tryz.underlying317
 a105:=Tryz.isAgg317
 z105:=Tryz.sizeOf317
 v105:=Tryz.zeroValue317
 t119:=Tryz.underlying337
 a119:=Tryz.isAgg337
 z119:=Tryz.sizeOf337
 t138:=Tryz.underlying339
 a138:=Tryz.isAgg339
 z138:=Tryz.sizeOf339
 v138:=Tryz.zeroValue339
 t139:=Tryz.underlying340
 a139:=Tryz.isAgg340
 z139:=Tryz.sizeOf340
 v139:=Tryz.zeroValue340
 t146:=Tryz.underlying322
 a146:=Tryz.isAgg322
 z146:=Tryz.sizeOf322
 v146:=Tryz.zeroValue322
 g1:=by kernel_rfl
 g3:=by kernel_rfl
 g4:=by kernel_rfl}
def Tryz.lays146_ren:Go.Shelf.Ren:=⟨fun|146=>239|221=>235|268=>281|138=>282|143=>283|195=>322|197=>323|218=>324|219=>253|260=>347|217=>233|225=>293|224=>294|267=>295|266=>280|314=>329|n=>n,fun|9=>9|31=>75|3=>3|4=>4|0=>0|105=>317|21=>21|5=>5|46=>115|119=>337|139=>340|138=>339|146=>322|51=>223|n=>n,fun|1=>1|3=>4|4=>5|n=>n⟩
theorem Tryz.lays146:Go.Proofs.Lays.n146 Tryz.prog Tryz.lays146_ren:={
 mixed:=by kernel_rfl
 f138:=Tryz.func282.trans (congrArg some (by kernel_rfl))
 f143:=Tryz.func283.trans (congrArg some (by kernel_rfl))
 f146:=Tryz.func239.trans (congrArg some (by kernel_rfl))
 f195:=Tryz.func322.trans (congrArg some (by kernel_rfl))
 f197:=Tryz.func323.trans (congrArg some (by kernel_rfl))
 f217:=Tryz.func233.trans (congrArg some (by kernel_rfl))
 f218:=Tryz.func324.trans (congrArg some (by kernel_rfl))
 f219:=Tryz.func253.trans (congrArg some (by kernel_rfl))
 f221:=Tryz.func235.trans (congrArg some (by kernel_rfl))
 f224:=Tryz.func294.trans (congrArg some (by kernel_rfl))
 f225:=Tryz.func293.trans (congrArg some (by kernel_rfl))
 f260:=Tryz.func347.trans (congrArg some (by kernel_rfl))
 f266:=Tryz.func280.trans (congrArg some (by kernel_rfl))
 f267:=Tryz.func295.trans (congrArg some (by kernel_rfl))
 f268:=Tryz.func281.trans (congrArg some (by kernel_rfl))
 f314:=Tryz.func329.trans (congrArg some (by kernel_rfl))
 t0:=Tryz.underlying0
 a0:=Tryz.isAgg0
 z0:=Tryz.sizeOf0
 v0:=Tryz.zeroValue0
 t3:=Tryz.underlying3
 a3:=Tryz.isAgg3
 z3:=Tryz.sizeOf3
 v3:=Tryz.zeroValue3
 t4:=Tryz.underlying4
 a4:=Tryz.isAgg4
 z4:=Tryz.sizeOf4
 v4:=Tryz.zeroValue4
 t5:=Tryz.underlying5
 a5:=Tryz.isAgg5
 z5:=Tryz.sizeOf5
 v5:=Tryz.zeroValue5
 t9:=Tryz.underlying9
 a9:=Tryz.isAgg9
 z9:=Tryz.sizeOf9
 v9:=Tryz.zeroValue9
 t21:=Tryz.underlying21
 a21:=Tryz.isAgg21
 z21:=Tryz.sizeOf21
 v21:=Tryz.zeroValue21
 t31:=Tryz.underlying75
 a31:=Tryz.isAgg75
 z31:=Tryz.sizeOf75
 v31:=Tryz.zeroValue75
 t46:=Tryz.underlying115
 a46:=Tryz.isAgg115
 z46:=Tryz.sizeOf115
 v46:=Tryz.zeroValue115
 t51:=Tryz.underlying223
 a51:=Tryz.isAgg223
 z51:=Tryz.sizeOf223
 v51:=Tryz.zeroValue223
 t105:=Tryz.underlying317
 a105:=Tryz.isAgg317
 z105:=Tryz.sizeOf317
 v105:=Tryz.zeroValue317
 t119:=Tryz.underlying337
 a119:=Tryz.isAgg337
 z119:=Tryz.sizeOf337
 t138:=Tryz.underlying339
 a138:=Tryz.isAgg339
 z138:=Tryz.sizeOf339
 v138:=Tryz.zeroValue339
 t139:=Tryz.underlying340
 a139:=Tryz.isAgg340
 z139:=Tryz.sizeOf340
 v139:=Tryz.zeroValue340
 t146:=Tryz.underlying322
 a146:=Tryz.isAgg322
 z146:=Tryz.sizeOf322
 v146:=Tryz.zeroValue322
 g1:=by kernel_rfl
 g3:=by kernel_rfl
 g4:=by kernel_rfl}
open Go.RowKit Go.Lib in
theorem Tryz.strings_Split (s sep:ByteArray)(m:Int)(w:World)(hs:s.size<4294967281)(hm:w.cell? ⟨1,0,none⟩=some (.int .i64 m))(h1:1<=sep.size):
  Calls Tryz.prog 239 #[.string s,.string sep] w λe w'=>
   e= .returned (.slice (some ⟨w.heap.size,0,none⟩) (Lib.countB s sep+1) (Lib.countB s sep+1))/\w'=w.alloc (.cells ((Lib.splitB sep 0 (Lib.countB s sep) s).map Value.string).toArray 9):=Any.strings_Split Tryz.lays146 (by kernel_rfl) s sep m w hs hm h1
end Go.Proofs
end
namespace Go.Proofs.YteghandhpbmpgaaGreatDoor
open Go.RowKit
section
theorem d2 (c:UInt8)(l:List UInt8):Lib.indexByte l c=Lib.index l [c]:=by
 induction l with
 |nil=>rfl
 |cons b r ih=>
  rw [Lib.indexByte,Lib.index,ih]
  by_cases h:b=c
  ·subst h;simp
  ·have e1:([c].isPrefixOf (b::r))=false:=by simp [List.isPrefixOf];exact λe=>h e.symm
   rw [e1];simp [h]
theorem cutB (s:List UInt8)(c:UInt8):Lib.cut (mkS s).data.toList (⟨#[c]⟩:ByteArray).data.toList=z7 c s:=cutAt_cut c s
theorem scut_any (s:List UInt8)(c:UInt8)(w:World)(hs:(mkS s).size<4294967281):
  YC 213 #[.string (mkS s),.string ⟨#[c]⟩] w λe w'=>e= .returned (.tuple #[.string (mkS (z7 c s).1),.string (mkS (z7 c s).2.1),.bool (z7 c s).2.2])∧∃ n,w'=w.drewN n:=by
 have hc:=cutB s c
 rcases Lib.indexB_cases (mkS s) ⟨#[c]⟩ with hix|⟨i,hix,hroom⟩
 ·obtain ⟨e1,e2,e3⟩:=Lib.cutB_miss (mkS s) ⟨#[c]⟩ hix
  rw [hc] at e1 e2 e3
  rw [show mkS (z7 c s).1=mkS s from e1,show mkS (z7 c s).2.1=ByteArray.empty from e2,e3]
  have hixb:Lib.indexByte (mkS s).data.toList c= -1:=(d2 c _).trans hix
  have H:=Lib.hid hixb
  clear hc e1 e2 e3 hix hixb
  go_enter Tryz.func213,Tryz.ntmps213
  go_wp2_with (go_at_call 253;refine (Tryz.stringslite_Index_one (mkS s) c _).mono ?_;rintro e w' ⟨rfl,rfl⟩;rw [H.out])
  go_ret3
  exact ⟨rfl,0,rfl⟩
 ·obtain ⟨e1,e2,e3⟩:=Lib.cutB_hit (mkS s) ⟨#[c]⟩ i hix
  rw [hc] at e1 e2 e3
  rw [show mkS (z7 c s).1=_ from e1,show mkS (z7 c s).2.1=_ from e2,e3]
  have hroom':i+1<=(mkS s).size:=hroom
  rw [show i+(⟨#[c]⟩:ByteArray).size=i+1 from rfl]
  have c1:(0:Int)≤↑i:=by omega
  have c2:(↑i:Int)≤↑(mkS s).size:=by omega
  have c3:(0:Int)≤↑i+1:=by omega
  have c4:(↑i+1:Int)≤↑(mkS s).size:=by omega
  have hixb:Lib.indexByte (mkS s).data.toList c=(i:Int):=(d2 c _).trans hix
  have H:=Lib.hid hixb
  clear hc e1 e2 e3 hix hixb
  go_enter Tryz.func213,Tryz.ntmps213
  go_wp2_with (go_at_call 253;refine (Tryz.stringslite_Index_one (mkS s) c _).mono ?_;rintro e w' ⟨rfl,rfl⟩;rw [H.out])
  have mixed:Tryz.prog.follows .mixedOrders=true:=by kernel_rfl
  have hwr:IntKind.i64.wrap ((i:Int)+1)=(i:Int)+1:=IntWalk.i64_in _ Om
  have hnat:((i:Int)+1).toNat=i+1:=by omega
  go_region_o
  go_wp2
  go_ret3
  exact ⟨rfl,1,rfl⟩
theorem cut_any (s:List UInt8)(c:UInt8)(w:World)(hs:s.length<4294967281):
  YC 153 #[.string (mkS s),.string ⟨#[c]⟩] w λe w'=>e= .returned (.tuple #[.string (mkS (z7 c s).1),.string (mkS (z7 c s).2.1),.bool (z7 c s).2.2])∧∃ n,w'=w.drewN n:=by
 have hs':(mkS s).size<4294967281:=by unfold mkS;simpa [ByteArray.size] using hs
 go_enter Tryz.func153,Tryz.ntmps153
 go_wp2_with (go_at_call 213;refine (scut_any s c _ hs').mono ?_;rintro e w' ⟨rfl,n,rfl⟩)
 go_ret3
 exact ⟨rfl,n,rfl⟩
theorem tU (s:List UInt8)(c:UInt8)(w:World)(hs:s.length<4294967281):
  YC 153 #[.string (mkS s),.string ⟨#[c]⟩] w (YR (.tuple #[.string (mkS (z7 c s).1),.string (mkS (z7 c s).2.1),.bool (z7 c s).2.2]) w):=
 (cut_any s c w hs).mono λ_ _ ⟨he,n,hw⟩=>⟨he,by rw [hw];exact below_drewN (Below.refl _ _) n⟩
end
section
theorem kS {a b:Int}{p q:Bool}(h:a=b)(h2:p=q):Ending.returned (.tuple #[YI a,.bool p])= .returned (.tuple #[YI b,.bool q]):=by rw [h,h2]
theorem kD {s:ByteArray}(h:yC 0 true s.data.toList=none):numV s=0:=by unfold numV numB;rw [h];rfl
theorem xD {s:ByteArray}(h:yC 0 true s.data.toList=none):numOk s=false:=by unfold numOk numB;rw [h];rfl
theorem numV_some {s:ByteArray}{n:Nat}(h:yC 0 true s.data.toList=some n):numV s=n:=by unfold numV numB;rw [h];rfl
theorem pI {s:ByteArray}{n:Nat}(h:yC 0 true s.data.toList=some n):numOk s=true:=by unfold numOk numB;rw [h];rfl
theorem pN {n:Nat}(h:yP n=true):48<=n/\n<=57:=by unfold yP at h;simp at h;omega
theorem number_any (s:ByteArray)(w:World)(hs:s.size<=maxLen):
  YC 155 #[.string s] w (YR (.tuple #[YI (numV s),.bool (numOk s)]) w):=by
 unfold maxLen at hs
 go_enter Tryz.func155,Tryz.ntmps155
 go_wp2
 go_loopw [4] (λv wr=>∃ (pos n:Nat),wr=w.iter s pos/\pos<=s.size/\n<=9999/\v=YI n/\Hid (pos=0->n=0)/\Hid (yC n (decide (pos=0)) (s.data.toList.drop pos)=yC 0 true s.data.toList)) (λ_ wr=>s.size-wr.iterPos w.heap.size)
 case atStart=>exact ⟨0,0,rfl,Nat.zero_le _,by omega,rfl,λ_=>rfl,rfl⟩
 case round=>
  obtain ⟨pos,n,rfl,hple,hn,rfl,HZ,HR⟩:=hrel
  by_cases hp:pos<s.size
  ·have HD:=Lib.hid (kZ s pos hp)
   by_cases ha:(s[pos]'hp).toNat<128
   ·have hnx:∀ ty,(Instr.next (.pointer (some ⟨w.heap.size,0,none⟩)) true ty).run Tryz.prog (w.iter s pos)=_:=λty=>run_next_ascii w s pos ty hp ha
    by_cases hd:yP (s[pos]'hp).toNat=true
    ·have HG:=Lib.hid hd
     obtain ⟨hlo,hhi⟩:=pN hd
     clear hd
     by_cases h0:pos=0
     ·subst h0
      by_cases h3:n*10+((s[0]'hp).toNat-48)<=9999
      ·have h3i:(n:Int)*10+(((s[0]'hp).toNat:Int) -48)<=9999:=by omega
       go_wp2_with (go_at_call 90;refine (x4 _ true HG.out _).mono ?_;rintro e w' ⟨rfl,rfl⟩)
       go_roundw
       case rel=>exact ⟨0+1,n*10+((s[0]'hp).toNat-48),rfl,by omega,h3,by go_num,λh=>by omega,by rw [←HR.out,HD.out,wS _ _ _ _ HG.out (by simp) h3];rfl⟩
       case measure=>simp;omega
      ·have h3i:9999<(n:Int)*10+(((s[0]'hp).toNat:Int) -48):=by omega
       go_wp2_with (go_at_call 90;refine (x4 _ true HG.out _).mono ?_;rintro e w' ⟨rfl,rfl⟩)
       go_ret2
       have HN:yC 0 true s.data.toList=none:=by rw [←HR.out,HD.out,n6 _ _ _ _ h3]
       exact ⟨kS (kD HN).symm (xD HN).symm,zS _ _ _⟩
     ·have hpos:0<pos:=by omega
      by_cases hz:n=0
      ·have hzb:((n:Int)==0)=true:=by simp [hz]
       have HZ2:=Lib.hid hz
       clear hz
       go_wp2_with (go_at_call 90;refine (x4 _ true HG.out _).mono ?_;rintro e w' ⟨rfl,rfl⟩)
       go_ret2
       have HN:yC 0 true s.data.toList=none:=by rw [←HR.out,HD.out,HZ2.out,decide_eq_false Om,pJ]
       exact ⟨kS (kD HN).symm (xD HN).symm,zS _ _ _⟩
      ·have hzb:((n:Int)==0)=false:=by simpa using hz
       by_cases h3:n*10+((s[pos]'hp).toNat-48)<=9999
       ·have h3i:(n:Int)*10+(((s[pos]'hp).toNat:Int) -48)<=9999:=by omega
        go_wp2_with (go_at_call 90;refine (x4 _ true HG.out _).mono ?_;rintro e w' ⟨rfl,rfl⟩)
        go_roundw
        case rel=>exact ⟨pos+1,n*10+((s[pos]'hp).toNat-48),rfl,by omega,h3,by go_num,λh=>by omega,by rw [←HR.out,HD.out,wS _ _ _ _ HG.out (λh=>hz h.2) h3];rfl⟩
        case measure=>simp;omega
       ·have h3i:9999<(n:Int)*10+(((s[pos]'hp).toNat:Int) -48):=by omega
        go_wp2_with (go_at_call 90;refine (x4 _ true HG.out _).mono ?_;rintro e w' ⟨rfl,rfl⟩)
        go_ret2
        have HN:yC 0 true s.data.toList=none:=by rw [←HR.out,HD.out,n6 _ _ _ _ h3]
        exact ⟨kS (kD HN).symm (xD HN).symm,zS _ _ _⟩
    ·have HG:=Lib.hid (Bool.eq_false_iff.2 hd)
     clear hd
     go_wp2_with (go_at_call 90;refine (x4 _ false HG.out _).mono ?_;rintro e w' ⟨rfl,rfl⟩)
     go_ret2
     have HN:yC 0 true s.data.toList=none:=by rw [←HR.out,HD.out,wL _ _ _ _ HG.out]
     exact ⟨kS (kD HN).symm (xD HN).symm,zS _ _ _⟩
   ·have hnx:∀ ty,(Instr.next (.pointer (some ⟨w.heap.size,0,none⟩)) true ty).run Tryz.prog (w.iter s pos)=_:=λty=>run_next_any w s pos ty hp
    have hhi:=(decode_high s pos hp Om).1
    have HG:=Lib.hid (nI _ hhi)
    go_wp2_with (go_at_call 90;refine (x4 _ false HG.out _).mono ?_;rintro e w' ⟨rfl,rfl⟩)
    go_ret2
    have HN:yC 0 true s.data.toList=none:=by rw [←HR.out,HD.out,wL _ _ _ _ (mI _ Om)]
    exact ⟨kS (kD HN).symm (xD HN).symm,zS _ _ _⟩
  ·have hnx:∀ ty,(Instr.next (.pointer (some ⟨w.heap.size,0,none⟩)) true ty).run Tryz.prog (w.iter s pos)=_:=λty=>run_next_end w s pos ty hp
   have HD:=Lib.hid (vS s pos hp)
   by_cases he:s.size=0
   ·have hes:s=⟨#[]⟩:=by
     apply ByteArray.ext
     exact Array.eq_empty_of_size_eq_zero he
    subst hes
    obtain rfl:n=0:=HZ.out (Nat.le_zero.1 hple)
    go_wp2
    go_ret2
    exact ⟨kS (by decide) (by decide),zS _ _ _⟩
   ·have hse:(!s.toList.isEmpty)=true:=by
     rw [Lib.toList_data,Bool.not_eq_true',List.isEmpty_eq_false_iff];intro h;apply he;have:=congrArg List.length h;simpa using this
    have HSE:=Lib.hid hse
    clear hse
    go_wp2
    go_ret2
    have HN:yC 0 true s.data.toList=some n:=by rw [←HR.out,HD.out,decide_eq_false Om,yC];rfl
    exact ⟨kS (numV_some HN).symm (HSE.out.trans (pI HN).symm),zS _ _ _⟩
theorem foldV_snoc (l:List UInt8)(c:UInt8)(n:Nat):gQ n (l++[c])=gQ n l*10+(c.toNat-48):=by rw [tR];rfl
theorem mP (s:ByteArray)(k:Nat)(h:k<s.size):s.data.toList.take (k+1)=s.data.toList.take k++[s[k]]:=by
 rw [List.take_succ_eq_append_getElem (by simpa using h)];rfl
theorem allDig_snoc (l:List UInt8)(c:UInt8):zY (l++[c])=(zY l && yP c.toNat):=by rw [d3];unfold zY;rw [List.all_cons,List.all_nil,Bool.and_true]
theorem allDig_bad (s:ByteArray)(k:Nat)(h:k<s.size)(hd:yP s[k].toNat=false):zY s.data.toList=false:=by
 have e:s.data.toList=s.data.toList.take k++s[k]::s.data.toList.drop (k+1):=by rw [←kZ s k h,List.take_append_drop]
 rw [e,d3]
 have:zY (s[k]::s.data.toList.drop (k+1))=false:=by unfold zY;rw [List.all_cons,hd];rfl
 rw [this,Bool.and_false]
theorem qJ (s:ByteArray):s.data.toList.length=s.size:=by simp
theorem head_data (s:ByteArray)(h:0<s.size):s.data.toList.head?=some s[0]:=by
 have:=kZ s 0 h
 rw [List.drop_zero] at this
 rw [this];rfl
theorem ten_le {k:Nat}(h:k<=8):10^k<=100000000:=Nat.pow_le_pow_right Om h
theorem rnumber_any (s:ByteArray)(w:World)(hs:s.size<=maxLen):
  YC 168 #[.string s] w λe w'=>e= .returned (.tuple #[YI (numV s),.bool (numOk s)])/\w=w':=by
 unfold maxLen at hs
 have HREF:=Lib.hid (numGo_ref s.data.toList)
 by_cases h0:s.size<1
 ·have HN:yC 0 true s.data.toList=none:=by rw [HREF.out,numRef,if_pos (Or.inl (by rw [qJ];exact h0))]
  have HV:=Lib.hid (kD HN)
  have HO:=Lib.hid (xD HN)
  clear HN
  go_enter Tryz.func168,Tryz.ntmps168
  go_wp2
  go_ret2
  exact ⟨kS HV.out.symm HO.out.symm,rfl⟩
 ·have hp0:0<s.size:=by omega
  by_cases h9:s.size<=9
  ·by_cases hz:1<s.size/\(s[0].toNat:Int)=48
   ·have HN:yC 0 true s.data.toList=none:=by
     rw [HREF.out,numRef,if_pos (Or.inr (Or.inr ⟨by rw [qJ];exact hz.1,by rw [head_data s hp0,show s[0]=48 from UInt8.toNat_inj.1 (by have:=hz.2;show s[0].toNat=48;omega)]⟩))]
    have HV:=Lib.hid (kD HN)
    have HO:=Lib.hid (xD HN)
    clear HN
    have hb:((s[0].toNat:Int)==48)=true:=by simp [hz.2]
    have h1:1<s.size:=hz.1
    clear hz
    go_enter Tryz.func168,Tryz.ntmps168
    go_wp2
    go_ret2
    exact ⟨kS HV.out.symm HO.out.symm,rfl⟩
   ·have HN:Hid (yC 0 true s.data.toList=if zY s.data.toList=true/\gQ 0 s.data.toList<=9999 then some (gQ 0 s.data.toList) else none):=by
     show _=_
     rw [HREF.out,numRef,if_neg]
     rintro (h|h|h)
     ·rw [qJ] at h;omega
     ·rw [qJ] at h;omega
     ·rw [qJ,head_data s hp0] at h
      refine hz ⟨h.1, ?_⟩
      have:=Option.some.inj h.2
      rw [this];rfl
    have hb:1<s.size->((s[0].toNat:Int)==48)=false:=λh=>v6 (λe=>hz ⟨h,e⟩)
    clear hz
    by_cases h1:1<s.size
    ·have hb1:=hb h1
     clear hb
     go_enter Tryz.func168,Tryz.ntmps168
     go_wp2
     go_loop [4,5] (λv i=>∃ k n:Nat,k<=s.size/\v=YI n/\i=YI k/\Hid (n<10^k)/\Hid (n=gQ 0 (s.data.toList.take k))/\Hid (zY (s.data.toList.take k)=true)) (λ_ i=>s.size-(intOf i).toNat)
     case atStart=>exact ⟨0,0,Nat.zero_le _,rfl,rfl,by show 0<10^0;omega,rfl,rfl⟩
     case round=>
      obtain ⟨k,n,hk,rfl,rfl,HP,HF,HA⟩:=hrel
      by_cases hp:k<s.size
      ·by_cases hd:yP s[k].toNat=true
       ·have HG:=Lib.hid hd
        obtain ⟨hlo,hhi⟩:=pN hd
        clear hd
        have hn8:n<=100000000:=Nat.le_of_lt (Nat.lt_of_lt_of_le HP.out (ten_le Om))
        go_wp2_with (go_at_call 109;refine (mV _ true HG.out _).mono ?_;rintro e w' ⟨rfl,rfl⟩)
        go_round
        case rel=>
         refine ⟨k+1,n*10+(s[k].toNat-48),by omega,by go_num,by go_num, ?_, ?_, ?_⟩
         ·have:=HP.out
          show _<10^(k+1)
          rw [Nat.pow_succ];omega
         ·show _=_
          rw [mP s k hp,foldV_snoc,←HF.out]
         ·show _=_
          rw [mP s k hp,allDig_snoc,HA.out,HG.out];rfl
        case measure=>simp [intOf];omega
       ·have HG:=Lib.hid (Bool.eq_false_iff.2 hd)
        clear hd
        go_wp2_with (go_at_call 109;refine (mV _ false HG.out _).mono ?_;rintro e w' ⟨rfl,rfl⟩)
        go_ret2
        have HM:yC 0 true s.data.toList=none:=by rw [HN.out,allDig_bad s k hp HG.out];simp
        exact ⟨kS (kD HM).symm (xD HM).symm,rfl⟩
      ·have HT:Hid (s.data.toList.take k=s.data.toList):=List.take_of_length_le (by rw [qJ];omega)
       by_cases h4:n<=9999
       ·go_wp2
        go_ret2
        have HM:yC 0 true s.data.toList=some n:=by
         have e1:=HF.out
         have e2:=HA.out
         rw [HT.out] at e1 e2
         rw [HN.out,e2,←e1,if_pos ⟨rfl,h4⟩]
        exact ⟨kS (numV_some HM).symm (pI HM).symm,rfl⟩
       ·go_wp2
        go_ret2
        have HM:yC 0 true s.data.toList=none:=by
         have e1:=HF.out
         rw [HT.out] at e1
         rw [HN.out,←e1,if_neg (λh=>h4 h.2)]
        exact ⟨kS (kD HM).symm (xD HM).symm,rfl⟩
    ·clear hb
     go_enter Tryz.func168,Tryz.ntmps168
     go_wp2
     go_loop [4,5] (λv i=>∃ k n:Nat,k<=s.size/\v=YI n/\i=YI k/\Hid (n<10^k)/\Hid (n=gQ 0 (s.data.toList.take k))/\Hid (zY (s.data.toList.take k)=true)) (λ_ i=>s.size-(intOf i).toNat)
     case atStart=>exact ⟨0,0,Nat.zero_le _,rfl,rfl,by show 0<10^0;omega,rfl,rfl⟩
     case round=>
      obtain ⟨k,n,hk,rfl,rfl,HP,HF,HA⟩:=hrel
      by_cases hp:k<s.size
      ·by_cases hd:yP s[k].toNat=true
       ·have HG:=Lib.hid hd
        obtain ⟨hlo,hhi⟩:=pN hd
        clear hd
        have hn8:n<=100000000:=Nat.le_of_lt (Nat.lt_of_lt_of_le HP.out (ten_le Om))
        go_wp2_with (go_at_call 109;refine (mV _ true HG.out _).mono ?_;rintro e w' ⟨rfl,rfl⟩)
        go_round
        case rel=>
         refine ⟨k+1,n*10+(s[k].toNat-48),by omega,by go_num,by go_num, ?_, ?_, ?_⟩
         ·have:=HP.out
          show _<10^(k+1)
          rw [Nat.pow_succ];omega
         ·show _=_
          rw [mP s k hp,foldV_snoc,←HF.out]
         ·show _=_
          rw [mP s k hp,allDig_snoc,HA.out,HG.out];rfl
        case measure=>simp [intOf];omega
       ·have HG:=Lib.hid (Bool.eq_false_iff.2 hd)
        clear hd
        go_wp2_with (go_at_call 109;refine (mV _ false HG.out _).mono ?_;rintro e w' ⟨rfl,rfl⟩)
        go_ret2
        have HM:yC 0 true s.data.toList=none:=by rw [HN.out,allDig_bad s k hp HG.out];simp
        exact ⟨kS (kD HM).symm (xD HM).symm,rfl⟩
      ·have HT:Hid (s.data.toList.take k=s.data.toList):=List.take_of_length_le (by rw [qJ];omega)
       by_cases h4:n<=9999
       ·go_wp2
        go_ret2
        have HM:yC 0 true s.data.toList=some n:=by
         have e1:=HF.out
         have e2:=HA.out
         rw [HT.out] at e1 e2
         rw [HN.out,e2,←e1,if_pos ⟨rfl,h4⟩]
        exact ⟨kS (numV_some HM).symm (pI HM).symm,rfl⟩
       ·go_wp2
        go_ret2
        have HM:yC 0 true s.data.toList=none:=by
         have e1:=HF.out
         rw [HT.out] at e1
         rw [HN.out,←e1,if_neg (λh=>h4 h.2)]
        exact ⟨kS (kD HM).symm (xD HM).symm,rfl⟩
  ·have HN:yC 0 true s.data.toList=none:=by rw [HREF.out,numRef,if_pos (Or.inr (Or.inl (by rw [qJ];omega)))]
   have HV:=Lib.hid (kD HN)
   have HO:=Lib.hid (xD HN)
   clear HN
   go_enter Tryz.func168,Tryz.ntmps168
   go_wp2
   go_ret2
   exact ⟨kS HV.out.symm HO.out.symm,rfl⟩
end
section
theorem qP (r:Int)(b:Bool)(hb:yP r=b)(w:World):
  YC 154 #[.int .i32 r] w λe w'=>e= .returned (.bool b)/\w=w':=by
 subst hb
 unfold yP
 go_enter Tryz.func154,Tryz.ntmps154
 go_wp2
 all_goals go_ret
 all_goals exact ⟨zI (by simp;try omega),rfl⟩
theorem mL (c:UInt8)(r:List UInt8)(h:yP c.toNat=true):zY (c::r)=zY r:=by unfold zY;rw [List.all_cons,h,Bool.true_and]
theorem vA (c:UInt8)(r:List UInt8)(h:yP c.toNat=false):zY (c::r)=false:=by unfold zY;rw [List.all_cons,h,Bool.false_and]
theorem vnumeric_any (s:ByteArray)(w:World)(_hs:s.size<=maxLen):
  YC 156 #[.string s] w (YR (.bool (kP s.data.toList)) w):=by
 go_enter Tryz.func156,Tryz.ntmps156
 go_wp2
 go_loopw [] (λwr=>∃ (pos:Nat),wr=w.iter s pos/\pos<=s.size/\Hid (zY (s.data.toList.drop pos)=zY s.data.toList)) (λwr=>s.size-wr.iterPos w.heap.size)
 case atStart=>exact ⟨0,rfl,Nat.zero_le _,rfl⟩
 case round=>
  obtain ⟨pos,rfl,hple,HR⟩:=hrel
  by_cases hp:pos<s.size
  ·have HD:=Lib.hid (kZ s pos hp)
   by_cases ha:(s[pos]'hp).toNat<128
   ·have hnx:∀ ty,(Instr.next (.pointer (some ⟨w.heap.size,0,none⟩)) true ty).run Tryz.prog (w.iter s pos)=_:=λty=>run_next_ascii w s pos ty hp ha
    by_cases hd:yP (s[pos]'hp).toNat=true
    ·have HG:=Lib.hid hd
     clear hd
     go_wp2_with (go_at_call 154;refine (qP _ true HG.out _).mono ?_;rintro e w' ⟨rfl,rfl⟩)
     go_roundw
     case rel=>exact ⟨pos+1,rfl,by omega,by rw [←HR.out,HD.out,mL _ _ HG.out];rfl⟩
     case measure=>simp;omega
    ·have HG:=Lib.hid (Bool.eq_false_iff.2 hd)
     clear hd
     go_wp2_with (go_at_call 154;refine (qP _ false HG.out _).mono ?_;rintro e w' ⟨rfl,rfl⟩)
     go_ret
     exact ⟨zI (by unfold kP;rw [←HR.out,HD.out,vA _ _ HG.out,Bool.and_false]),zS _ _ _⟩
   ·have hnx:∀ ty,(Instr.next (.pointer (some ⟨w.heap.size,0,none⟩)) true ty).run Tryz.prog (w.iter s pos)=_:=λty=>run_next_any w s pos ty hp
    have hhi:=(decode_high s pos hp Om).1
    have HG:=Lib.hid (nI _ hhi)
    go_wp2_with (go_at_call 154;refine (qP _ false HG.out _).mono ?_;rintro e w' ⟨rfl,rfl⟩)
    go_ret
    exact ⟨zI (by unfold kP;rw [←HR.out,HD.out,vA _ _ (mI _ Om),Bool.and_false]),zS _ _ _⟩
  ·have hnx:∀ ty,(Instr.next (.pointer (some ⟨w.heap.size,0,none⟩)) true ty).run Tryz.prog (w.iter s pos)=_:=λty=>run_next_end w s pos ty hp
   have HD:=Lib.hid (vS s pos hp)
   go_wp2
   go_ret
   exact ⟨zI (by unfold kP;rw [←HR.out,HD.out];simp [zY,Lib.toList_data]),zS _ _ _⟩
theorem tagC_dig (c:UInt8)(h:yP c.toNat=true):bU c=true:=by unfold bU;rw [h];simp
theorem tagC_let (c:UInt8)(h:wW c.toNat=true):bU c=true:=by unfold bU;rw [h];simp
theorem tagC_dash (c:UInt8)(h:(c.toNat:Int)=45):bU c=true:=by unfold bU;rw [decide_eq_true h];simp
theorem tagC_bad (c:UInt8)(h1:yP c.toNat=false)(h2:wW c.toNat=false)(h3:¬ (c.toNat:Int)=45):bU c=false:=by unfold bU;rw [h1,h2,decide_eq_false h3];rfl
theorem all_ok (c:UInt8)(r:List UInt8)(h:bU c=true):(c::r).all bU=r.all bU:=by rw [List.all_cons,h,Bool.true_and]
theorem all_bad (c:UInt8)(r:List UInt8)(h:bU c=false):(c::r).all bU=false:=by rw [List.all_cons,h,Bool.false_and]
def xK (l:List (List UInt8)):Array Value:= #[.string (mkS (tg l 0)),.string (mkS (tg l 1)),.string (mkS (tg l 2)),.string (mkS (tg l 3))]
theorem tagOk_short {t:List UInt8}(h:t=[]):xR t=false:=by subst h;decide
theorem p6 {t:List UInt8}(h:8<t.length):xR t=false:=by
 unfold xR;rw [decide_eq_false Om];rfl
theorem tagOk_mid {t:List UInt8}(h:t≠[])(h2:t.length<=8):xR t=t.all bU:=by
 unfold xR
 have:1<=t.length:=by cases t<;>simp at h ⊢
 rw [decide_eq_true ⟨this,h2⟩,Bool.true_and]
theorem cutGo_bad (n:Nat)(s:List UInt8)(h:xR (z7 46 s).1=false):kA (n+1) s=([],false):=by
 unfold kA;rw [if_neg (by simp [h])]
theorem cutGo_on (n:Nat)(s:List UInt8)(h:xR (z7 46 s).1=true)(h2:(z7 46 s).2.2=true):kA (n+1) s=((z7 46 s).1::(kA n (z7 46 s).2.1).1,(kA n (z7 46 s).2.1).2):=by
 rw [kA,if_pos h,if_pos h2]
theorem lcells_snoc (acc:List (List UInt8))(x:List UInt8)(k:Nat)(hk:acc.length=k)(h4:k<4):(xK acc).setIfInBounds k (.string (mkS x))=xK (acc++[x]):=by
 subst hk
 match acc,h4 with
 | [],_=>rfl
 | [a],_=>rfl
 | [a,b],_=>rfl
 | [a,b,c],_=>rfl
def LRel (s:List UInt8)(w:World)(g:Nat)(s0 s5 s6:Value)(wr:World):Prop:=
 ∃ (acc:List (List UInt8)) (r:List UInt8) (k:Nat) (b:Bool),k+g=4/\s0= .string (mkS r)/\s5= .bool b/\s6=YI k/\r.length<=s.length∧
  wr.heap[w.heap.size]?=some (.cells (xK []) 120)/\wr.heap[w.heap.size+1]?=some (.cells (xK acc) 120)/\Below w.heap.size w wr∧
  (b=true->lst s=(acc,true))/\(b=false->acc.length=k/\lst s=(acc++(kA (4-k) r).1,(kA (4-k) r).2))
theorem tP (w:World)(o:Obj):(w.alloc o).heap[w.heap.size]?=some o:=by
 show (w.heap.push o)[w.heap.size]?=some o
 simp
theorem heap_at (w:World)(o:Obj)(k:Nat)(h:k=w.heap.size):(w.alloc o).heap[k]?=some o:=by subst h;exact tP w o
theorem heap_old (w:World)(o:Obj){k:Nat}(h:k<w.heap.size):(w.alloc o).heap[k]?=w.heap[k]?:=by
 show (w.heap.push o)[k]?=_
 rw [Array.getElem?_push,if_neg Om]
theorem kF (w:World)(s:ByteArray)(pos:Nat){k:Nat}(h:k<w.heap.size):(w.iter s pos).heap[k]?=w.heap[k]?:=heap_old w _ h
theorem qZ {w:World}{g j:Nat}{cs:Array Value}{t:TypeId}(hg:w.heap[g]?=some (.cells cs t (0,0)))(hj:j<cs.size):w.cell? ⟨g,j,none⟩=some cs[j]/\w.frozen? ⟨g,j,none⟩=false:=by
 refine ⟨by rw [cell_of_row w g j cs t (0,0) hg];simp [hj],by simp [World.frozen?,hg]⟩
theorem below_setRow {B g:Nat}{a w:World}(h:Below B a w)(hg:B<=g)(cs:Array Value):Below B a (w.setRow g cs):=by
 refine ⟨h.os,h.tape,h.output, ?_,h.drawn,λk hk=> ?_⟩
 ·have:=h.size;unfold World.setRow;simpa using this
 ·rw [←h.block k hk]
  unfold World.setRow
  have:g≠k:=by omega
  simp [Array.getElem?_modify,this]
theorem setRow_apart (w:World)(g k:Nat)(cs:Array Value)(h:g≠k):(w.setRow g cs).heap[k]?=w.heap[k]?:=by
 unfold World.setRow
 simp [Array.getElem?_modify,h]
theorem lcells_size (l:List (List UInt8)):(xK l).size=4:=rfl
theorem vH (l:List (List UInt8)):(xK l).all (·.oneCell')=true:=by simp [xK,Value.oneCell']
def LEnd (s:List UInt8)(w:World)(e:Ending)(w':World):Prop:=e= .returned (.tuple #[.agg (xK (lst s).1),.bool (lst s).2])/\Below w.heap.size w w'
theorem j7 {s:List UInt8}{w wr:World}{acc:List (List UInt8)}{b:Bool}{tmps:Array Value}(h2:tmps.getD 2 undef= .pointer (some ⟨w.heap.size,0,none⟩))(h3:tmps.getD 3 undef= .bool b)
  (hg:wr.heap[w.heap.size]?=some (.cells (xK []) 120)) (hbel:Below w.heap.size w wr) (hl:lst s=(acc,b)):
  bodyPost Tryz.prog Tryz.f92 (LEnd s w) .ret ⟨tmps,[]⟩ (wr.setRow w.heap.size (xK acc)):=by
 have hrow:=setRow_heap wr w.heap.size _ (xK acc) _ _ hg
 have hr:=run_loadVar_row (P:=Tryz.prog) (wr.setRow w.heap.size (xK acc)) w.heap.size 120 120 (xK acc) _ _ hrow Tryz.underlying120 rfl Kr
 have h2':tmps[2]?.getD undef= .pointer (some ⟨w.heap.size,0,none⟩):=by simpa using h2
 have h3':tmps[3]?.getD undef= .bool b:=by simpa using h3
 refine bodyPost_ret (v:= .tuple #[.agg (xK acc),.bool b]) (by simp [results,Tryz.results92,asAddr,h2',h3',hr]) rfl ⟨by rw [hl],below_setRow hbel (Nat.le_refl _) _⟩
theorem list_any0 (s:List UInt8)(w:World)(hs:s.length<4294967281):
  YC 92 #[.string (mkS s)] w (LEnd s w):=by
 go_enter Tryz.func92,Tryz.ntmps92
 go_wp2
 go_step3
 go_wp2
 go_step3
 go_wp2
 go_loopg [0,5,6] 4 (λg s0 s5 s6 wr=>LRel s w g s0 s5 s6 wr)
 case atStart=>
  refine ⟨[],s,0,s.isEmpty,by omega,rfl, ?_,rfl,Nat.le_refl _, ?_, ?_, ?_, ?_, ?_⟩
  ·rw [Lib.toList_data];rfl
  ·rw [heap_old _ _ (by simp),tP];rfl
  ·exact heap_at _ _ _ (by simp)
  ·exact ((Below.refl _ _).alloc (Nat.le_refl _) _).alloc (by simp) _
  ·intro h;unfold lst;rw [if_pos h]
  ·intro h;unfold lst;rw [if_neg (by simp [h])];exact ⟨rfl,rfl⟩
 case round=>
  obtain ⟨acc,r,k,b,hkg,rfl,rfl,rfl,hrl,hB0,hB1,hbel,hT,hF⟩:=hrel
  have HB0:=Lib.hid hB0
  have HB1:=Lib.hid hB1
  clear hB0 hB1
  cases b with
  |true=>
   have HT:=Lib.hid (hT rfl)
   clear hT hF
   by_cases hk4:(k:Int)<4
   all_goals
    go_wp2_with (first
     |(refine wpList_load_row rfl 120 _ rfl (w.heap.size+1) rfl _ _ _ _ HB1.out Tryz.underlying120 rfl Kr ?_)
     |(refine wpList_store_row rfl 120 _ _ rfl w.heap.size (xK acc) rfl rfl _ _ HB0.out Kr rfl (vH acc) ?_))
    exact j7 rfl rfl HB0.out hbel HT.out
  |false=>
   have HKL:=Lib.hid (hF rfl).1
   have HL:=Lib.hid (hF rfl).2
   clear hT hF
   cases gk with
   |zero=>
    have hk4:¬ (k:Int)<4:=by omega
    go_wp2_with (first
     |(refine wpList_load_row rfl 120 _ rfl (w.heap.size+1) rfl _ _ _ _ HB1.out Tryz.underlying120 rfl Kr ?_)
     |(refine wpList_store_row rfl 120 _ _ rfl w.heap.size (xK acc) rfl rfl _ _ HB0.out Kr rfl (vH acc) ?_))
    exact j7 rfl rfl HB0.out hbel (by rw [HL.out,show 4-k=0 from by omega,kA,List.append_nil])
   |succ g=>
    have hk4:(k:Int)<4:=by omega
    obtain ⟨t,rest,more,hcut⟩:∃ t rest more,z7 46 r=(t,rest,more):=⟨_,_,_,rfl⟩
    have hle:=tV 46 r
    have cC:=tU r 46 wr Om
    have hG:(∀ n,kA (n+1) r=if xR t then (if more then (t::(kA n rest).1,(kA n rest).2) else ([t],true)) else ([],false)):=by
     intro n;rw [kA,hcut]
    have HG:=Lib.hid hG
    clear hG
    rw [hcut] at cC hle
    dsimp only at cC hle
    have htz:(mkS t).size=t.length:=by unfold mkS;simp [ByteArray.size]
    have HC:=Lib.hid hcut
    clear hcut
    have hsz0:w.heap.size+1<wr.heap.size:=(Array.getElem?_eq_some_iff.1 HB1.out).1
    by_cases ht0:t=[]
    ·have hte:(mkS t).toList.isEmpty=true:=by rw [Lib.toList_data,ht0];rfl
     have hE:lst s=(acc,false):=by rw [HL.out,show 4-k=(3-k)+1 from by omega,HG.out,tagOk_short ht0];simp
     have HE:=Lib.hid hE
     clear hE
     clear ht0
     go_wp2_with (first
      |(go_at_call 153;refine cC.mono ?_;rintro e w2 ⟨rfl,hb2⟩;have HB02:=Lib.hid ((hb2.block w.heap.size Om).trans HB0.out);have HB12:=Lib.hid ((hb2.block (w.heap.size+1) hsz0).trans HB1.out))
      |(refine wpList_load_row rfl 120 _ rfl (w.heap.size+1) rfl _ _ _ _ HB12.out Tryz.underlying120 rfl Kr ?_)
      |(refine wpList_store_row rfl 120 _ _ rfl w.heap.size (xK acc) rfl rfl _ _ HB02.out Kr rfl (vH acc) ?_))
     exact j7 rfl rfl HB02.out (hbel.trans (hb2.mono hbel.size)) HE.out
    ·have htn:(mkS t).toList.isEmpty=false:=by
      rw [Lib.toList_data,mk_data];cases t with
      |nil=>exact absurd rfl ht0
      |cons _ _=>rfl
     by_cases h8:t.length<=8
     ·have h8i:¬ (8:Int)<(mkS t).size:=by omega
      have HA:=Lib.hid (tagOk_mid ht0 h8)
      clear ht0
      go_wp2_with (first
       |(go_at_call 153;refine cC.mono ?_;rintro e w2 ⟨rfl,hb2⟩;have HB02:=Lib.hid ((hb2.block w.heap.size Om).trans HB0.out);have HB12:=Lib.hid ((hb2.block (w.heap.size+1) hsz0).trans HB1.out)))
      go_loopg [11] ((mkS t).size+1) (λg2 s11 wi=>∃ pos:Nat,wi=w2.iter (mkS t) pos/\pos+g2=(mkS t).size+1/\pos<=(mkS t).size/\Hid ((t.drop pos).all bU=t.all bU))
      case atStart=>exact ⟨0,rfl,by omega,by omega,rfl⟩
      case round=>
       obtain ⟨pos,rfl,hpg,hple,HR⟩:=hrel
       have hs1:w.heap.size+1<w2.heap.size:=by have:=hb2.size;omega
       have hs0:w.heap.size<w2.heap.size:=by omega
       have hb0:w.heap.size<=w2.heap.size:=by omega
       by_cases hp:pos<(mkS t).size
       ·have hd0:=kZ (mkS t) pos hp
        rw [mk_data] at hd0
        have HD:=Lib.hid hd0
        clear hd0
        by_cases ha:((mkS t)[pos]'hp).toNat<128
        ·have hnx:∀ ty,(Instr.next (.pointer (some ⟨w2.heap.size,0,none⟩)) true ty).run Tryz.prog (w2.iter (mkS t) pos)=_:=λty=>run_next_ascii w2 (mkS t) pos ty hp ha
         by_cases hd:yP ((mkS t)[pos]'hp).toNat=true
         ·have HG1:=Lib.hid hd
          clear hd
          go_wp2_with (go_at_call 154;refine (qP _ true HG1.out _).mono ?_;rintro e w' ⟨rfl,rfl⟩)
          go_roundg (gk-1)
          case measure=>omega
          case rel=>exact ⟨pos+1,rfl,by omega,by omega,by rw [←HR.out,HD.out,all_ok _ _ (tagC_dig _ HG1.out)];rfl⟩
         ·have HG1:=Lib.hid (Bool.eq_false_iff.2 hd)
          clear hd
          by_cases hl:wW ((mkS t)[pos]'hp).toNat=true
          ·have hl2:(97:Int)<=((mkS t)[pos]'hp).toNat/\(((mkS t)[pos]'hp).toNat:Int)<=122:=by unfold wW at hl;simpa using hl
           obtain ⟨hla,hlb⟩:=hl2
           have HL1:=Lib.hid hl
           clear hl
           go_wp2_with (go_at_call 154;refine (qP _ false HG1.out _).mono ?_;rintro e w' ⟨rfl,rfl⟩)
           go_roundg (gk-1)
           case measure=>omega
           case rel=>exact ⟨pos+1,rfl,by omega,by omega,by rw [←HR.out,HD.out,all_ok _ _ (tagC_let _ HL1.out)];rfl⟩
          ·have HL1:=Lib.hid (Bool.eq_false_iff.2 hl)
           by_cases h3:(((mkS t)[pos]'hp).toNat:Int)=45
           ·have h3b:((((mkS t)[pos]'hp).toNat:Int) !=45)=false:=by simp [h3]
            have hla:(((mkS t)[pos]'hp).toNat:Int)<97:=by omega
            have H3:=Lib.hid h3
            clear h3 hl
            go_wp2_with (go_at_call 154;refine (qP _ false HG1.out _).mono ?_;rintro e w' ⟨rfl,rfl⟩)
            go_roundg (gk-1)
            case measure=>omega
            case rel=>exact ⟨pos+1,rfl,by omega,by omega,by rw [←HR.out,HD.out,all_ok _ _ (tagC_dash _ H3.out)];rfl⟩
           ·have h3b:((((mkS t)[pos]'hp).toNat:Int) !=45)=true:=by simpa using h3
            have hE:lst s=(acc,false):=by
             rw [HL.out,show 4-k=(3-k)+1 from by omega,HG.out,HA.out,←HR.out,HD.out,all_bad _ _ (tagC_bad _ HG1.out HL1.out h3)];simp
            have HE:=Lib.hid hE
            clear hE h3
            have hl3:(((mkS t)[pos]'hp).toNat:Int)<97\/(122:Int)<((mkS t)[pos]'hp).toNat:=by
             unfold wW at hl;simp at hl;omega
            clear hl
            rcases hl3 with hl3|hl3
            ·go_wp2_with (first
              |(go_at_call 154;refine (qP _ false HG1.out _).mono ?_;rintro e w' ⟨rfl,rfl⟩)
              |(refine wpList_load_row rfl 120 _ rfl (w.heap.size+1) rfl _ _ _ _ ((kF _ _ _ hs1).trans HB12.out) Tryz.underlying120 rfl Kr ?_)
              |(refine wpList_store_row rfl 120 _ _ rfl w.heap.size (xK acc) rfl rfl _ _ ((kF _ _ _ hs0).trans HB02.out) Kr rfl (vH acc) ?_))
             exact j7 rfl rfl ((kF _ _ _ hs0).trans HB02.out) ((hbel.trans (hb2.mono hbel.size)).trans ((zS _ _ _).mono hb0)) HE.out
            ·have hl4:(97:Int)<=((mkS t)[pos]'hp).toNat:=by omega
             have hl5:(!decide ((((mkS t)[pos]'hp).toNat:Int)<=122))=true:=by simp;omega
             go_wp2_with (first
              |(go_at_call 154;refine (qP _ false HG1.out _).mono ?_;rintro e w' ⟨rfl,rfl⟩)
              |(refine wpList_load_row rfl 120 _ rfl (w.heap.size+1) rfl _ _ _ _ ((kF _ _ _ hs1).trans HB12.out) Tryz.underlying120 rfl Kr ?_)
              |(refine wpList_store_row rfl 120 _ _ rfl w.heap.size (xK acc) rfl rfl _ _ ((kF _ _ _ hs0).trans HB02.out) Kr rfl (vH acc) ?_))
             exact j7 rfl rfl ((kF _ _ _ hs0).trans HB02.out) ((hbel.trans (hb2.mono hbel.size)).trans ((zS _ _ _).mono hb0)) HE.out
        ·have hnx:∀ ty,(Instr.next (.pointer (some ⟨w2.heap.size,0,none⟩)) true ty).run Tryz.prog (w2.iter (mkS t) pos)=_:=λty=>run_next_any w2 (mkS t) pos ty hp
         have hhi:=(decode_high (mkS t) pos hp Om).1
         have HG1:=Lib.hid (nI _ hhi)
         have h3b:(((Utf8.decode (mkS t) pos).1:Int) !=45)=true:=by simp;omega
         have hl3:(122:Int)<(Utf8.decode (mkS t) pos).1:=by omega
         have hl4:(97:Int)<=(Utf8.decode (mkS t) pos).1:=by omega
         have hl5:(!decide (((Utf8.decode (mkS t) pos).1:Int)<=122))=true:=by simp;omega
         have hE:lst s=(acc,false):=by
          rw [HL.out,show 4-k=(3-k)+1 from by omega,HG.out,HA.out,←HR.out,HD.out,all_bad _ _ (tagC_bad _ (mI _ Om) (letB_hi8 _ Om) Om)];simp
         have HE:=Lib.hid hE
         clear hE
         go_wp2_with (first
          |(go_at_call 154;refine (qP _ false HG1.out _).mono ?_;rintro e w' ⟨rfl,rfl⟩)
          |(refine wpList_load_row rfl 120 _ rfl (w.heap.size+1) rfl _ _ _ _ ((kF _ _ _ hs1).trans HB12.out) Tryz.underlying120 rfl Kr ?_)
          |(refine wpList_store_row rfl 120 _ _ rfl w.heap.size (xK acc) rfl rfl _ _ ((kF _ _ _ hs0).trans HB02.out) Kr rfl (vH acc) ?_))
         exact j7 rfl rfl ((kF _ _ _ hs0).trans HB02.out) ((hbel.trans (hb2.mono hbel.size)).trans ((zS _ _ _).mono hb0)) HE.out
       ·have hnx:∀ ty,(Instr.next (.pointer (some ⟨w2.heap.size,0,none⟩)) true ty).run Tryz.prog (w2.iter (mkS t) pos)=_:=λty=>run_next_end w2 (mkS t) pos ty hp
        have hd0:=vS (mkS t) pos hp
        rw [mk_data] at hd0
        have hA:xR t=true:=by rw [HA.out,←HR.out,hd0];rfl
        have HAT:=Lib.hid hA
        clear hd0 hA
        obtain ⟨hcell,hfro⟩:=qZ (j:=k) ((kF w2 (mkS t) pos hs1).trans HB12.out) (by rw [lcells_size];omega)
        go_wp2
        have hg1:(w2.iter (mkS t) pos).heap[w.heap.size+1]?=some (.cells (xK acc) 120):=(kF _ _ _ hs1).trans HB12.out
        have hg0:(w2.iter (mkS t) pos).heap[w.heap.size]?=some (.cells (xK []) 120):=(kF _ _ _ hs0).trans HB02.out
        have hset:=setCell_eq_setRow _ _ k _ _ _ (.string (mkS t)) hg1
        rw [lcells_snoc acc t k HKL.out Om] at hset
        have hbw:Below w.heap.size w (w2.iter (mkS t) pos):=(hbel.trans (hb2.mono hbel.size)).trans ((zS _ _ _).mono hb0)
        rw [hset]
        go_roundg g
        case measure=>omega
        case rel=>
         refine ⟨acc++[t],rest,k+1, !more,by omega,rfl,rfl,by go_num,by omega, ?_,setRow_heap _ _ _ _ _ _ hg1,below_setRow hbw (by omega) _, ?_, ?_⟩
         ·rw [←hg0];exact setRow_apart _ _ _ _ Om
         ·intro h
          have hm:more=false:=by simpa using h
          rw [HL.out,show 4-k=(3-k)+1 from by omega,HG.out,HAT.out,hm];simp
         ·intro h
          have hm:more=true:=by simpa using h
          refine ⟨by rw [List.length_append,HKL.out];rfl, ?_⟩
          rw [HL.out,show 4-k=(3-k)+1 from by omega,HG.out,HAT.out,hm,show 4-(k+1)=3-k from by omega];simp
     ·have h8i:(8:Int)<(mkS t).size:=by omega
      have hE:lst s=(acc,false):=by rw [HL.out,show 4-k=(3-k)+1 from by omega,HG.out,p6 Om];simp
      have HE:=Lib.hid hE
      clear hE ht0
      go_wp2_with (first
       |(go_at_call 153;refine cC.mono ?_;rintro e w2 ⟨rfl,hb2⟩;have HB02:=Lib.hid ((hb2.block w.heap.size Om).trans HB0.out);have HB12:=Lib.hid ((hb2.block (w.heap.size+1) hsz0).trans HB1.out))
       |(refine wpList_load_row rfl 120 _ rfl (w.heap.size+1) rfl _ _ _ _ HB12.out Tryz.underlying120 rfl Kr ?_)
       |(refine wpList_store_row rfl 120 _ _ rfl w.heap.size (xK acc) rfl rfl _ _ HB02.out Kr rfl (vH acc) ?_))
      exact j7 rfl rfl HB02.out (hbel.trans (hb2.mono hbel.size)) HE.out
theorem list_any (s:List UInt8)(w:World)(hs:s.length<4294967281):
  YC 92 #[.string (mkS s)] w (YR (.tuple #[.agg (xK (lst s).1),.bool (lst s).2]) w):=list_any0 s w hs
end
section
theorem numV_mk (t:List UInt8):numV (mkS t)=zG t:=by unfold numV numB zG;rw [mk_data]
theorem numOk_mk (t:List UInt8):numOk (mkS t)=kH t:=by unfold numOk numB kH;rw [mk_data]
theorem wK (t:List UInt8)(b:Bool)(hb:kH t=b)(w:World)(ht:t.length<=maxLen):
  YC 155 #[.string (mkS t)] w (YR (.tuple #[YI (zG t),.bool b]) w):=by
 have:=number_any (mkS t) w (by rw [y0];exact ht)
 rw [numV_mk,numOk_mk,hb] at this
 exact this
theorem pH (t:List UInt8)(b:Bool)(hb:kP t=b)(w:World)(ht:t.length<=maxLen):
  YC 156 #[.string (mkS t)] w (YR (.bool b) w):=by
 have:=vnumeric_any (mkS t) w (by rw [y0];exact ht)
 rw [mk_data,hb] at this
 exact this
theorem tJ (s:List UInt8)(w:World)(hs:s.length<4294967281):
  YC 92 #[.string (mkS s)] w (YR (.tuple #[.agg #[.string (mkS (tg (lst s).1 0)),.string (mkS (tg (lst s).1 1)),.string (mkS (tg (lst s).1 2)),.string (mkS (tg (lst s).1 3))],.bool (lst s).2]) w):=list_any s w hs
theorem ix_tag0 (a b c d:Value)(w:World):(Instr.index 120 (.agg #[a,b,c,d]) (YI 0)).run Tryz.prog w= .ok a w:=by kernel_rfl
theorem ix_tag1 (a b c d:Value)(w:World):(Instr.index 120 (.agg #[a,b,c,d]) (YI 1)).run Tryz.prog w= .ok b w:=by kernel_rfl
theorem ix_tag2 (a b c d:Value)(w:World):(Instr.index 120 (.agg #[a,b,c,d]) (YI 2)).run Tryz.prog w= .ok c w:=by kernel_rfl
theorem ix_tag3 (a b c d:Value)(w:World):(Instr.index 120 (.agg #[a,b,c,d]) (YI 3)).run Tryz.prog w= .ok d w:=by kernel_rfl
theorem ix_tag (l:List (List UInt8))(k:Nat)(hk:k<4)(w:World):
  (Instr.index 120 (.agg #[.string (mkS (tg l 0)),.string (mkS (tg l 1)),.string (mkS (tg l 2)),.string (mkS (tg l 3))]) (YI k)).run Tryz.prog w= .ok (.string (mkS (tg l k))) w:=by
 match k,hk with
 |0,_=>exact ix_tag0 _ _ _ _ w
 |1,_=>exact ix_tag1 _ _ _ _ w
 |2,_=>exact ix_tag2 _ _ _ _ w
 |3,_=>exact ix_tag3 _ _ _ _ w
theorem all_four (l:List (List UInt8))(h4:l.length<=4)(h:∀ j,j<4->pC (tg l j)=true):l.all pC=true:=by
 rw [←tg_all preT_nil l h4,h 0 Om,h 1 Om,h 2 Om,h 3 Om];rfl
theorem not_four (l:List (List UInt8))(h4:l.length<=4)(j:Nat)(hj:j<4)(h:pC (tg l j)=false):l.all pC=false:=by
 rw [←tg_all preT_nil l h4]
 match j,hj with
 |0,_=>rw [h];rfl
 |1,_=>rw [h];simp
 |2,_=>rw [h];simp
 |3,_=>rw [h];simp
theorem mayPre_any (s:List UInt8)(w:World)(hs:s.length<4294967281):
  YC 93 #[.string (mkS s)] w (YR (.bool (wQ s)) w):=by
 have hl4:=lst_len s
 have hl8:=tg_len s
 have hP:=preOk_lst s
 obtain ⟨L,hL⟩:∃ L,(lst s).1=L:=⟨_,rfl⟩
 obtain ⟨o,ho⟩:∃ o,(lst s).2=o:=⟨_,rfl⟩
 have cL:=tJ s w hs
 rw [hL,ho] at cL
 rw [hL] at hl4 hl8 hP
 rw [ho] at hP
 have HP:=Lib.hid hP
 have H8:=Lib.hid hl8
 clear hP hl8 hL ho
 go_enter Tryz.func93,Tryz.ntmps93
 go_wp2_with (go_at_call 92;refine cL.mono ?_;rintro e w1 ⟨rfl,hb1⟩)
 go_loopw [15] (λv wr=>∃ k:Nat,k<=4/\v=YI k/\Below w.heap.size w wr/\Hid (∀ j,j<k->pC (tg L j)=true)) (λv _=>4-(intOf v).toNat)
 case atStart=>exact ⟨0,by omega,rfl,hb1.alloc hb1.size _,λj hj=>by omega⟩
 case round=>
  obtain ⟨k,hk,rfl,hbel,HR⟩:=hrel
  by_cases hk4:k<4
  ·have hki:(k:Int)<4:=by omega
   have hix:∀ w,(Instr.index 120 (.agg #[.string (mkS (tg L 0)),.string (mkS (tg L 1)),.string (mkS (tg L 2)),.string (mkS (tg L 3))]) (YI k)).run Tryz.prog w= .ok (.string (mkS (tg L k))) w:=ix_tag L k hk4
   have h8:(tg L k).length<=8:=H8.out k
   have hm:(tg L k).length<=maxLen:=by unfold maxLen;omega
   cases hi:kH (tg L k) with
   |true=>
    have HI:=Lib.hid hi
    clear hi
    cases hn:kP (tg L k)
    all_goals
     have HN:=Lib.hid hn
     clear hn
     go_wp2_with (first
      |(go_at_call 155;refine (wK _ true HI.out _ hm).mono ?_;rintro e w2 ⟨rfl,hb2⟩)
      |(go_at_call 156;refine (pH _ _ HN.out _ hm).mono ?_;rintro e w3 ⟨rfl,hb3⟩))
     go_roundw
     case rel=>exact ⟨k+1,by omega,by go_num,(hbel.trans (hb2.mono hbel.size)).trans (hb3.mono (by have:=hb2.size;have:=hbel.size;omega)),λj hj=>by
      by_cases h:j<k
      ·exact HR.out j h
      ·obtain rfl:j=k:=by omega
       unfold pC;rw [HI.out];simp⟩
     case measure=>simp [intOf];omega
   |false=>
    have HI:=Lib.hid hi
    clear hi
    cases hn:kP (tg L k) with
    |true=>
     have HN:=Lib.hid hn
     clear hn
     go_wp2_with (first
      |(go_at_call 155;refine (wK _ false HI.out _ hm).mono ?_;rintro e w2 ⟨rfl,hb2⟩)
      |(go_at_call 156;refine (pH _ _ HN.out _ hm).mono ?_;rintro e w3 ⟨rfl,hb3⟩))
     go_ret
     exact ⟨zI (by rw [HP.out,not_four L hl4 k hk4 (by unfold pC;rw [HN.out,HI.out];rfl),Bool.and_false]),(hbel.trans (hb2.mono hbel.size)).trans (hb3.mono (by have:=hb2.size;have:=hbel.size;omega))⟩
    |false=>
     have HN:=Lib.hid hn
     clear hn
     go_wp2_with (first
      |(go_at_call 155;refine (wK _ false HI.out _ hm).mono ?_;rintro e w2 ⟨rfl,hb2⟩)
      |(go_at_call 156;refine (pH _ _ HN.out _ hm).mono ?_;rintro e w3 ⟨rfl,hb3⟩))
     go_roundw
     case rel=>exact ⟨k+1,by omega,by go_num,(hbel.trans (hb2.mono hbel.size)).trans (hb3.mono (by have:=hb2.size;have:=hbel.size;omega)),λj hj=>by
      by_cases h:j<k
      ·exact HR.out j h
      ·obtain rfl:j=k:=by omega
       unfold pC;rw [HN.out];simp⟩
     case measure=>simp [intOf];omega
  ·have hki:¬ (k:Int)<4:=by omega
   go_wp2
   go_ret
   exact ⟨zI (by rw [HP.out,all_four L hl4 (λj hj=>HR.out j Om),Bool.and_true]),hbel⟩
abbrev ZP (x:Ver):Array Value:= #[YI x.maj,YI x.min,YI x.pat,.string (mkS x.pre),.string (mkS x.build)]
def x5 (v:Ver):Value:= .agg #[YI v.maj,YI v.min,YI v.pat,.string (mkS v.pre),.string (mkS v.build)]
theorem numbers_any (v:Ver)(w:World):
  YC 91 #[x5 v] w (YR (.agg #[YI v.maj,YI v.min,YI v.pat]) w):=by
 obtain ⟨a,b,c,p,q⟩:=v
 unfold x5
 dsimp only
 go_enter Tryz.func91,Tryz.ntmps91
 go_wp2
 exact bodyPost_ret (v:= .agg #[YI a,YI b,YI c]) (by simp [results,Tryz.results91,go_sem]) rfl ⟨rfl,((Below.refl _ _).alloc (Nat.le_refl _) _).alloc (by simp) _⟩
theorem ix_num0 (a b c:Value)(w:World):(Instr.index 117 (.agg #[a,b,c]) (YI 0)).run Tryz.prog w= .ok a w:=by kernel_rfl
theorem ix_num1 (a b c:Value)(w:World):(Instr.index 117 (.agg #[a,b,c]) (YI 1)).run Tryz.prog w= .ok b w:=by kernel_rfl
theorem ix_num2 (a b c:Value)(w:World):(Instr.index 117 (.agg #[a,b,c]) (YI 2)).run Tryz.prog w= .ok c w:=by kernel_rfl
def vM (a b c:Int)(k:Nat):Int:=if k=0 then a else if k=1 then b else c
theorem ix_num (a b c:Int)(k:Nat)(hk:k<3)(w:World):
  (Instr.index 117 (.agg #[YI a,YI b,YI c]) (YI k)).run Tryz.prog w= .ok (YI (vM a b c k)) w:=by
 match k,hk with
 |0,_=>exact ix_num0 _ _ _ w
 |1,_=>exact ix_num1 _ _ _ w
 |2,_=>exact ix_num2 _ _ _ w
theorem nth3_all {a b c:Int}(h:∀ j,j<3->zL (vM a b c j)=true):(zL a && zL b && zL c)=true:=by
 have h0:=h 0 Om;have h1:=h 1 Om;have h2:=h 2 Om
 unfold vM at h0 h1 h2
 simp at h0 h1 h2
 rw [h0,h1,h2];rfl
theorem nth3_not {a b c:Int}(j:Nat)(hj:j<3)(h:zL (vM a b c j)=false):(zL a && zL b && zL c)=false:=by
 match j,hj with
 |0,_=>rw [show zL a=false from h];rfl
 |1,_=>rw [show zL b=false from h];simp
 |2,_=>rw [show zL c=false from h];simp
theorem may_eq (v:Ver):v.may=((zL v.maj && zL v.min && zL v.pat) && (wQ v.pre && qI v.build)):=by
 unfold Ver.may;rw [Bool.and_assoc]
theorem box_cells {w w1:World}{T:TypeId}{cs:Array Value}(hb:Below (w.alloc (.cells cs T)).heap.size (w.alloc (.cells cs T)) w1)(j:Nat)(hj:j<cs.size):w1.cell? ⟨w.heap.size,j,none⟩=some cs[j]/\w1.frozen? ⟨w.heap.size,j,none⟩=false:=by
 have h:w1.heap[w.heap.size]?=some (.cells cs T):=(hb.block _ (by simp)).trans (tP w _)
 exact qZ h hj
theorem size_box (w:World)(o:Obj):(w.alloc o).heap.size=w.heap.size+1:=by simp
theorem fH (v:Ver)(w:World)(hp:v.pre.length<4294967281)(hq:v.build.length<4294967281):
  YC 53 #[x5 v] w (YR (.bool v.may) w):=by
 have hM:=may_eq v
 have cN:=λw'=>numbers_any v w'
 obtain ⟨a,b,c,p,q⟩:=v
 unfold x5 at cN ⊢
 dsimp only at cN hM hp hq ⊢
 have HM:=Lib.hid hM
 clear hM
 go_enter Tryz.func53,Tryz.ntmps53
 go_wp2_with (go_at_call 91;refine (cN _).mono ?_;rintro e w1 ⟨rfl,hb1⟩)
 obtain ⟨c3,f3⟩:=box_cells hb1 3 (by simp)
 obtain ⟨c4,f4⟩:=box_cells hb1 4 (by simp)
 have hs1:w.heap.size<w1.heap.size:=by have:=hb1.size;rw [size_box] at this;omega
 have hbw:Below w.heap.size w w1:=((Below.refl _ _).alloc (Nat.le_refl _) _).trans (hb1.mono (by simp))
 simp only [List.getElem_toArray,List.getElem_cons_succ,List.getElem_cons_zero] at c3 c4
 go_loop [9] (λx=>∃ k:Nat,k<=3/\x=YI k/\Hid (∀ j,j<k->zL (vM a b c j)=true)) (λx=>3-(intOf x).toNat)
 case atStart=>exact ⟨0,by omega,rfl,λj hj=>by omega⟩
 case round=>
  obtain ⟨k,hk,rfl,HR⟩:=hrel
  by_cases hk3:k<3
  ·have hki:(k:Int)<3:=by omega
   have hix:∀ w,(Instr.index 117 (.agg #[YI a,YI b,YI c]) (YI k)).run Tryz.prog w= .ok (YI (vM a b c k)) w:=ix_num a b c k hk3
   by_cases h0:vM a b c k<0
   ·have hbad:zL (vM a b c k)=false:=by unfold zL;simp;omega
    have HB:=Lib.hid hbad
    clear hbad
    go_wp2
    go_ret
    exact ⟨zI (by rw [HM.out,nth3_not k hk3 HB.out];rfl),hbw⟩
   ·by_cases h9:9999<vM a b c k
    ·have hbad:zL (vM a b c k)=false:=by unfold zL;simp;omega
     have HB:=Lib.hid hbad
     clear hbad
     go_wp2
     go_ret
     exact ⟨zI (by rw [HM.out,nth3_not k hk3 HB.out];rfl),hbw⟩
    ·have hok:zL (vM a b c k)=true:=by unfold zL;simp;omega
     have HB:=Lib.hid hok
     clear hok
     go_wp2
     go_round
     case rel=>exact ⟨k+1,by omega,by go_num,λj hj=>by
      by_cases h:j<k
      ·exact HR.out j h
      ·obtain rfl:j=k:=by omega
       exact HB.out⟩
     case measure=>simp [intOf];omega
  ·have hki:¬ (k:Int)<3:=by omega
   have h3:=Lib.hid (nth3_all λj hj=>HR.out j Om)
   have cL:=tJ q w1 hq
   rw [lst_ok] at cL
   cases ho:qI q with
   |true=>
    rw [ho] at cL
    have HO:=Lib.hid ho
    clear ho
    go_wp2_with (first
     |(go_at_call 92;refine cL.mono ?_;rintro e w2 ⟨rfl,hb2⟩;have c32:=(hb2.cell (p:=⟨w.heap.size,3,none⟩) hs1).trans c3;have hs2:w.heap.size<w2.heap.size:=Nat.lt_of_lt_of_le hs1 hb2.size)
     |(go_at_call 93;refine (mayPre_any p _ hp).mono ?_;rintro e w3 ⟨rfl,hb3⟩))
    go_ret
    exact ⟨zI (by rw [HM.out,h3.out,HO.out];simp),((hbw.trans (hb2.mono hbw.size)).alloc Om _).trans (hb3.mono (by simp;omega))⟩
   |false=>
    rw [ho] at cL
    have HO:=Lib.hid ho
    clear ho
    go_wp2_with (go_at_call 92;refine cL.mono ?_;rintro e w2 ⟨rfl,hb2⟩;have c32:=(hb2.cell (p:=⟨w.heap.size,3,none⟩) hs1).trans c3;have hs2:w.heap.size<w2.heap.size:=Nat.lt_of_lt_of_le hs1 hb2.size)
    go_ret
    exact ⟨zI (by rw [HM.out,h3.out,HO.out];simp),(hbw.trans (hb2.mono hbw.size)).alloc Om _⟩
end
section
theorem ownsRow_iterAt {w:World}{B:Nat}{e:TypeId}{size:Nat}{v:Value}{n:Nat}{xs:List Value}(h:w.ownsRow B e size v n xs){k:Nat}{s:ByteArray}{pos:Nat}(hk:w.heap[k]?=some (.stringIter s pos))(pos':Nat):
  (w.iterAt k s pos').ownsRow B e size v n xs:=by
 obtain ⟨h1,h2⟩:=h
 refine ⟨h1, ?_⟩
 rcases h2 with h2|⟨g,cap,cur,hv,hg,hh,r⟩
 ·exact Or.inl h2
 ·refine Or.inr ⟨g,cap,cur,hv,hg, ?_,r⟩
  rw [Lib.iterAt_other _ _ _ _ _ (λe=>by subst e;rw [hk] at hh;cases hh)]
  exact hh
theorem ownsRow_ne {w:World}{B:Nat}{e:TypeId}{size:Nat}{v:Value}{n:Nat}{xs:List Value}(h:w.ownsRow B e size v n xs){k:Nat}{s:ByteArray}{pos:Nat}(hk:w.heap[k]?=some (.stringIter s pos)):some k≠v.ownBlock:=by
 obtain ⟨h1,h2⟩:=h
 rcases h2 with ⟨rfl,_⟩|⟨g,cap,cur,rfl,hg,hh,r⟩
 ·simp [Value.ownBlock]
 ·intro he
  have:k=g:=by simpa [Value.ownBlock] using he
  subst this
  rw [hk] at hh;cases hh
theorem bW {w w':World}{B:Nat}{e:TypeId}{size:Nat}{v:Value}{n:Nat}{xs:List Value}(h:w.ownsRow B e size v n xs)(hb:Below w.heap.size w w'):w'.ownsRow B e size v n xs:=by
 obtain ⟨h1,h2⟩:=h
 refine ⟨h1, ?_⟩
 rcases h2 with h2|⟨g,cap,cur,hv,hg,hh,r⟩
 ·exact Or.inl h2
 ·exact Or.inr ⟨g,cap,cur,hv,hg,by rw [hb.block g (Array.getElem?_eq_some_iff.1 hh).1];exact hh,r⟩
theorem iter_below {w w':World}{k:Nat}{s:ByteArray}{pos:Nat}(h:w.heap[k]?=some (.stringIter s pos))(hb:Below w.heap.size w w'):w'.heap[k]?=some (.stringIter s pos):=by
 rw [hb.block k (Array.getElem?_eq_some_iff.1 h).1];exact h
end
section
theorem tQ (w:World)(a:Addr)(m:Nat):(w.freeze a m).drawn=w.drawn:=by unfold World.freeze;split<;>rfl
theorem wp_append_text {P:Program}{w:World}{ops:Array Oper}{rest:List Oper}{o:Oper}{a:Act}{Q:Exit->Act->World->Prop}(hgd:o.guard=none)(sl x:Operand)(t u:TypeId)
  (ho:o.op= .call {callee:= .builtin .append,args:= #[sl,x],argTypes:= #[t,u]})
  (B:Nat) (e:TypeId) (i:TypeInfo) (ht:P.underlying t=some (.slice e)) (hu:P.underlying u=some .string) (hi:P.info? e=some i) (hz:i.zero=some (.int .u8 0)) (h1:i.size=1) (h2:i.bytes=1)
  (v:Value) (n:Nat) (xs:List Value) (hs:a.eval sl=v) (hown:w.ownsRow B e 1 v n xs) (s:ByteArray) (hx:a.eval x= .string s) (h63:n+s.size<=maxLen) (hb:n+s.size<=140737488355328) (hB:B<=w.heap.size)
  (h:∀ v' w',w'.ownsRow B e 1 v' (n+s.size) (xs++Lib.strCells s)->GrownD w w' v.ownBlock->wpList P ops Q rest (a.put o.dst v') w'):wpList P ops Q (o::rest) a w:=
 wpList_plain hgd λK hK=>by
  obtain ⟨v',w',hr,k2,k3,_⟩:=Lib.run_append_own_string (P:=P) (w:=w) B t u o.type e i ht hu hi hz h1 h2 v n xs hown s h63 hb hB
  unfold Oper.wp execOp
  simp only [ho,resolve,invoke,builtin,Sem.run_bind,Sem.run_pure,Result.andThen_ok,List.map_toArray,List.map_cons,List.map_nil,hs,hx,hr]
  exact hK _ _ (h v' w' k2 ⟨k3,run_drawn P _ _ hr⟩)
theorem sizeBuilder:(Tryz.prog.info? 131).map (·.size)=some 2:=by kernel_rfl
theorem liesBuilder:liesAt Tryz.prog Tryz.prog.depth 131 (2/Tryz.prog.cellsOf 131) 0 131 1=true:=by kernel_rfl
theorem infoByte:(Tryz.prog.info? 5).map (λi=>(i.zero,i.size,i.bytes))=some (some (.int .u8 0),1,1):=by kernel_rfl
theorem mJ (b:Nat)(w:World)(h0:w.cell? ⟨b,0,none⟩=some (.pointer (some ⟨b,0,none⟩))):
  YC 223 #[.pointer (some ⟨b,0,none⟩)] w λe w'=>e= .returned (.tuple #[])/\w'=w:=by
 obtain ⟨j,hj,_⟩:=Option.map_eq_some_iff.1 sizeBuilder
 go_enter Tryz.func223,Tryz.ntmps223
 go_wp2
 rw [Lib.run_neq_ptr_same w _ Tryz.underlying129 hj]
 go_wp2
 go_end0
 exact ⟨rfl,rfl⟩
theorem fV (b:Nat)(w:World)(h0:w.cell? ⟨b,0,none⟩=some (.pointer none))(hsh:w.shape? b=some (131,2))(hfz:w.frozen? ⟨b,0,none⟩=false):
  YC 223 #[.pointer (some ⟨b,0,none⟩)] w λe w'=>e= .returned (.tuple #[])/\w'=w.setCell ⟨b,0,none⟩ (.pointer (some ⟨b,0,none⟩)):=by
 obtain ⟨j,hj,hjs⟩:=Option.map_eq_some_iff.1 sizeBuilder
 go_enter Tryz.func223,Tryz.ntmps223
 go_wp2
 rw [Lib.run_to_unsafe w ⟨b,0,none⟩ Tryz.underlying129 Tryz.underlying281 hj (by rw [hjs];decide) hsh (Nat.zero_lt_succ 1)]
 simp only [Result.andThen]
 rw [Oper.upon_value]
 go_wp2
 rw [run_callFunc_extern Tryz.func267 Kr Kr Kr (e:=Extern.AbiNoEscape.same) Kr]
 rw [Lib.run_noEscape]
 simp only [Result.andThen]
 rw [Oper.upon_value]
 go_wp2
 rw [Lib.run_from_unsafe w ⟨b,0,none⟩ Tryz.underlying281 Tryz.underlying129 hj hsh liesBuilder]
 simp only [Result.andThen]
 rw [Oper.upon_value]
 go_wp2
 go_end0
 exact ⟨rfl,rfl⟩
theorem nV (B b:Nat)(bs:List Value)(w:World)(h:Lib.IsBuilder 131 5 B b bs w):
  YC 223 #[.pointer (some ⟨b,0,none⟩)] w λe w'=>e= .returned (.tuple #[])/\(Lib.BuilderAt 131 5 B b (.pointer (some ⟨b,0,none⟩)) bs w'/\Below B w w'):=by
 rcases h with h|h
 ·refine (fV b w h.cell0 h.shape h.frozen0).mono ?_
  rintro e w' ⟨rfl,rfl⟩
  exact ⟨rfl,h.used _,(Below.refl B w).setCell (p:=⟨b,0,none⟩) h.1 _⟩
 ·refine (mJ b w h.cell0).mono ?_
  rintro e w' ⟨rfl,rfl⟩
  exact ⟨rfl,h,Below.refl B _⟩
theorem writeByte_any (B b:Nat)(bs:List Value)(c:Int)(w:World)(h:Lib.IsBuilder 131 5 B b bs w)(hlen:bs.length+1<=140737488355328)(hBw:B<=w.heap.size):
  YC 165 #[.pointer (some ⟨b,0,none⟩),.int .u8 c] w λe w'=>e= .returned .nilIface/\(Lib.BuilderAt 131 5 B b (.pointer (some ⟨b,0,none⟩)) (bs++[.int .u8 c]) w'/\Below B w w'):=by
 obtain ⟨i0,hi,hz0,hz1,hz2⟩:=info_parts infoByte
 go_enter Tryz.func165,Tryz.ntmps165
 go_wp2_with (go_at_call 223;refine (nV B b bs _ h).mono ?_)
 rintro e w1 ⟨rfl,h1,hb1⟩
 obtain ⟨hB,v,hbk,hown,hne⟩:=h1
 have c0:w1.cell? ⟨b,0,none⟩=some (.pointer (some ⟨b,0,none⟩)):=by rw [Lib.cell_of_heap hbk];rfl
 have c1:w1.cell? ⟨b,1,none⟩=some v:=by rw [Lib.cell_of_heap hbk];rfl
 go_wp2_with (at_builtin;refine x6 _ rfl _ _ 90 rfl B 5 i0 (.int .u8 0) 1 1 Tryz.underlying90 hi hz0 hz1 hz2 rfl (by decide) _ _ _ rfl (hown.alloc _) ⟨w1.heap.size,0,none⟩ 1 1 [.int .u8 c] rfl rfl ?c1 ?c2 ?c3 ?c4 ?c5 ?_)
 case c1=>
  intro j u hj
  match j,hj with
  |0,hj=>simp at hj;subst hj;simp [Addr.add]
 case c2=>intro u hu;simp at hu;subst hu;rfl
 case c3=>unfold maxLen;omega
 case c4=>omega
 case c5=>have:=hb1.size;simp;omega
 intro v' w2 hown' hgrow _
 have hlt:b<w1.heap.size:=by
  rcases Nat.lt_or_ge b w1.heap.size with h'|h'
  ·exact h'
  ·simp [Array.getElem?_eq_none h'] at hbk
 have hb2:w2.heap[b]?=some (.cells #[.pointer (some ⟨b,0,none⟩),v] 131 (0,0)):=by
  rw [hgrow.old.block b (by simp;omega) (λe=>hne e.symm),Lib.alloc_old w1 _ b hlt]
  exact hbk
 have d0:w2.cell? ⟨b,0,none⟩=some (.pointer (some ⟨b,0,none⟩)):=by rw [Lib.cell_of_heap hb2];rfl
 have d1:w2.cell? ⟨b,1,none⟩=some v:=by rw [Lib.cell_of_heap hb2];rfl
 have f1:w2.frozen? ⟨b,1,none⟩=false:=Lib.frozen_of_heap hb2 1
 obtain ⟨g,cap,rfl⟩:∃ g cap,v'= .slice (some ⟨g,0,none⟩) (bs.length+1) cap:=by
  rcases hown'.2 with ⟨_,h0⟩|⟨g,cap,cur,hv,_⟩
  ·omega
  ·exact ⟨g,cap,hv⟩
 go_wp2
 go_ret
 refine ⟨rfl, ?_, ?_⟩
 ·exact Lib.BuilderAt.put (T:=131) (e:=5) hB hb2 (bs':=bs++[.int .u8 c]) (by simpa using hown') (by decide)
 ·exact ((hb1.alloc (by have:=hb1.size;omega) _).grown hgrow (by have:=hb1.size;simp;omega) (λk hk=>(hown.lt k hk).1)).setCell (p:=⟨b,1,none⟩) hB _
theorem gN (B b:Nat)(bs:List Value)(s:ByteArray)(w:World)(h:Lib.IsBuilder 131 5 B b bs w)(hlen:bs.length+s.size<=140737488355328)(hBw:B<=w.heap.size):
  YC 163 #[.pointer (some ⟨b,0,none⟩),.string s] w λe w'=>e= .returned (.tuple #[YI s.size,.nilIface])/\(Lib.BuilderAt 131 5 B b (.pointer (some ⟨b,0,none⟩)) (bs++Lib.strCells s) w'/\Below B w w'):=by
 obtain ⟨i0,hi,hz0,hz1,hz2⟩:=info_parts infoByte
 go_enter Tryz.func163,Tryz.ntmps163
 go_wp2_with (go_at_call 223;refine (nV B b bs _ h).mono ?_)
 rintro e w1 ⟨rfl,h1,hb1⟩
 obtain ⟨hB,v,hbk,hown,hne⟩:=h1
 have c0:w1.cell? ⟨b,0,none⟩=some (.pointer (some ⟨b,0,none⟩)):=by rw [Lib.cell_of_heap hbk];rfl
 have c1:w1.cell? ⟨b,1,none⟩=some v:=by rw [Lib.cell_of_heap hbk];rfl
 go_wp2_with (at_builtin;refine wp_append_text rfl _ _ 90 9 rfl B 5 i0 Tryz.underlying90 Tryz.underlying9 hi hz0 hz1 hz2 _ _ _ rfl hown s rfl ?c3 ?c4 ?c5 ?_)
 case c3=>unfold maxLen;omega
 case c4=>omega
 case c5=>have:=hb1.size;omega
 intro v' w2 hown' hgrow
 have hlt:b<w1.heap.size:=by
  rcases Nat.lt_or_ge b w1.heap.size with h'|h'
  ·exact h'
  ·simp [Array.getElem?_eq_none h'] at hbk
 have hb2:w2.heap[b]?=some (.cells #[.pointer (some ⟨b,0,none⟩),v] 131 (0,0)):=by
  rw [hgrow.old.block b hlt (λe=>hne e.symm)]
  exact hbk
 have d0:w2.cell? ⟨b,0,none⟩=some (.pointer (some ⟨b,0,none⟩)):=by rw [Lib.cell_of_heap hb2];rfl
 have d1:w2.cell? ⟨b,1,none⟩=some v:=by rw [Lib.cell_of_heap hb2];rfl
 have f1:w2.frozen? ⟨b,1,none⟩=false:=Lib.frozen_of_heap hb2 1
 obtain ⟨ao,n',cap,rfl⟩:∃ ao n' cap,v'= .slice ao n' cap:=by
  rcases hown'.2 with ⟨hv,_⟩|⟨g,cap,cur,hv,_⟩
  ·exact ⟨_,_,_,hv⟩
  ·exact ⟨_,_,_,hv⟩
 go_wp2
 go_ret2
 refine ⟨rfl, ?_, ?_⟩
 ·exact Lib.BuilderAt.put (T:=131) (e:=5) hB hb2 (bs':=bs++Lib.strCells s) (by simpa [Lib.strCells_length] using hown') (by decide)
 ·exact (hb1.grown hgrow (by have:=hb1.size;omega) (λk hk=>(hown.lt k hk).1)).setCell (p:=⟨b,1,none⟩) hB _
theorem tY {l:List UInt8}(h:l≠[]):(Lib.byteCells l).length≠0:=by
 rw [Lib.byteCells_length];exact λe=>h (List.eq_nil_of_length_eq_zero e)
theorem string_any (B b:Nat)(l:List UInt8)(w:World)(h:Lib.IsBuilder 131 5 B b (Lib.byteCells l) w)(h0:l≠[]):
  YC 107 #[.pointer (some ⟨b,0,none⟩)] w λe w'=>e= .returned (.string ⟨l.toArray⟩)/\Below B w w':=by
 obtain ⟨p,hB,v,hbk,hown,hne⟩:∃ p,Lib.BuilderAt 131 5 B b p (Lib.byteCells l) w:=h.elim (λq=>⟨_,q⟩) (λq=>⟨_,q⟩)
 rcases hown.2 with ⟨_,hz⟩|⟨g,cap,cur,rfl,hbg,hg,hnc,hcm,hcs,htake⟩
 ·exact absurd hz (tY h0)
 rw [Lib.byteCells_length] at hown hnc hbk htake
 have hl0:l.length≠0:=λe=>h0 (List.eq_nil_of_length_eq_zero e)
 have hg':w.drew.heap[g]?=some (.cells cur 5 (0,0)):=hg
 have c1:w.drew.cell? ⟨b,1,none⟩=some (.slice (some ⟨g,0,none⟩) l.length cap):=by
  rw [Lib.cell_of_heap (show w.drew.heap[b]?=_ from hbk)];rfl
 have hSD:=Lib.run_unsafeSliceData_row (P:=Tryz.prog) w.drew #[90] 197 ⟨g,0,none⟩ l.length cap Om
 have hUS:=Lib.run_unsafeString_row (P:=Tryz.prog) w.drew 197 3 9 5 Tryz.underlying197 Kr g cur.size (by unfold World.shape?;rw [hg']) l h0 Om (by unfold maxLen at hcm;omega)
  (λj x hx=>hown.cells (g:=g) rfl j (.int .u8 x.toNat) (by simp [Lib.byteCells,hx]))
 go_enter Tryz.func107,Tryz.ntmps107
 go_wp2
 have mixed:Tryz.prog.follows .mixedOrders=true:=by kernel_rfl
 go_region_o
 all_goals
  go_wp2
  go_ret
  have hf:=Lib.below_freeze (Go.RowKit.Below.drew (Go.RowKit.Below.refl B w)) (p:=⟨g,0,none⟩) hbg l.length
  exact ⟨rfl,hf.os,hf.tape,hf.output,hf.size,by rw [tQ];exact Nat.le_succ _,hf.block⟩
end
section
def HasTab (w : World) : Prop := Lib.TabBelow Tryz.prog w.heap.size w "internal/strconv.uint64pow10" .u64 Lib.pow10Tab
theorem HasTab.on {w w':World}(h:HasTab w)(hb:Below w.heap.size w w'):HasTab w':=λw2 hb2=>h w2 (hb.old.trans (hb2.mono hb.size))
theorem below_growD (w:World)(k:Nat)(os:Array Obj):Below w.heap.size w (Go.Sort.grow (w.drewN k) os):=
 have h:=Lib.below_grow w.heap.size w (Nat.le_refl _) k os
 ⟨h.os,h.tape,h.output,h.size,(below_drewN (Below.refl w.heap.size w) k).drawn,h.block⟩
def digS (n:Int):ByteArray:=⟨(Lib.itoa n).toArray⟩
theorem digits_any (n:Int)(h0: -9223372036854775808<=n)(h1:n<=9223372036854775807)(w:World)(ht:HasTab w):
  YC 166 #[YI n] w (YR (.string (digS n)) w):=by
 have H:=Lib.hid ht
 clear ht
 go_enter Tryz.func166,Tryz.ntmps166
 go_wp2_with (go_at_call 224;refine (Tryz.strconv_Itoa n h0 h1 _ H.out.here).mono ?_;rintro e w' ⟨rfl,k,os,rfl⟩)
 go_ret
 exact ⟨rfl,below_growD _ _ _⟩
theorem wC {a b:ByteArray}(h:a=b):Ending.returned (.string a)= .returned (.string b):=by rw [h]
theorem of_list {t:ByteArray}{l:List UInt8}(h:l=t.data.toList):t=⟨l.toArray⟩:=by subst h;rfl
def one (x:Int):ByteArray:=⟨#[UInt8.ofNat x.toNat]⟩
theorem one_list (n:Nat):(one (48+(n:Int) % 10)).data.toList=[UInt8.ofNat (48+n % 10)]:=by
 unfold one
 rw [show (48+(n:Int) % 10).toNat=48+n % 10 from by omega]
theorem conv1 (w:World)(x:Int):(convert 90 9 (.slice (some ⟨w.heap.size,0,none⟩) 1 1)).run Tryz.prog (w.alloc (.cells #[.int .u8 x] 5))= .ok (.string (one x)) (w.alloc (.cells #[.int .u8 x] 5)):=by
 refine (run_convert_bytes_arg (P:=Tryz.prog) _ 90 5 Tryz.underlying90 Tryz.underlying5 w.heap.size 0 1 1 [x] rfl ?_ 9 Tryz.underlying9).trans ?_
 ·intro i hi
  obtain rfl:i=0:=by omega
  simp
 ·rfl
theorem dec_start (n:Nat):Lib.decDigits n=(if n<10 then [] else Lib.decDigits (n/10))++[UInt8.ofNat (48+n % 10)]:=by
 rw [Lib.decDigits]
 by_cases h:n<10
 ·rw [dif_pos h,if_pos h,Nat.mod_eq_of_lt h];rfl
 ·rw [dif_neg h,if_neg h]
def decS (n:Nat):ByteArray:=⟨(Lib.decDigits n).toArray⟩
theorem whole_any (n:Nat)(hn:n<=18446744073709551615)(w:World):
  YC 279 #[.int .u64 n] w (YR (.string (decS n)) w):=by
 have hcv:=λ(w:World) (x:Int)=>conv1 w x
 go_enter Tryz.func279,Tryz.ntmps279
 go_wp2
 go_loopw [0,3] (λv s wr=>∃ (m:Nat) (t:ByteArray),v= .int .u64 m/\s= .string t/\m<=18446744073709551615/\Below w.heap.size w wr/\t.size<=20/\Hid (Lib.decDigits n=(if m<10 then [] else Lib.decDigits (m/10))++t.data.toList)) (λv _ _=>(intOf v).toNat)
 case atStart=>exact ⟨n,_,rfl,rfl,hn,(Below.refl _ w).alloc (Nat.le_refl _) _,by show 1<=20;omega,by show _=_;rw [one_list];exact dec_start n⟩
 case round=>
  obtain ⟨m,t,rfl,rfl,hm,hb,ht,HR⟩:=hrel
  have hsz:=hb.size
  by_cases h9:9<m
  ·have hos:(one (48+(m:Int)/10 % 10)).size<=1:=Nat.le_of_eq rfl
   go_wp2
   go_roundw
   case rel=>
    have HE:Lib.decDigits n=(if m/10<10 then [] else Lib.decDigits (m/10/10))++(one (48+((m/10:Nat):Int) % 10)++t).data.toList:=by
     rw [HR.out,if_neg Om,dec_start (m/10),ByteArray.data_append,Array.toList_append,one_list,List.append_assoc]
    rw [show ((m/10:Nat):Int)=(m:Int)/10 from by omega] at HE
    refine ⟨m/10,_,by go_num,rfl,by omega,hb.alloc hsz _, ?_,HE⟩
    have hl:=congrArg List.length HE
    rw [Lib.decDigits_length,List.length_append] at hl
    have:=Lib.nDigits_le20 n Om
    have hz:(one (48+(m:Int)/10 % 10)++t).data.toList.length=(one (48+(m:Int)/10 % 10)++t).size:=by simp
    omega
   case measure=>simp [intOf];omega
  ·go_wp2
   go_ret
   have HE:=HR.out
   rw [if_pos Om,List.nil_append] at HE
   exact ⟨wC (of_list HE),hb⟩
theorem rdigits_any (n:Int)(h0: -9223372036854775808<=n)(h1:n<=9223372036854775807)(w:World):
  YC 232 #[YI n] w (YR (.string (digS n)) w):=by
 by_cases hn:n<0
 ·obtain ⟨u,hu1,rfl⟩:∃ u:Nat,1<=u/\n= -(u:Int):=⟨n.natAbs,by omega,by omega⟩
  go_enter Tryz.func232,Tryz.ntmps232
  go_wp2_with fail
  rw [show (-(-(u:Int)+1)+1)=(u:Int) from by omega]
  refine (whole_any u Om _).mono ?_
  rintro e w' ⟨rfl,hb⟩
  have hl:(decS u).size<=20:=by
   show (Lib.decDigits u).toArray.size<=20
   rw [List.size_toArray,Lib.decDigits_length]
   exact Lib.nDigits_le20 u Om
  go_wp2
  go_ret
  exact ⟨wC (by unfold decS digS;rw [Lib.itoa_neg u Om];apply ByteArray.ext;simp),hb⟩
 ·obtain ⟨u,rfl⟩:∃ u:Nat,n=(u:Int):=⟨n.toNat,by omega⟩
  go_enter Tryz.func232,Tryz.ntmps232
  go_wp2_with (go_at_call 279;refine (whole_any u Om _).mono ?_;rintro e w' ⟨rfl,hb⟩)
  go_ret
  exact ⟨wC (by unfold decS digS;rw [Lib.itoa_nonneg]),hb⟩
end
section
theorem joinL_snoc (b:UInt8)(P:List (List UInt8))(x:List UInt8):zB b (P++[x])=if P=[] then x else zB b P++b::x:=by
 induction P with
 |nil=>rfl
 |cons y r ih=>
  rw [if_neg (by simp)]
  cases r with
  |nil=>rfl
  |cons z r2=>
   rw [List.cons_append,List.cons_append,zB,←List.cons_append,ih,if_neg (by simp),zB,List.append_assoc];rfl
theorem nU (b:UInt8)(l:List (List UInt8)):∀ k,(zB b (l.take k)).length<=(zB b l).length:=by
 intro k
 induction l generalizing k with
 |nil=>simp
 |cons y r ih=>
  cases k with
  |zero=>simp [zB]
  |succ k=>
   cases r with
   |nil=>simp
   |cons z r2=>
    cases k with
    |zero=>simp [zB]
    |succ k=>
     have:=ih (k+1)
     rw [List.take_succ_cons] at this ⊢
     rw [List.take_succ_cons,zB,zB]
     simp only [List.length_append,List.length_cons]
     omega
def ReadsT (w:World)(B:Nat)(v:Value)(l:List (List UInt8)):Prop:=
 ∃ A cap,v= .slice A l.length cap/\(0<l.length→∃ ad:Addr,A=some ad/\ad.block<B∧∀ j (h:j<l.length),w.cell? (ad.add j)=some (.string (mkS l[j])))
theorem fP (a:Addr)(n:Nat):(a.add n).block=a.block:=by unfold Addr.add;split<;>rfl
theorem ReadsT.of_own {w:World}{base:Nat}{e:TypeId}{v:Value}{l:List (List UInt8)}(h:w.ownsRow base e 1 v l.length (vD l)):ReadsT w w.heap.size v l:=by
 rcases h.2 with ⟨rfl,h0⟩|⟨g,cap,cur,rfl,hg,hh,hn,_⟩
 ·exact ⟨none,0,by rw [h0],λhpos=>by omega⟩
 ·refine ⟨some ⟨g,0,none⟩,cap,rfl,λhpos=>⟨⟨g,0,none⟩,rfl,(Array.getElem?_eq_some_iff.1 hh).1,λj hj=> ?_⟩⟩
  exact h.cells (g:=g) rfl j _ (by unfold vD;rw [List.getElem?_map,List.getElem?_eq_getElem hj];rfl)
theorem one_mk (b:UInt8):one (b.toNat:Int)=mkS [b]:=by
 unfold one mkS
 simp
theorem take_snocL (l:List (List UInt8))(k:Nat)(h:k<l.length):l.take (k+1)=l.take k++[l[k]]:=by
 rw [List.take_succ_eq_append_getElem h]
theorem w9 (l:List (List UInt8))(k:Nat)(h:k<l.length)(h0:0<k):l.take k≠[]:=by
 intro e;have:=congrArg List.length e;rw [List.length_take,List.length_nil] at this;omega
theorem byteCells_one (c:UInt8):Lib.byteCells [c]=[.int .u8 (c.toNat:Int)]:=rfl
theorem jH (l:List UInt8):Lib.strCells (mkS l)=Lib.byteCells l:=rfl
theorem bc_join (x y:List UInt8)(b:UInt8):Lib.byteCells (x++b::y)=Lib.byteCells x++[.int .u8 (b.toNat:Int)]++Lib.strCells (mkS y):=by
 rw [jH,←byteCells_one,←Lib.byteCells_append,←Lib.byteCells_append,List.append_assoc];rfl
theorem vR (v:Value)(l:List (List UInt8))(b:UInt8)(w:World)(hv:ReadsT w w.heap.size v l)(hl:(zB b l).length<=1000000000)(hn:l.length<=1000000000)(hne:zB b l≠[]):
  YC 164 #[v,.int .u8 b.toNat] w (YR (.string (mkS (zB b l))) w):=by
 obtain ⟨A,cap,rfl,hcell⟩:=hv
 go_enter Tryz.func164,Tryz.ntmps164
 go_wp2
 go_loopw [10] (λiv wr=>∃ (k:Nat),iv=YI k/\k<=l.length/\Lib.IsBuilder 131 5 w.heap.size w.heap.size (Lib.byteCells (zB b (l.take k))) wr/\Below w.heap.size w wr) (λiv _=>l.length-(intOf iv).toNat)
 case atStart=>exact ⟨0,rfl,Nat.zero_le _,Lib.fresh_isBuilder 131 5 w,(Below.refl _ _).alloc (Nat.le_refl _) _⟩
 case round=>
  obtain ⟨k,rfl,hk,hI,hb⟩:=hrel
  have hsz:=hb.size
  by_cases hp:k<l.length
  ·obtain ⟨ad,rfl,hlt,hc⟩:=hcell Om
   have hck:wr.cell? (ad.add k)=some (.string (mkS l[k])):=(hb.cell (by rw [fP];exact hlt)).trans (hc k hp)
   have hln:(zB b (l.take (k+1))).length<=1000000000:=Nat.le_trans (nU b l (k+1)) hl
   have HJ:=Lib.hid (joinL_snoc b (l.take k) l[k])
   rw [←take_snocL l k hp] at HJ
   clear hc hcell
   by_cases h0:k=0
   ·subst h0
    have hx2:(mkS l[0]).size<=1000000000:=by
     rw [jP];rw [HJ.out,if_pos List.take_zero] at hln;exact hln
    have hck0:wr.cell? ad=some (.string (mkS l[0])):=hck
    clear hck
    go_wp2_with (go_at_call 163;refine (gN w.heap.size w.heap.size _ (mkS l[0]) _ hI ?_ hsz).mono ?_)
    ·rw [Lib.byteCells_length];simp [zB];omega
    rintro e w1 ⟨rfl,h1,hb1⟩
    go_wp2
    go_roundw
    case rel=>exact ⟨0+1,by go_num,by omega,by rw [HJ.out,if_pos List.take_zero];exact Or.inr h1,hb.trans hb1⟩
    case measure=>simp [intOf];omega
   ·have h0p:0<k:=by omega
    have hlen:(zB b (l.take k)).length+(l[k].length+1)<=1000000000:=by
     rw [HJ.out,if_neg (w9 l k hp h0p),List.length_append,List.length_cons] at hln;exact hln
    go_wp2_with (go_at_call 165;refine (writeByte_any w.heap.size w.heap.size _ _ _ hI ?_ hsz).mono ?_)
    ·rw [Lib.byteCells_length];omega
    rintro e w1 ⟨rfl,h1,hb1⟩
    have hsz1:=(hb.trans hb1).size
    go_wp2_with (go_at_call 163;refine (gN w.heap.size w.heap.size _ (mkS l[k]) _ (Or.inr h1) ?_ hsz1).mono ?_)
    ·rw [List.length_append,Lib.byteCells_length,jP];simp;omega
    rintro e w2 ⟨rfl,h2,hb2⟩
    go_wp2
    go_roundw
    case rel=>exact ⟨k+1,by go_num,by omega,by rw [HJ.out,if_neg (w9 l k hp h0p),bc_join];exact Or.inr h2,(hb.trans hb1).trans hb2⟩
    case measure=>simp [intOf];omega
  ·obtain rfl:k=l.length:=by omega
   go_wp2_with (go_at_call 107;refine (string_any w.heap.size w.heap.size _ _ hI (by rw [List.take_length];exact hne)).mono ?_)
   rintro e w1 ⟨rfl,hb1⟩
   go_wp2
   go_ret
   exact ⟨wC rfl,hb.trans hb1⟩
theorem SlT.readsT {v:Value}{l:List (List UInt8)}{ob L:List Blk}{M:List Nat}{W w:World}(h:SlT v l ob)(hO:Own M W w L)(hs:∀ x∈ob,x∈L):ReadsT w w.heap.size v l:=by
 obtain ⟨A,cap,rfl⟩:=h.form
 refine ⟨A,cap,rfl,λh0=> ?_⟩
 obtain ⟨b,off,e,hlt,hc⟩:=SlT.reads h rfl hO hs h0
 refine ⟨⟨b,off,none⟩,e,hlt,λj hj=> ?_⟩
 rw [yE]
 refine hc j _ ?_
 rw [←yL]
 unfold vD
 rw [List.getElem?_map,List.getElem?_eq_getElem hj];rfl
end
section
theorem infoByte9:(Tryz.prog.info? 5).map (λi=>(i.zero.map (·.cells.size),i.size,i.bytes))=some (some 1,1,1):=by kernel_rfl
theorem byte_info:∃ i z,Tryz.prog.info? 5=some i/\i.zero=some z/\i.size=1/\z.cells.size=1/\i.bytes=1:=by
 have h:=infoByte9
 cases hi:Tryz.prog.info? 5 with
 |none=>rw [hi] at h;cases h
 |some i=>
  rw [hi] at h
  simp only [Option.map_some,Option.some.injEq,Prod.mk.injEq] at h
  cases hz:i.zero with
  |none=>rw [hz] at h;simp at h
  |some z=>rw [hz] at h;simp at h;exact ⟨i,z,rfl,hz,h.2.1,h.1,h.2.2⟩
theorem empty_of {s:ByteArray}(h:(s.size:Int)=0):s=⟨#[]⟩:=by
 have h2:s.data.size=0:=Int.ofNat.inj h
 exact ByteArray.ext (Array.eq_empty_of_size_eq_zero h2)
theorem sclone_any (s:ByteArray)(w:World)(hs:s.size<=281474976710656):
  YC 124 #[.string s] w (YR (.string s) w):=by
 refine Z2 (n:=18) Tryz.func124 rfl (ZO (Zv (.string ⟨#[]⟩) (ZN (y7 (ZO (Zv (.string s) (Zv (YI ((s).size)) ?_)))))))
 by_cases h1:((s).size:Int)=0
 ·refine Zg h1 (ZY (ZO (Zv (.string ⟨#[]⟩) (ZN (xB (zT (ZF (.string ⟨#[]⟩) Tryz.results124 ?_)))))))
  exact λw hO=>⟨by rw [empty_of (s:=s) (by assumption)],hO.below⟩
 refine Zh h1 (ZX (ZB (ZO (Zv (.string s) (Zv (YI ((s).size)) ?_)))))
 obtain ⟨i,z,e1,e2,e3,e4,e5⟩:=byte_info
 refine s_make (kl:= .i64) (kc:= .i64) (l:=(s.size:Int)) (c:=(s.size:Int)) Kr rfl Kr Kr Tryz.underlying90 e1 e2 Om Om (by rw [e5];omega) Om (λb=> ?_)
 rw [show ((s.size:Nat):Int).toNat=s.size from rfl]
 obtain ⟨cs,hcs⟩:∃ cs,cs=madeCells z.cells (s.size*i.size):=⟨_,rfl⟩
 have hcz:cs.size=s.size:=by rw [hcs,size_madeCells,e3];simp
 rw [←hcs]
 refine Zv (.slice (some ⟨b,0,none⟩) s.size s.size) (ZR (Zv (.slice (some ⟨b,0,none⟩) s.size s.size) (Zv (.string s) (s_copyS (b:=b) (cap:=s.size) (s:=s) (cs:=cs) Kr rfl Kr Kr Tryz.underlying90 Kr hcz (ZN (y7 (yD ?_)))))))
 exact Zv (.slice (some ⟨b,0,none⟩) s.size s.size) (gB (Zp b 0) Kr (ZV (b:=b) (off:=0) (n:=s.size) (c:=s.size) (k:= .i64) (j:=0) (e:=5) (sz:=1)) (Zv (.slice (some ⟨b,0,none⟩) s.size s.size) (Zv (YI (s.size:Int)) (s_ustr (s:=s) Kr rfl Kr Kr Tryz.underlying197 (by unfold Program.cellsOf;simp [e1,e3]) Om Om (Zv (.string s) (ZN (xB (ZF (.string s) Tryz.results124 (λw hO=>⟨rfl,hO.below⟩)))))))))
theorem nJ (s:ByteArray)(w:World)(hs:s.size<=281474976710656):
  YC 66 #[.string s] w (YR (.string s) w):=by
 refine Z2 (n:=5) Tryz.func66 rfl (ZO (Zv (.string ⟨#[]⟩) (ZR (Zv (.string s) (Zc (k:=124) (args:= #[.string s]) (.string s) (λw _=>sclone_any s w hs) (Zv (.string s) (bL ?_)))))))
 exact kK (xB (ZF (.string s) Tryz.results66 (λw hO=>⟨rfl,hO.below⟩)))
end
section
def mH (a b c:Int):List (List UInt8):=[Lib.itoa a,Lib.itoa b,Lib.itoa c]
theorem digs_snoc (a b c:Int)(k:Nat)(hk:k<3):(mH a b c).take (k+1)=(mH a b c).take k++[Lib.itoa (vM a b c k)]:=by
 match k,hk with
 |0,_=>rfl
 |1,_=>rfl
 |2,_=>rfl
theorem dF (a b c:Int):zB 46 (mH a b c)=Lib.itoa a++46::(Lib.itoa b++46::Lib.itoa c):=rfl
theorem digits_mk (n:Int)(h0: -9223372036854775808<=n)(h1:n<=9223372036854775807)(w:World)(ht:HasTab w):
  YC 166 #[YI n] w (YR (.string (mkS (Lib.itoa n))) w):=digits_any n h0 h1 w ht
theorem dec_len (n:Nat)(h:n<=9999):(Lib.decDigits n).length<=4:=by
 rw [Lib.decDigits_length]
 unfold Lib.nDigits
 split
 ·omega
 ·unfold Lib.nDigits
  split
  ·omega
  ·unfold Lib.nDigits
   split
   ·omega
   ·rw [Lib.nDigits_small Om];omega
theorem tL {n:Int}(h:zL n=true):(Lib.itoa n).length<=4:=by
 rw [tK h]
 apply dec_len
 unfold zL at h;simp at h;omega
theorem nums_len {a b c:Int}(h1:zL a=true)(h2:zL b=true)(h3:zL c=true):(zB 46 (mH a b c)).length<=14:=by
 rw [dF]
 have:=tL h1;have:=tL h2;have:=tL h3
 simp;omega
theorem print_good (v:Ver)(w:World)(hp:v.pre.length<=1000000)(hq:v.build.length<=1000000)(hm:v.may=true)(ht:HasTab w):
  YC 104 #[x5 v] w (YR (.string (mkS v.text)) w):=by
 obtain ⟨i0,hi,hz0,hz1,hz2⟩:=info_parts infoStr
 have cM:=λw'=>fH v w' Om Om
 have cN:=λw'=>numbers_any v w'
 obtain ⟨n1,n2,n3⟩:=qX hm
 have hT:v.text=zB 46 (mH v.maj v.min v.pat)++xP 45 v.pre++xP 43 v.build:=rfl
 obtain ⟨a,b,c,p,q⟩:=v
 rw [hm] at cM
 unfold x5 at cN cM ⊢
 dsimp only at cN cM hp hq n1 n2 n3 hT ⊢
 have hjl:=nums_len n1 n2 n3
 have HT:=Lib.hid hT
 have H1:=Lib.hid n1
 have H2:=Lib.hid n2
 have H3:=Lib.hid n3
 clear hT hm n1 n2 n3
 go_enter Tryz.func104,Tryz.ntmps104
 go_wp2_with (first
  |(go_at_call 53;refine (cM _).mono ?_;rintro e w1 ⟨rfl,hb1⟩;have hg1:=Lib.hid ((hb1.block w.heap.size (by simp)).trans (tP w _)))
  |(refine wpList_load_row rfl 23 _ rfl w.heap.size rfl _ _ _ _ hg1.out Tryz.underlying23 rfl Kr ?_)
  |(go_at_call 91;refine (cN _).mono ?_;rintro e w2 ⟨rfl,hb2⟩))
 have hbw1:Below w.heap.size w w1:=((Below.refl _ _).alloc (Nat.le_refl _) _).trans (hb1.mono (by simp))
 have hsw:w.heap.size<w1.heap.size:=by have:=hb1.size;rw [size_box] at this;omega
 have hsw2:w.heap.size<w2.heap.size:=Nat.lt_of_lt_of_le hsw hb2.size
 have hg2:=Lib.hid ((hb2.block w.heap.size hsw).trans hg1.out)
 have ht2:HasTab w2:=(ht.on hbw1).on hb2
 go_loopw [3,12] (λv x wr=>∃ k:Nat,k<=3/\x=YI k/\wr.ownsRow w2.heap.size 9 1 v k (vD ((mH a b c).take k))/\Below w2.heap.size w2 wr) (λ_ x _=>3-(intOf x).toNat)
 case atStart=>exact ⟨0,by omega,rfl,⟨rfl,Or.inl ⟨rfl,rfl⟩⟩,Below.refl _ _⟩
 case round=>
  obtain ⟨k,hk,rfl,hown,hbel⟩:=hrel
  have hsz:=hbel.size
  by_cases hk3:k<3
  ·have hki:(k:Int)<3:=by omega
   have hix:∀ w,(Instr.index 117 (.agg #[YI a,YI b,YI c]) (YI k)).run Tryz.prog w= .ok (YI (vM a b c k)) w:=ix_num a b c k hk3
   have hnb:0<=vM a b c k/\vM a b c k<=9999:=by
    have h1:=H1.out;have h2:=H2.out;have h3:=H3.out
    unfold zL at h1 h2 h3;simp at h1 h2 h3
    unfold vM;split
    ·exact h1
    ·split
     ·exact h2
     ·exact h3
   obtain ⟨hn0,hn9⟩:=hnb
   go_wp2_with (first
    |(go_at_call 166;refine (digits_mk _ Om Om _ (ht2.on hbel)).mono ?_;rintro e w3 ⟨rfl,hb3⟩;have hown3:=bW hown hb3;have hsz3:=hb3.size)
    |(at_builtin;refine x6 _ rfl _ _ 75 rfl w2.heap.size 9 i0 (.string ByteArray.empty) 1 16 Tryz.underlying75 hi hz0 hz1 hz2 rfl (by decide) _ _ _ rfl (hown3.alloc _) ⟨w3.heap.size,0,none⟩ 1 1 [.string (mkS (Lib.itoa (vM a b c k)))] rfl rfl ?c1 ?c2 ?c3 ?c4 ?c5 ?_))
   case c1=>
    intro j u hj
    match j,hj with
    |0,hj=>simp at hj;subst hj;simp [Addr.add]
   case c2=>intro u hu;simp at hu;subst hu;rfl
   case c3=>unfold maxLen;omega
   case c4=>omega
   case c5=>simp;omega
   intro v' w5 hown' hgrow _
   go_wp2
   go_roundw
   case rel=>
    refine ⟨k+1,by omega,by go_num, ?_,((hbel.trans (hb3.mono hsz)).alloc Om _).grown hgrow (by simp;omega) (λk hk=>(hown3.lt k hk).1)⟩
    rw [digs_snoc a b c k hk3,d9];exact hown'
   case measure=>simp [intOf];omega
  ·obtain rfl:k=3:=by omega
   have hki:¬ (((3:Nat):Int)<3):=by omega
   have hrd:=ReadsT.of_own (l:=mH a b c) hown
   have hg3:=Lib.hid ((hbel.block w.heap.size hsw2).trans hg2.out)
   have hbww:Below w.heap.size w w2:=hbw1.trans (hb2.mono Om)
   have hj0:(mkS (zB 46 (mH a b c))).size<=14:=by rw [y0];exact hjl
   have hp0:(mkS p).size<=1000000:=by rw [y0];exact hp
   have hq0:(mkS q).size<=1000000:=by rw [y0];exact hq
   have hp1:((⟨#[45]⟩:ByteArray)++mkS p).size<=1000001:=by rw [ByteArray.size_append];show 1+_<=_;omega
   have hq1:((⟨#[43]⟩:ByteArray)++mkS q).size<=1000001:=by rw [ByteArray.size_append];show 1+_<=_;omega
   have hjp:(mkS (zB 46 (mH a b c))++((⟨#[45]⟩:ByteArray)++mkS p)).size<=1000015:=by rw [ByteArray.size_append];omega
   by_cases hpe:p=[]
   ·have hpb:(mkS p).toList.isEmpty=true:=by rw [Lib.toList_data,mk_data,hpe];rfl
    have HPT:=Lib.hid (show xP 45 p=[] by rw [hpe];rfl)
    clear hpe
    by_cases hqe:q=[]
    ·have hqb:(mkS q).toList.isEmpty=true:=by rw [Lib.toList_data,mk_data,hqe];rfl
     have HQT:=Lib.hid (show xP 43 q=[] by rw [hqe];rfl)
     clear hqe
     go_wp2_with (go_at_call 164;refine (vR _ (mH a b c) 46 _ hrd Om (by simp [mH]) (by rw [dF];simp)).mono ?_;rintro e w4 ⟨rfl,hb4⟩;obtain ⟨c3,f3⟩:=qZ (j:=3) ((hb4.block w.heap.size Om).trans hg3.out) (by simp);obtain ⟨c4,f4⟩:=qZ (j:=4) ((hb4.block w.heap.size Om).trans hg3.out) (by simp);simp only [List.getElem_toArray,List.getElem_cons_succ,List.getElem_cons_zero] at c3 c4)
     go_ret
     exact ⟨wC (by rw [HT.out,HPT.out,HQT.out];simp),(hbww.trans (hbel.mono Om)).trans (hb4.mono Om)⟩
    ·have hqb:(mkS q).toList.isEmpty=false:=by rw [Lib.toList_data,mk_data];exact List.isEmpty_eq_false_iff.2 hqe
     have HQT:=Lib.hid (show xP 43 q=43::q by unfold xP;rw [if_neg (by simpa using hqe)])
     clear hqe
     go_wp2_with (go_at_call 164;refine (vR _ (mH a b c) 46 _ hrd Om (by simp [mH]) (by rw [dF];simp)).mono ?_;rintro e w4 ⟨rfl,hb4⟩;obtain ⟨c3,f3⟩:=qZ (j:=3) ((hb4.block w.heap.size Om).trans hg3.out) (by simp);obtain ⟨c4,f4⟩:=qZ (j:=4) ((hb4.block w.heap.size Om).trans hg3.out) (by simp);simp only [List.getElem_toArray,List.getElem_cons_succ,List.getElem_cons_zero] at c3 c4)
     go_ret
     exact ⟨wC (by rw [HT.out,HPT.out,HQT.out,show (⟨#[43]⟩:ByteArray)=mkS [43] from rfl,xE,xE];simp),(hbww.trans (hbel.mono Om)).trans (hb4.mono Om)⟩
   ·have hpb:(mkS p).toList.isEmpty=false:=by rw [Lib.toList_data,mk_data];exact List.isEmpty_eq_false_iff.2 hpe
    have HPT:=Lib.hid (show xP 45 p=45::p by unfold xP;rw [if_neg (by simpa using hpe)])
    clear hpe
    by_cases hqe:q=[]
    ·have hqb:(mkS q).toList.isEmpty=true:=by rw [Lib.toList_data,mk_data,hqe];rfl
     have HQT:=Lib.hid (show xP 43 q=[] by rw [hqe];rfl)
     clear hqe
     go_wp2_with (go_at_call 164;refine (vR _ (mH a b c) 46 _ hrd Om (by simp [mH]) (by rw [dF];simp)).mono ?_;rintro e w4 ⟨rfl,hb4⟩;obtain ⟨c3,f3⟩:=qZ (j:=3) ((hb4.block w.heap.size Om).trans hg3.out) (by simp);obtain ⟨c4,f4⟩:=qZ (j:=4) ((hb4.block w.heap.size Om).trans hg3.out) (by simp);simp only [List.getElem_toArray,List.getElem_cons_succ,List.getElem_cons_zero] at c3 c4)
     go_ret
     exact ⟨wC (by rw [HT.out,HPT.out,HQT.out,show (⟨#[45]⟩:ByteArray)=mkS [45] from rfl,xE,xE];simp),(hbww.trans (hbel.mono Om)).trans (hb4.mono Om)⟩
    ·have hqb:(mkS q).toList.isEmpty=false:=by rw [Lib.toList_data,mk_data];exact List.isEmpty_eq_false_iff.2 hqe
     have HQT:=Lib.hid (show xP 43 q=43::q by unfold xP;rw [if_neg (by simpa using hqe)])
     clear hqe
     go_wp2_with (go_at_call 164;refine (vR _ (mH a b c) 46 _ hrd Om (by simp [mH]) (by rw [dF];simp)).mono ?_;rintro e w4 ⟨rfl,hb4⟩;obtain ⟨c3,f3⟩:=qZ (j:=3) ((hb4.block w.heap.size Om).trans hg3.out) (by simp);obtain ⟨c4,f4⟩:=qZ (j:=4) ((hb4.block w.heap.size Om).trans hg3.out) (by simp);simp only [List.getElem_toArray,List.getElem_cons_succ,List.getElem_cons_zero] at c3 c4)
     go_ret
     exact ⟨wC (by rw [HT.out,HPT.out,HQT.out,show (⟨#[45]⟩:ByteArray)=mkS [45] from rfl,show (⟨#[43]⟩:ByteArray)=mkS [43] from rfl,xE,xE,xE,xE];simp),(hbww.trans (hbel.mono Om)).trans (hb4.mono Om)⟩
theorem print_none (v:Ver)(w:World)(hp:v.pre.length<=1000000)(hq:v.build.length<=1000000)(hm:v.may=false):
  YC 104 #[x5 v] w (YR (.string (mkS [])) w):=by
 have cM:=λw'=>fH v w' Om Om
 rw [hm] at cM
 obtain ⟨a,b,c,p,q⟩:=v
 unfold x5 at cM ⊢
 dsimp only at cM ⊢
 clear hm
 go_enter Tryz.func104,Tryz.ntmps104
 go_wp2_with (go_at_call 53;refine (cM _).mono ?_;rintro e w1 ⟨rfl,hb1⟩)
 go_ret
 exact ⟨rfl,((Below.refl _ _).alloc (Nat.le_refl _) _).trans (hb1.mono (by simp))⟩
theorem vprint_any (v:Ver)(w:World)(hp:v.pre.length<=1000000)(hq:v.build.length<=1000000)(ht:HasTab w):
  YC 104 #[x5 v] w (YR (.string (mkS v.print)) w):=by
 cases hm:v.may with
 |true=>rw [print_eq hm];exact print_good v w hp hq hm ht
 |false=>rw [print_bad hm];exact print_none v w hp hq hm
end
section
def parV (s:List UInt8):Ver:=(parseR s).getD Ver.zero
def parE (s:List UInt8):Int:=if (parseR s).isSome then 0 else 5
def PEnd (s:List UInt8)(w:World)(e:Ending)(w':World):Prop:=e= .returned (.tuple #[x5 (parV s),YI (parE s)])/\Below w.heap.size w w'
end
section
def bumpN (v:Ver)(k:Nat):Ver:=if k=0 then Ver.rel (v.maj+1) 0 0 else if k=1 then Ver.rel v.maj (v.min+1) 0 else Ver.rel v.maj v.min (v.pat+1)
def wZ (v:Ver)(part:Int):Bool:=v.may && decide (0<=part/\part<3) && !(vM v.maj v.min v.pat part.toNat==9999)
def bumpV (v:Ver)(part:Int):Ver:=if wZ v part then bumpN v part.toNat else Ver.zero
def BEnd (v:Ver)(part:Int)(w:World)(e:Ending)(w':World):Prop:=e= .returned (.tuple #[x5 (bumpV v part),.bool (wZ v part)])/\Below w.heap.size w w'
def nextOk (v:Ver):Bool:=v.may && (!v.pre.isEmpty||wZ v 2||wZ v 1||wZ v 0)
def nextV (v:Ver):Ver:=
 if v.may then (if v.pre.isEmpty then (if wZ v 2 then bumpV v 2 else if wZ v 1 then bumpV v 1 else if wZ v 0 then bumpV v 0 else Ver.zero) else Ver.rel v.maj v.min v.pat) else Ver.zero
def NEnd (v:Ver)(w:World)(e:Ending)(w':World):Prop:=e= .returned (.tuple #[x5 (nextV v),.bool (nextOk v)])/\Below w.heap.size w w'
def findB (v:Ver):Nat->Ver×Bool
 |0=>(Ver.zero,false)
 |k+1=>if wZ v k then (bumpV v k,true) else findB v k
end
section
def x3:List Nat->List Nat->Int
 | [],[]=>0
 | [],_::_=> -1
 |_::_,[]=>1
 |a::l,b::m=>if a<b then-1 else if b<a then 1 else x3 l m
theorem cmpL_cons (a b:Nat)(l m:List Nat):x3 (a::l) (b::m)=if a<b then-1 else if b<a then 1 else x3 l m:=rfl
theorem cmpL_self (a:List Nat):x3 a a=0:=by
 induction a with
 |nil=>rfl
 |cons x l ih=>rw [x3,if_neg Om,if_neg Om];exact ih
theorem cmpL_anti (a:List Nat):∀ b,x3 b a= -x3 a b:=by
 induction a with
 |nil=>intro b;cases b<;>rfl
 |cons x l ih=>
  intro b
  cases b with
  |nil=>rfl
  |cons y m=>
   rw [x3,x3]
   by_cases h1:x<y
   ·rw [if_neg Om,if_pos h1,if_pos h1];rfl
   ·by_cases h2:y<x
    ·rw [if_pos h2,if_neg h1,if_pos h2]
    ·rw [if_neg h2,if_neg h1,if_neg h1,if_neg h2];exact ih m
theorem cmpL_range (a:List Nat):∀ b,x3 a b= -1\/x3 a b=0\/x3 a b=1:=by
 induction a with
 |nil=>intro b;cases b<;>simp [x3]
 |cons x l ih=>
  intro b
  cases b with
  |nil=>simp [x3]
  |cons y m=>
   rw [x3]
   split
   ·simp
   ·split
    ·simp
    ·exact ih m
theorem cmpL_zero (a:List Nat):∀ b,x3 a b=0->a=b:=by
 induction a with
 |nil=>intro b;cases b<;>simp [x3]
 |cons x l ih=>
  intro b
  cases b with
  |nil=>simp [x3]
  |cons y m=>
   rw [x3]
   split
   ·intro h;omega
   ·split
    ·intro h;omega
    ·intro h;rw [ih m h,show x=y from by omega]
theorem cmpL_trans (a:List Nat):∀ b c,x3 a b<=0->x3 b c<=0->x3 a c<=0/\(x3 a c=0->x3 a b=0/\x3 b c=0):=by
 induction a with
 |nil=>
  intro b c h1 h2
  cases b with
  |nil=>cases c<;>simp [x3]
  |cons y m=>
   cases c with
   |nil=>simp [x3] at h2
   |cons z n=>simp [x3]
 |cons x l ih=>
  intro b c h1 h2
  cases b with
  |nil=>simp [x3] at h1
  |cons y m=>
   cases c with
   |nil=>simp [x3] at h2
   |cons z n=>
    simp only [cmpL_cons] at h1 h2 ⊢
    by_cases a1:x<y
    ·simp only [if_pos a1] at h1 ⊢
     by_cases a2:y<z
     ·have:x<z:=by omega
      simp only [if_pos this];omega
     ·by_cases a3:z<y
      ·simp only [if_neg a2,if_pos a3] at h2;omega
      ·have:x<z:=by omega
       simp only [if_pos this];omega
    ·by_cases a1':y<x
     ·simp only [if_neg a1,if_pos a1'] at h1;omega
     ·simp only [if_neg a1,if_neg a1'] at h1 ⊢
      obtain rfl:x=y:=by omega
      by_cases a2:x<z
      ·simp only [if_pos a2];omega
      ·by_cases a3:z<x
       ·simp only [if_neg a2,if_pos a3] at h2;omega
       ·simp only [if_neg a2,if_neg a3] at h2 ⊢
        exact ih m n h1 h2
def oneR (a b:List UInt8):Int:=
 if kP a && kP b then Lib.compareInt (zG a) (zG b) else if kP a then-1 else if kP b then 1 else Lib.compareBytes a b
def presL:List (List UInt8)->List (List UInt8)->Int
 | [],[]=>0
 | [],_::_=> -1
 |_::_,[]=>1
 |a::l,b::m=>if oneR a b≠0 then oneR a b else presL l m
def presR (a b:List UInt8):Int:=if a=b then 0 else if a=[] then 1 else if b=[] then-1 else presL (pcs a) (pcs b)
def p7 (t:List UInt8):List Nat:=if kP t then [1,(zG t).toNat] else 2::(t.map (λc=>c.toNat+1)++[0])
def bK (l:List (List UInt8)):List Nat:=l.flatMap p7++[0]
def preKey (p:List UInt8):List Nat:=if p=[] then [3] else bK (pcs p)
def Ver.key (v:Ver):List Nat:=v.maj.toNat::v.min.toNat::v.pat.toNat::preKey v.pre
theorem numD_nat (t:List UInt8):0<=zG t:=by unfold zG;omega
theorem cmpL_bytes (a:List UInt8):∀ (b:List UInt8) (x y:List Nat),x3 (a.map (λc=>c.toNat+1)++0::x) (b.map (λc=>c.toNat+1)++0::y)=if Lib.compareBytes a b≠0 then Lib.compareBytes a b else x3 x y:=by
 induction a with
 |nil=>
  intro b x y
  cases b with
  |nil=>simp [x3,Lib.compareBytes]
  |cons c r=>simp [x3,Lib.compareBytes]
 |cons c r ih=>
  intro b x y
  cases b with
  |nil=>simp [x3,Lib.compareBytes]
  |cons d q=>
   simp only [List.map_cons,List.cons_append,cmpL_cons]
   by_cases h1:c<d
   ·have h1':c.toNat<d.toNat:=UInt8.lt_iff_toNat_lt.1 h1
    have e:Lib.compareBytes (c::r) (d::q)= -1:=by rw [Lib.compareBytes,if_pos h1]
    rw [e,if_pos Om];rfl
   ·by_cases h2:d<c
    ·have h2':d.toNat<c.toNat:=UInt8.lt_iff_toNat_lt.1 h2
     have e:Lib.compareBytes (c::r) (d::q)=1:=by rw [Lib.compareBytes,if_neg h1,if_pos h2]
     rw [e,if_neg Om,if_pos Om];rfl
    ·have a1:¬ c.toNat<d.toNat:=λh=>h1 (UInt8.lt_iff_toNat_lt.2 h)
     have a2:¬ d.toNat<c.toNat:=λh=>h2 (UInt8.lt_iff_toNat_lt.2 h)
     have e:Lib.compareBytes (c::r) (d::q)=Lib.compareBytes r q:=by rw [Lib.compareBytes,if_neg h1,if_neg h2]
     rw [e,if_neg Om,if_neg Om]
     exact ih q x y
theorem cmpL_tag (a b:List UInt8)(x y:List Nat):x3 (p7 a++x) (p7 b++y)=if oneR a b≠0 then oneR a b else x3 x y:=by
 unfold p7 oneR
 cases ha:kP a<;>cases hb:kP b
 ·have:=cmpL_bytes a b x y
  simpa [x3] using this
 ·simp [x3]
 ·simp [x3]
 ·have h1:=numD_nat a
  have h2:=numD_nat b
  simp only [Bool.and_true,if_true,List.cons_append,List.nil_append,x3,Lib.compareInt]
  by_cases h:zG a<zG b
  ·rw [if_pos h,if_pos (by omega:(zG a).toNat<(zG b).toNat)];rfl
  ·by_cases h':zG b<zG a
   ·rw [if_neg h,if_pos h',if_neg (by omega:¬ (zG a).toNat<(zG b).toNat),if_pos (by omega:(zG b).toNat<(zG a).toNat)];rfl
   ·rw [if_neg h,if_neg h',if_neg (by omega:¬ (zG a).toNat<(zG b).toNat),if_neg (by omega:¬ (zG b).toNat<(zG a).toNat)];rfl
theorem tag_cons (a:List UInt8):∃ k r,p7 a=k::r/\0<k/\k<3:=by
 unfold p7;split
 ·exact ⟨_,_,rfl,by omega,by omega⟩
 ·exact ⟨_,_,rfl,by omega,by omega⟩
theorem cmpL_tail (l:List (List UInt8)):∀ m,x3 (bK l) (bK m)=presL l m:=by
 induction l with
 |nil=>
  intro m
  cases m with
  |nil=>rfl
  |cons b m=>
   obtain ⟨k,r,e,h,_⟩:=tag_cons b
   unfold bK
   rw [List.flatMap_cons,e]
   simp [x3,presL,h]
 |cons a l ih=>
  intro m
  cases m with
  |nil=>
   obtain ⟨k,r,e,h,_⟩:=tag_cons a
   unfold bK
   rw [List.flatMap_cons,e]
   simp [x3,presL,h]
  |cons b m=>
   have:=ih m
   unfold bK at this ⊢
   rw [List.flatMap_cons,List.flatMap_cons,List.append_assoc,List.append_assoc,cmpL_tag,this,presL]
theorem tail_small (l:List (List UInt8)):∃ k r,bK l=k::r/\k<3:=by
 unfold bK
 cases l with
 |nil=>exact ⟨0,[],rfl,by omega⟩
 |cons a l=>
  obtain ⟨k,r,e,_,h⟩:=tag_cons a
  exact ⟨k,r++(l.flatMap p7++[0]),by rw [List.flatMap_cons,e];simp,h⟩
theorem presR_key (a b:List UInt8):presR a b=x3 (preKey a) (preKey b):=by
 unfold presR
 by_cases h:a=b
 ·rw [if_pos h,h,cmpL_self]
 ·rw [if_neg h]
  unfold preKey
  by_cases ha:a=[]
  ·have hb:b≠[]:=λe=>h (ha.trans e.symm)
   rw [if_pos ha,if_pos ha,if_neg hb]
   obtain ⟨k,r,e,hk⟩:=tail_small (pcs b)
   rw [e,x3,if_neg Om,if_pos hk]
  ·rw [if_neg ha,if_neg ha]
   by_cases hb:b=[]
   ·rw [if_pos hb,if_pos hb]
    obtain ⟨k,r,e,hk⟩:=tail_small (pcs a)
    rw [e,x3,if_pos hk]
   ·rw [if_neg hb,if_neg hb];exact (cmpL_tail _ _).symm
def cmpN (v w:Ver):Int:=
 if Lib.compareInt v.maj w.maj≠0 then Lib.compareInt v.maj w.maj
 else if Lib.compareInt v.min w.min≠0 then Lib.compareInt v.min w.min
 else Lib.compareInt v.pat w.pat
def vI (v w:Ver):Int:=if v.may && w.may then (if cmpN v w≠0 then cmpN v w else presR v.pre w.pre) else 0
theorem may_nat {v:Ver}(h:v.may=true):(0<=v.maj/\v.maj<=9999)/\(0<=v.min/\v.min<=9999)/\(0<=v.pat/\v.pat<=9999):=by
 obtain ⟨h1,h2,h3⟩:=qX h
 unfold zL at h1 h2 h3;simp at h1 h2 h3
 exact ⟨h1,h2,h3⟩
theorem cmpL_num {a b:Int}(ha:0<=a)(hb:0<=b)(x y:List Nat):x3 (a.toNat::x) (b.toNat::y)=if Lib.compareInt a b≠0 then Lib.compareInt a b else x3 x y:=by
 rw [x3]
 unfold Lib.compareInt
 by_cases h:a<b
 ·rw [if_pos h,if_pos Om];rfl
 ·by_cases h':b<a
  ·rw [if_neg h,if_pos h',if_neg Om,if_pos Om];rfl
  ·rw [if_neg h,if_neg h',if_neg Om,if_neg Om];rfl
theorem dQ {v w:Ver}(hv:v.may=true)(hw:w.may=true):vI v w=x3 v.key w.key:=by
 obtain ⟨v1,v2,v3⟩:=may_nat hv
 obtain ⟨w1,w2,w3⟩:=may_nat hw
 unfold vI
 rw [hv,hw,presR_key]
 unfold Ver.key
 rw [cmpL_num v1.1 w1.1,cmpL_num v2.1 w2.1,cmpL_num v3.1 w3.1]
 unfold cmpN
 simp only [Bool.and_true,if_true]
 by_cases h1:Lib.compareInt v.maj w.maj=0
 ·by_cases h2:Lib.compareInt v.min w.min=0
  ·simp [h1,h2]
  ·simp [h1,h2]
 ·simp [h1]
def pG (a b:List UInt8):Int:=
 if kH a && kH b then Lib.compareInt (zG a) (zG b) else if kH a && !b.isEmpty then-1 else if kH b && !a.isEmpty then 1 else Lib.compareBytes a b
def seqP:Nat->List (List UInt8)->List (List UInt8)->Int
 |0,_,_=>0
 |n+1,l,m=>if pG (tg l 0) (tg m 0)≠0 then pG (tg l 0) (tg m 0) else seqP n l.tail m.tail
theorem numI_numer {t:List UInt8}(h:pC t=true):kH t=kP t:=by
 cases hi:kH t with
 |true=>
  unfold kH at hi
  obtain ⟨n,hn⟩:=Option.isSome_iff_exists.1 hi
  obtain ⟨e,_⟩:=numGo_back t n hn
  unfold kP
  have h1:=(dec_fold n).1
  rw [e,h1]
  cases hd:Lib.decDigits n with
  |nil=>have:=congrArg List.length hd;rw [Lib.decDigits_length] at this;have:=Lib.nDigits_pos n;simp at*;omega
  |cons _ _=>rfl
 |false=>unfold pC at h;rw [hi,Bool.or_false] at h;simpa using h.symm
def fine (t:List UInt8):Bool:=xR t && pC t
theorem fine_ne {t:List UInt8}(h:fine t=true):t≠[]:=by
 unfold fine at h;rw [Bool.and_eq_true] at h
 have:=(tagOk_len h.1).1
 intro e;subst e;simp at this
theorem oneP_one {a b:List UInt8}(ha:fine a=true)(hb:fine b=true):pG a b=oneR a b:=by
 have n1:=fine_ne ha
 have n2:=fine_ne hb
 unfold fine at ha hb;rw [Bool.and_eq_true] at ha hb
 unfold pG oneR
 rw [numI_numer ha.2,numI_numer hb.2]
 have e1:a.isEmpty=false:=by cases a<;>simp_all
 have e2:b.isEmpty=false:=by cases b<;>simp_all
 rw [e1,e2];simp
theorem oneP_nil:pG [] []=0:=by decide
theorem oneP_left {b:List UInt8}(h:b≠[]):pG [] b= -1:=by
 unfold pG
 have e:kH []=false:=by decide
 rw [e]
 cases b with
 |nil=>exact absurd rfl h
 |cons c r=>simp [Lib.compareBytes]
theorem oneP_right {a:List UInt8}(h:a≠[]):pG a []=1:=by
 unfold pG
 have e:kH []=false:=by decide
 rw [e]
 cases a with
 |nil=>exact absurd rfl h
 |cons c r=>simp [Lib.compareBytes]
theorem seqP_pres (n:Nat):∀ l m,l.length<=n->m.length<=n->l.all fine=true->m.all fine=true->seqP n l m=presL l m:=by
 induction n with
 |zero=>
  intro l m hl hm _ _
  obtain rfl:l=[]:=List.eq_nil_of_length_eq_zero Om
  obtain rfl:m=[]:=List.eq_nil_of_length_eq_zero Om
  rfl
 |succ n ih=>
  intro l m hl hm fl fm
  unfold seqP
  match l,m with
  | [],[]=>
   rw [show tg [] 0=[] from rfl,oneP_nil]
   simpa using ih [] [] (by simp) (by simp) rfl rfl
  | [],b::m=>
   rw [List.all_cons,Bool.and_eq_true] at fm
   rw [show tg [] 0=[] from rfl,show tg (b::m) 0=b from rfl,oneP_left (fine_ne fm.1)]
   rfl
  |a::l,[]=>
   rw [List.all_cons,Bool.and_eq_true] at fl
   rw [show tg [] 0=[] from rfl,show tg (a::l) 0=a from rfl,oneP_right (fine_ne fl.1)]
   rfl
  |a::l,b::m=>
   rw [List.all_cons,Bool.and_eq_true] at fl fm
   rw [show tg (a::l) 0=a from rfl,show tg (b::m) 0=b from rfl,oneP_one fl.1 fm.1,presL]
   simp at hl hm
   rw [show (a::l).tail=l from rfl,show (b::m).tail=m from rfl,ih l m hl hm fl.2 fm.2]
def cpre (a b:List UInt8):Int:=if a=[] then 1 else if b=[] then-1 else seqP 4 (lst a).1 (lst b).1
theorem pre_fine {p:List UInt8}(h:wQ p=true)(hne:p≠[]):(lst p).1=pcs p/\(pcs p).all fine=true/\(pcs p).length<=4:=by
 have e:p.isEmpty=false:=by cases p<;>simp_all
 have hl:qI p=true:=by unfold wQ at h;rw [Bool.and_eq_true] at h;exact h.1
 have h1:=lst_all p hl
 rw [e] at h1
 have h1':(lst p).1=pcs p:=by simpa using h1
 refine ⟨h1', ?_, ?_⟩
 ·unfold wQ at h;rw [e,Bool.false_or,Bool.and_eq_true] at h
  unfold qI at hl;rw [e,Bool.false_or,Bool.and_eq_true] at hl
  rw [List.all_eq_true]
  intro x hx
  unfold fine
  rw [List.all_eq_true.1 hl.2 x hx,List.all_eq_true.1 h.2 x hx];rfl
 ·rw [←h1'];exact lst_len p
theorem cpre_pres {a b:List UInt8}(ha:wQ a=true)(hb:wQ b=true)(hne:a≠b):cpre a b=presR a b:=by
 unfold cpre presR
 rw [if_neg hne]
 by_cases h1:a=[]
 ·rw [if_pos h1,if_pos h1]
 ·rw [if_neg h1,if_neg h1]
  by_cases h2:b=[]
  ·rw [if_pos h2,if_pos h2]
  ·rw [if_neg h2,if_neg h2]
   obtain ⟨e1,f1,l1⟩:=pre_fine ha h1
   obtain ⟨e2,f2,l2⟩:=pre_fine hb h2
   rw [e1,e2]
   exact seqP_pres 4 _ _ l1 l2 f1 f2
theorem cmpR_bad {v w:Ver}(h:v.may=false\/w.may=false):vI v w=0:=by
 unfold vI
 rw [if_neg]
 rcases h with h|h<;>simp [h]
def kB (v:Ver):Ver:={v with build:=[]}
theorem fW (x:Int):Lib.compareInt x x=0:=by unfold Lib.compareInt;simp
theorem cmpR_core {v w:Ver}(h:kB v=kB w):vI v w=0:=by
 unfold kB at h
 simp only [Ver.mk.injEq,and_true] at h
 obtain ⟨h1,h2,h3,h4⟩:=h
 unfold vI cmpN presR
 rw [h1,h2,h3,h4]
 simp [fW]
theorem jY {a b:Int}(h:Lib.compareInt a b=0):a=b:=by
 unfold Lib.compareInt at h
 split at h
 ·omega
 ·split at h
  ·omega
  ·omega
theorem cmpR_go {v w:Ver}(hv:v.may=true)(hw:w.may=true)(hc:¬ kB v=kB w):vI v w=if cmpN v w≠0 then cmpN v w else cpre v.pre w.pre:=by
 unfold vI
 rw [hv,hw]
 simp only [Bool.and_true,if_true]
 by_cases h:cmpN v w=0
 ·rw [if_neg (by simpa using h),if_neg (by simpa using h)]
  refine (cpre_pres ?_ ?_ ?_).symm
  ·unfold Ver.may at hv;simp only [Bool.and_eq_true] at hv;exact hv.1.2
  ·unfold Ver.may at hw;simp only [Bool.and_eq_true] at hw;exact hw.1.2
  ·intro e
   apply hc
   unfold cmpN at h
   have h1:Lib.compareInt v.maj w.maj=0:=by
    by_cases g:Lib.compareInt v.maj w.maj=0
    ·exact g
    ·rw [if_pos g] at h;exact absurd h g
   rw [if_neg (by simpa using h1)] at h
   have h2:Lib.compareInt v.min w.min=0:=by
    by_cases g:Lib.compareInt v.min w.min=0
    ·exact g
    ·rw [if_pos g] at h;exact absurd h g
   rw [if_neg (by simpa using h2)] at h
   unfold kB
   rw [jY h1,jY h2,jY h,e]
 ·rw [if_pos h,if_pos h]
end
section
theorem may_pre {v:Ver}(h:v.may=true):wQ v.pre=true:=by
 unfold Ver.may at h;simp only [Bool.and_eq_true] at h;exact h.1.2
theorem tW {v:Ver}(h:v.may=true):(kB v).may=true:=by
 have e:qI []=true:=by decide
 unfold Ver.may at h ⊢;simp only [Bool.and_eq_true] at h ⊢
 exact ⟨⟨h.1.1,h.1.2⟩,e⟩
theorem order_self {a:Ver}:vI a a=0:=cmpR_core rfl
theorem order_core {a b:Ver}(ha:a.may=true)(hb:b.may=true):vI (kB a) b=vI a b:=by
 rw [dQ (tW ha) hb,dQ ha hb];rfl
def Ver.code (v:Ver):Int:=(v.maj*10000+v.min)*10000+v.pat
end
section
end
section
structure Co where
 op:Int
 parts:Int
 v:Ver
deriving DecidableEq
def zZ (op:Int):List UInt8:=if op=1 then [61] else if op=2 then [33,61] else if op=3 then [60] else if op=4 then [60,61] else if op=5 then [62] else if op=6 then [62,61] else if op=7 then [94] else if op=8 then [126] else []
def Co.may (c:Co):Bool:=decide (1<=c.op/\c.op<=9) && c.v.may && decide (c.v.build=[]) && (if c.op=9 then decide (0<=c.parts/\c.parts<=2) else decide (1<=c.parts/\c.parts<=3)) && decide (3<=c.parts\/c.v.pre=[]) && decide (0<c.parts\/c.v.maj=0) && decide (1<c.parts\/c.v.min=0) && decide (2<c.parts\/c.v.pat=0)
theorem Co.facts {c:Co}(h:c.may=true):(1<=c.op/\c.op<=9)/\c.v.may=true/\c.v.build=[]/\(c.op=9->0<=c.parts/\c.parts<=2)/\(¬ c.op=9->1<=c.parts/\c.parts<=3)/\(3<=c.parts\/c.v.pre=[])/\(0<c.parts\/c.v.maj=0)/\(1<c.parts\/c.v.min=0)/\(2<c.parts\/c.v.pat=0):=by
 unfold Co.may at h
 simp only [Bool.and_eq_true,decide_eq_true_eq] at h
 obtain ⟨⟨⟨⟨⟨⟨⟨h1,h2⟩,h3⟩,h4⟩,h5⟩,h6⟩,h7⟩,h8⟩:=h
 refine ⟨h1,h2,h3,λe=> ?_,λe=> ?_,h5,h6,h7,h8⟩
 ·rw [if_pos e] at h4;exact of_decide_eq_true h4
 ·rw [if_neg e] at h4;exact of_decide_eq_true h4
theorem Co.may_iff {c:Co}:c.may=true↔(1<=c.op/\c.op<=9)/\c.v.may=true/\c.v.build=[]/\(c.op=9->0<=c.parts/\c.parts<=2)/\(¬ c.op=9->1<=c.parts/\c.parts<=3)/\(3<=c.parts\/c.v.pre=[])/\(0<c.parts\/c.v.maj=0)/\(1<c.parts\/c.v.min=0)/\(2<c.parts\/c.v.pat=0):=by
 refine ⟨Co.facts,λ⟨h1,h2,h3,k9,kn,h5,h6,h7,h8⟩=> ?_⟩
 unfold Co.may
 rw [decide_eq_true h1,h2,decide_eq_true h3,decide_eq_true h5,decide_eq_true h6,decide_eq_true h7,decide_eq_true h8]
 by_cases e:c.op=9
 ·rw [if_pos e,decide_eq_true (k9 e)];rfl
 ·rw [if_neg e,decide_eq_true (kn e)];rfl
def zQ (v:Ver)(n:Nat):List (List UInt8):=[Lib.itoa v.maj,Lib.itoa v.min,Lib.itoa v.pat].take n
def Co.rest (c:Co):List UInt8:=if c.op=9 then zB 46 (zQ c.v c.parts.toNat++[[42]]) else zB 46 (zQ c.v c.parts.toNat)++xP 45 c.v.pre
def Co.text (c:Co):List UInt8:=zZ c.op++c.rest
def Co.print (c:Co):List UInt8:=if c.may then c.text else []
def yK (s t:List UInt8):Bool:=decide (s.take t.length=t)
def hZ (s:List UInt8):Int×List UInt8:=
 if yK s [33,61] then (2,s.drop 2) else if yK s [60,61] then (4,s.drop 2) else if yK s [62,61] then (6,s.drop 2) else if yK s [61] then (1,s.drop 1)
 else if yK s [60] then (3,s.drop 1) else if yK s [62] then (5,s.drop 1) else if yK s [94] then (7,s.drop 1) else if yK s [126] then (8,s.drop 1)
 else if s.getLast?=some 42 then (9,s) else (7,s)
def mF (op:Int)(rest:List UInt8):List (List UInt8):=if op=9 then (pcs (z7 45 rest).1).dropLast else pcs (z7 45 rest).1
def guessC (op:Int)(rest:List UInt8):Option Co:=
 if (mF op rest).length<=3/\(mF op rest).all kH=true then
  some ⟨op,(mF op rest).length,⟨zG (tg (mF op rest) 0),zG (tg (mF op rest) 1),zG (tg (mF op rest) 2),(z7 45 rest).2.1,[]⟩⟩
 else none
def fits (s:List UInt8)(c:Co):Bool:= !decide (c.print=[]) && (decide (c.print=s)||decide (c.print=94::s))
def kX (s:List UInt8):Option Co:=(guessC (hZ s).1 (hZ s).2).filter (fits s)
theorem print_may {c:Co}(h:¬ c.print=[]):c.may=true:=by
 cases hm:c.may with
 |true=>rfl
 |false=>exact absurd (show c.print=[] by unfold Co.print;rw [hm];rfl) h
theorem g0 {c:Co}(h:c.may=true):c.print=c.text:=by unfold Co.print;rw [h];rfl
theorem parseC_back {s:List UInt8}{c:Co}(h:kX s=some c):c.may=true/\(c.text=s\/c.text=94::s):=by
 unfold kX at h
 obtain ⟨_,h⟩:=Option.filter_eq_some_iff.1 h
 unfold fits at h
 simp only [Bool.and_eq_true,Bool.not_eq_true',decide_eq_false_iff_not,Bool.or_eq_true,decide_eq_true_eq] at h
 have hm:=print_may h.1
 rw [g0 hm] at h
 exact ⟨hm,h.2⟩
theorem pcs_cons {x y:List UInt8}(h:(46:UInt8)∉x):pcs (x++46::y)=x::pcs y:=by
 unfold pcs
 rw [gG,cutAt_hit 46 _ _ h]
 simp
theorem pcs_one {x:List UInt8}(h:(46:UInt8)∉x):pcs x=[x]:=by
 unfold pcs
 rw [gG,jB 46 _ h]
 simp
theorem pcs_join:∀ (l:List (List UInt8)),l≠[]->(∀ x∈l,(46:UInt8)∉x)->pcs (zB 46 l)=l
 | [],h,_=>absurd rfl h
 | [x],_,h=>pcs_one (h x (List.mem_singleton.2 rfl))
 |x::y::r,_,h=>by
  rw [zB,pcs_cons (h x (List.mem_cons_self ..)),pcs_join (y::r) (by simp) λz hz=>h z (List.mem_cons_of_mem _ hz)]
theorem nums_mem {v:Ver}(hv:v.may=true){n:Nat}{x:List UInt8}(h:x∈zQ v n):∃ k:Int,zL k=true/\x=Lib.itoa k:=by
 obtain ⟨h1,h2,h3⟩:=qX hv
 unfold zQ at h
 have h:=List.mem_of_mem_take h
 simp only [List.mem_cons,List.not_mem_nil,or_false] at h
 rcases h with rfl|rfl|rfl
 ·exact ⟨_,h1,rfl⟩
 ·exact ⟨_,h2,rfl⟩
 ·exact ⟨_,h3,rfl⟩
theorem vK {v:Ver}(hv:v.may=true){n:Nat}(b:UInt8)(hb:yP b.toNat=false):∀ x∈zQ v n,b∉x:=λx hx=>by
 obtain ⟨k,hk,rfl⟩:=nums_mem hv hx
 exact dig_free hk b hb
theorem wM (b:UInt8)(hb:b≠46):∀ (l:List (List UInt8)),(∀ x∈l,b∉x)->b∉zB 46 l
 | [],_=>by simp [zB]
 | [x],h=>h x (List.mem_singleton.2 rfl)
 |x::y::r,h=>by
  rw [zB]
  simp only [List.mem_append,List.mem_cons,not_or]
  exact ⟨h x (List.mem_cons_self ..),hb,wM b hb (y::r) λz hz=>h z (List.mem_cons_of_mem _ hz)⟩
theorem qQ (v:Ver){n:Nat}(h:n<=3):(zQ v n).length=n:=by
 unfold zQ
 rw [List.length_take]
 simp;omega
theorem nums_num {v:Ver}(hv:v.may=true)(n:Nat):(zQ v n).all kH=true:=List.all_eq_true.2 λx hx=>by
 obtain ⟨k,hk,rfl⟩:=nums_mem hv hx
 exact numI_itoa hk
theorem nums_back {v:Ver}(hv:v.may=true){n:Nat}(h:n<=3)(h0:0<n\/v.maj=0)(h1:1<n\/v.min=0)(h2:2<n\/v.pat=0):zG (tg (zQ v n) 0)=v.maj/\zG (tg (zQ v n) 1)=v.min/\zG (tg (zQ v n) 2)=v.pat:=by
 obtain ⟨m1,m2,m3⟩:=qX hv
 have e1:=dD m1
 have e2:=dD m2
 have e3:=dD m3
 match n,h with
 |0,_=>exact ⟨(h0.resolve_left (by decide)).symm,(h1.resolve_left (by decide)).symm,(h2.resolve_left (by decide)).symm⟩
 |1,_=>exact ⟨e1,(h1.resolve_left (by decide)).symm,(h2.resolve_left (by decide)).symm⟩
 |2,_=>exact ⟨e1,e2,(h2.resolve_left (by decide)).symm⟩
 |3,_=>exact ⟨e1,e2,e3⟩
theorem guess_rest {c:Co}(h:c.may=true):guessC c.op c.rest=some c:=by
 obtain ⟨_,hv,hb,h9,hn,hp,k0,k1,k2⟩:=Co.facts h
 obtain ⟨op,parts,v⟩:=c
 simp only at hv hb h9 hn hp k0 k1 k2 ⊢
 have hparts:(parts.toNat:Int)=parts/\parts.toNat<=3:=by
  by_cases e:op=9
  ·have:=h9 e;omega
  ·have:=hn e;omega
 have key:mF op (Co.rest ⟨op,parts,v⟩)=zQ v parts.toNat/\(z7 45 (Co.rest ⟨op,parts,v⟩)).2.1=v.pre:=by
  unfold mF Co.rest
  by_cases e:op=9
  ·rw [if_pos e]
   dsimp only
   rw [if_pos e]
   have f:∀ b:UInt8,yP b.toNat=false->b≠42→∀ x∈zQ v parts.toNat++[[42]],b∉x:=λb hb hb2 x hx=>by
    rcases List.mem_append.1 hx with hx|hx
    ·exact vK hv b hb x hx
    ·rw [List.mem_singleton.1 hx]
     intro hm
     exact hb2 (List.mem_singleton.1 hm)
   rw [jB 45 _ (wM 45 (by decide) _ (f 45 (by decide) (by decide)))]
   have hpre:v.pre=[]:=hp.resolve_left (by have:=h9 e;omega)
   exact ⟨by
    show (pcs (zB 46 (zQ v parts.toNat++[[42]]))).dropLast=_
    rw [pcs_join _ (by simp) (f 46 (by decide) (by decide)),List.dropLast_concat],hpre.symm⟩
  ·rw [if_neg e]
   dsimp only
   rw [if_neg e]
   have hne:zQ v parts.toNat≠[]:=λh0=>by
    have:=qQ v hparts.2
    rw [h0] at this
    have:=hn e
    simp at*;omega
   rw [cut_tail 45 _ _ (wM 45 (by decide) _ (vK hv 45 (by decide)))]
   exact ⟨pcs_join _ hne (vK hv 46 (by decide)),rfl⟩
 unfold guessC
 rw [key.1,key.2,if_pos ⟨by rw [qQ v hparts.2];exact hparts.2,nums_num hv _⟩]
 obtain ⟨e1,e2,e3⟩:=nums_back hv hparts.2 Om Om Om
 rw [e1,e2,e3,qQ v hparts.2,hparts.1]
 obtain ⟨a,b,p,q,r⟩:=v
 simp only at hb
 rw [hb]
theorem itoa_head {k:Int}(h:zL k=true):∃ d r,Lib.itoa k=d::r/\yP d.toNat=true:=by
 have hm:=num_itoa h
 cases e:Lib.itoa k with
 |nil=>rw [e] at hm;cases hm
 |cons d r=>exact ⟨d,r,rfl,by
   have:=dig_mem k.toNat d (by rw [←tK h,e];exact List.mem_cons_self)
   exact this⟩
theorem join_head {x:List UInt8}{l:List (List UInt8)}{d:UInt8}{r:List UInt8}(h:x=d::r):∃ r',zB 46 (x::l)=d::r':=by
 subst h
 cases l with
 |nil=>exact ⟨r,rfl⟩
 |cons y t=>exact ⟨_,rfl⟩
theorem dB {c:Co}(h:c.may=true)(hn:¬ c.op=9):∃ d r,c.rest=d::r/\yP d.toNat=true:=by
 obtain ⟨_,hv,_,_,h9,_⟩:=Co.facts h
 obtain ⟨d,r,e,hd⟩:=itoa_head (qX hv).1
 obtain ⟨n,en⟩:∃ n,c.parts.toNat=n+1:=⟨c.parts.toNat-1,by have:=h9 hn;omega⟩
 obtain ⟨r',e'⟩:=join_head (l:=[Lib.itoa c.v.min,Lib.itoa c.v.pat].take n) e
 refine ⟨d,r'++xP 45 c.v.pre, ?_,hd⟩
 unfold Co.rest zQ
 rw [if_neg hn,en,List.take_succ_cons,e'];rfl
theorem mQ {c:Co}(h:c.may=true)(hn:c.op=9):∃ d r,c.rest=d::r/\(yP d.toNat=true\/d=42):=by
 obtain ⟨_,hv,_,h9,_⟩:=Co.facts h
 obtain ⟨d,r,e,hd⟩:=itoa_head (qX hv).1
 unfold Co.rest zQ
 rw [if_pos hn]
 cases hp:c.parts.toNat with
 |zero=>exact ⟨42,[],rfl,.inr rfl⟩
 |succ n=>
  obtain ⟨r',e'⟩:=join_head (l:=[Lib.itoa c.v.min,Lib.itoa c.v.pat].take n++[[42]]) e
  exact ⟨d,r',by rw [List.take_succ_cons,List.cons_append,e'],.inl hd⟩
theorem gK {d:UInt8}{r:List UInt8}{a:UInt8}{t:List UInt8}(h:d≠a):yK (d::r) (a::t)=false:=decide_eq_false λe=>by
 rw [List.length_cons,List.take_succ_cons] at e
 injection e with e1 _
 exact h e1
theorem split_plain {d:UInt8}{r:List UInt8}(h:yP d.toNat=true\/d=42):hZ (d::r)=if (d::r).getLast?=some 42 then (9,d::r) else (7,d::r):=by
 have hd:∀ a:UInt8,yP a.toNat=false->a≠42->d≠a:=λa ha h42 e=>by
  subst e
  rcases h with h|h
  ·rw [ha] at h;cases h
  ·exact h42 h
 unfold hZ
 rw [gK (hd 33 (by decide) (by decide)),gK (hd 60 (by decide) (by decide)),gK (hd 62 (by decide) (by decide)),gK (hd 61 (by decide) (by decide)),gK (hd 60 (by decide) (by decide)),gK (hd 62 (by decide) (by decide)),gK (hd 94 (by decide) (by decide)),gK (hd 126 (by decide) (by decide))]
 rfl
theorem split_sign {op:Int}(h1:1<=op)(h8:op<=8){d:UInt8}{r:List UInt8}(hd:yP d.toNat=true):hZ (zZ op++d::r)=(op,d::r):=by
 have h61:d≠61:=λe=>by subst e;revert hd;decide
 have hop:op=1\/op=2\/op=3\/op=4\/op=5\/op=6\/op=7\/op=8:=by omega
 rcases hop with rfl|rfl|rfl|rfl|rfl|rfl|rfl|rfl<;>simp [zZ,hZ,yK,h61]
theorem last_join (x:List UInt8):∀ (l:List (List UInt8)),(zB 46 (l++[x++[42]])).getLast?=some 42
 | []=>by simp [zB]
 | [y]=>by
  show (y++46::(x++[42])).getLast?=some 42
  rw [show y++46::(x++[42])=(y++46::x)++[42] from by simp,List.getLast?_concat]
 |y::z::r=>by
  have:=last_join x (z::r)
  show (y++46::zB 46 (z::r++[x++[42]])).getLast?=some 42
  rw [List.getLast?_append]
  cases hj:zB 46 (z::r++[x++[42]]) with
  |nil=>rw [hj] at this;cases this
  |cons a b=>rw [hj] at this;rw [List.getLast?_cons_cons,this];rfl
theorem star_free (s:List UInt8)(h:qI s=true):(42:UInt8)∉s:=by
 intro hm
 unfold qI at h
 rcases splitL_mem 46 s [] 42 hm with e|⟨x,hx,hc⟩
 ·revert e;decide
 ·have hne:s.isEmpty=false:=by cases s with
   |nil=>cases hm
   |cons _ _=>rfl
  rw [hne,Bool.false_or,Bool.and_eq_true] at h
  have:=List.all_eq_true.1 h.2 x hx
  unfold xR at this
  rw [Bool.and_eq_true] at this
  have:=List.all_eq_true.1 this.2 _ hc
  revert this;decide
theorem rest_star {c:Co}(h:c.may=true)(hn:¬ c.op=9):(42:UInt8)∉c.rest:=by
 obtain ⟨_,hv,_⟩:=Co.facts h
 have hl:qI c.v.pre=true:=by
  have:=may_pre hv
  unfold wQ at this
  exact (Bool.and_eq_true_iff.1 this).1
 unfold Co.rest
 rw [if_neg hn]
 intro hm
 rcases List.mem_append.1 hm with hm|hm
 ·exact wM 42 (by decide) _ (vK hv 42 (by decide)) hm
 ·unfold xP at hm
  split at hm
  ·cases hm
  ·rcases List.mem_cons.1 hm with e|hm
   ·revert e;decide
   ·exact star_free _ hl hm
theorem split_text {c:Co}(h:c.may=true):hZ c.text=(c.op,c.rest):=by
 obtain ⟨ho,_⟩:=Co.facts h
 unfold Co.text
 by_cases hn:c.op=9
 ·obtain ⟨d,r,e,hd⟩:=mQ h hn
  have hl:c.rest.getLast?=some 42:=by unfold Co.rest;rw [if_pos hn];exact last_join [] _
  rw [hn,show zZ 9=[] from rfl,List.nil_append]
  rw [e] at hl ⊢
  rw [split_plain hd,if_pos hl]
 ·obtain ⟨d,r,e,hd⟩:=dB h hn
  rw [e]
  exact split_sign ho.1 Om hd
theorem parseC_text {c:Co}(h:c.may=true):kX c.text=some c:=by
 unfold kX
 rw [split_text h,guess_rest h]
 refine Option.filter_eq_some_iff.2 ⟨rfl, ?_⟩
 have hne:¬ c.text=[]:=λe=>by
  unfold Co.text at e
  have e2:=(List.append_eq_nil_iff.1 e).2
  by_cases hn:c.op=9
  ·obtain ⟨d,r,e3,_⟩:=mQ h hn;rw [e3] at e2;cases e2
  ·obtain ⟨d,r,e3,_⟩:=dB h hn;rw [e3] at e2;cases e2
 unfold fits
 rw [g0 h,decide_eq_false hne,decide_eq_true rfl];rfl
theorem parseC_caret {c:Co}{s:List UInt8}(h:c.may=true)(hs:c.text=94::s):kX s=some c:=by
 obtain ⟨ho,_⟩:=Co.facts h
 have hop:c.op=7/\c.rest=s:=by
  unfold Co.text at hs
  by_cases hn:c.op=9
  ·obtain ⟨d,r,e,hd⟩:=mQ h hn
   rw [hn,show zZ 9=[] from rfl,List.nil_append,e] at hs
   injection hs with e1 _
   rw [e1] at hd
   exact absurd hd (by decide)
  ·have hop:c.op=1\/c.op=2\/c.op=3\/c.op=4\/c.op=5\/c.op=6\/c.op=7\/c.op=8:=by omega
   rcases hop with e|e|e|e|e|e|e|e<;>rw [e] at hs<;>simp [zZ] at hs
   exact ⟨e,hs⟩
 obtain ⟨d,r,e,hd⟩:=dB h Om
 have h42:¬ s.getLast?=some 42:=λhl=>by
  have:=List.mem_of_getLast? hl
  rw [←hop.2] at this
  exact rest_star h Om this
 unfold kX
 have hsp:hZ s=(7,s):=by
  rw [←hop.2,e,split_plain (.inl hd),if_neg (by rw [←e,hop.2];exact h42)]
 rw [hsp]
 have hg:=guess_rest h
 rw [hop.1,hop.2] at hg
 rw [hg]
 refine Option.filter_eq_some_iff.2 ⟨rfl, ?_⟩
 unfold fits
 rw [g0 h,hs,decide_eq_false (by simp),decide_eq_true rfl,Bool.or_true];rfl
theorem fC (s:List UInt8)(c:Co):kX s=some c↔c.may=true/\(c.text=s\/c.text=94::s):=
 ⟨parseC_back,λ⟨hm,h⟩=>h.elim (λe=>e▸parseC_text hm) (λe=>parseC_caret hm e)⟩
end
section
def numT (k:Nat):Int:=(([0,1,2,3,0,1,10,9999]:List Int)[k]?).getD 0
def preT14 (k:Nat):List UInt8:=(([[],[],[],[],[48],[49],[50],[49,49],[97],[97,46,49],[97,46,98],[98],[48,46,48],[114,99,46,49]]:List (List UInt8))[k]?).getD []
def bldT (k:Nat):List UInt8:=(([[],[],[],[],[48,48,55],[120,46,49]]:List (List UInt8))[k]?).getD []
def genV (l:List Int)(i:Nat):Ver:=⟨numT (plc (atL l i) 8).toNat,numT (plc (atL l (i+1)) 8).toNat,numT (plc (atL l (i+2)) 8).toNat,preT14 (plc (atL l (i+3)) 14).toNat,bldT (plc (atL l (i+4)) 6).toNat⟩
def GEnd (u:Ver)(w:World)(e:Ending)(w':World):Prop:=e= .returned (x5 u)/\Below w.heap.size w w'
end
section
end
section
structure Cu where
 e:Int
 v:Ver
 aft:Bool
deriving DecidableEq
def Cu.may (c:Cu):Bool:=if c.e=0 then c.v.may && c.v.build.isEmpty else decide (c.e= -1\/c.e=1) && decide (c.v=Ver.zero) && !c.aft
def b01 (b:Bool):Int:=if b then 1 else 0
def lex (x y:Int):Int:=if x=0 then y else x
def q7 (a b:Cu):Int:=if a.may && b.may then lex (Lib.compareInt a.e b.e) (lex (vI a.v b.v) (Lib.compareInt (b01 a.aft) (b01 b.aft))) else 0
theorem zero_may:Ver.zero.may=true:=by decide
theorem may_v {c:Cu}(h:c.may=true):c.v.may=true:=by
 unfold Cu.may at h
 split at h
 ·rw [Bool.and_eq_true] at h;exact h.1
 ·simp only [Bool.and_eq_true,decide_eq_true_eq] at h;rw [h.1.2];exact zero_may
theorem may_e {c:Cu}(h:c.may=true):(c.e=0/\c.v.build=[])\/((c.e= -1\/c.e=1)/\c.v=Ver.zero/\c.aft=false):=by
 unfold Cu.may at h
 split at h
 ·rename_i h0;rw [Bool.and_eq_true] at h;exact .inl ⟨h0,List.isEmpty_iff.1 h.2⟩
 ·simp only [Bool.and_eq_true,decide_eq_true_eq,Bool.not_eq_true'] at h;exact .inr ⟨h.1.1,h.1.2,h.2⟩
theorem pO {v w:Ver}:vI v w= -1\/vI v w=0\/vI v w=1:=by
 by_cases hv:v.may=true
 ·by_cases hw:w.may=true
  ·rw [dQ hv hw];exact cmpL_range _ _
  ·exact .inr (.inl (cmpR_bad (.inr (by simpa using hw))))
 ·exact .inr (.inl (cmpR_bad (.inl (by simpa using hv))))
theorem ci_range (x y:Int):Lib.compareInt x y= -1\/Lib.compareInt x y=0\/Lib.compareInt x y=1:=by
 unfold Lib.compareInt
 by_cases h:x<y
 ·rw [if_pos h];simp
 ·rw [if_neg h]
  by_cases h2:y<x
  ·rw [if_pos h2];simp
  ·rw [if_neg h2];simp
theorem cmpC_good {a b:Cu}(ha:a.may=true)(hb:b.may=true):q7 a b=lex (Lib.compareInt a.e b.e) (lex (vI a.v b.v) (Lib.compareInt (b01 a.aft) (b01 b.aft))):=by
 unfold q7;rw [ha,hb];rfl
theorem cmpC_range (a b:Cu):q7 a b= -1\/q7 a b=0\/q7 a b=1:=by
 unfold q7 lex
 have h1:=ci_range a.e b.e
 have h2:=pO (v:=a.v) (w:=b.v)
 have h3:=ci_range (b01 a.aft) (b01 b.aft)
 split
 ·split
  ·split
   ·exact h3
   ·exact h2
  ·exact h1
 ·simp
structure Ord3 {α:Type}(c:α->α->Int):Prop where
 anti:∀ x y,c y x= -c x y
 on:∀ x y z,c x y<=0->c y z<=0->c x z<=0/\(c x z=0->c x y=0/\c y z=0)
 same:∀ x y z,c x y=0->c y z=0->c x z=0
theorem lex_ord {α:Type}{c d:α->α->Int}(hc:Ord3 c)(hd:Ord3 d):Ord3 (λx y=>lex (c x y) (d x y)):=by
 refine ⟨λx y=> ?_,λx y z h1 h2=> ?_,λx y z h1 h2=> ?_⟩
 ·have a:=hc.anti x y;have b:=hd.anti x y
  show lex (c y x) (d y x)= -lex (c x y) (d x y)
  unfold lex
  by_cases h:c x y=0
  ·rw [if_pos h,if_pos Om];exact b
  ·rw [if_neg h,if_neg Om];exact a
 ·have a:=hc.on x y z;have b:=hd.on x y z;have s:=hc.same x y z
  show lex _ _<=0/\(lex _ _=0->lex _ _=0/\lex _ _=0)
  replace h1:lex (c x y) (d x y)<=0:=h1
  replace h2:lex (c y z) (d y z)<=0:=h2
  unfold lex at h1 h2 ⊢
  by_cases p:c x y=0
  ·by_cases q:c y z=0
   ·rw [if_pos p] at h1 ⊢;rw [if_pos q] at h2 ⊢;rw [if_pos (s p q)];exact b h1 h2
   ·rw [if_pos p] at h1 ⊢;rw [if_neg q] at h2 ⊢
    obtain ⟨a1,a2⟩:=a Om h2
    have:c x z≠0:=λe=>q (a2 e).2
    rw [if_neg this];exact ⟨a1,λe=>absurd e this⟩
  ·rw [if_neg p] at h1 ⊢
   have h2':c y z<=0:=by
    by_cases q:c y z=0
    ·omega
    ·rw [if_neg q] at h2;exact h2
   obtain ⟨a1,a2⟩:=a h1 h2'
   have:c x z≠0:=λe=>p (a2 e).1
   rw [if_neg this];exact ⟨a1,λe=>absurd e this⟩
 ·have s:=hc.same x y z;have t:=hd.same x y z
  show lex _ _=0
  replace h1:lex (c x y) (d x y)=0:=h1
  replace h2:lex (c y z) (d y z)=0:=h2
  unfold lex at h1 h2 ⊢
  by_cases p:c x y=0
  ·by_cases q:c y z=0
   ·rw [if_pos p] at h1;rw [if_pos q] at h2;rw [if_pos (s p q)];exact t h1 h2
   ·rw [if_neg q] at h2;exact absurd h2 q
  ·rw [if_neg p] at h1;exact absurd h1 p
theorem ci_ord {α:Type}(f:α->Int):Ord3 (λx y=>Lib.compareInt (f x) (f y)):=by
 refine ⟨λx y=> ?_,λx y z=> ?_,λx y z=> ?_⟩<;>unfold Lib.compareInt<;>(repeat' split)<;>omega
theorem cmpL_ord {α:Type}(f:α->List Nat):Ord3 (λx y=>x3 (f x) (f y)):=by
 refine ⟨λx y=>cmpL_anti _ _,λx y z=>cmpL_trans _ _ _,λx y z h1 h2=> ?_⟩
 show x3 (f x) (f z)=0
 rw [cmpL_zero _ _ h1,cmpL_zero _ _ h2];exact cmpL_self _
def cmpK (a b:Cu):Int:=lex (Lib.compareInt a.e b.e) (lex (x3 a.v.key b.v.key) (Lib.compareInt (b01 a.aft) (b01 b.aft)))
theorem cmpK_ord:Ord3 cmpK:=lex_ord (ci_ord (λc:Cu=>c.e)) (lex_ord (cmpL_ord (λc:Cu=>c.v.key)) (ci_ord (λc:Cu=>b01 c.aft)))
theorem cmpC_K {a b:Cu}(ha:a.may=true)(hb:b.may=true):q7 a b=cmpK a b:=by
 rw [cmpC_good ha hb,dQ (may_v ha) (may_v hb)];rfl
theorem tX {a b:Cu}(h:a.may=false\/b.may=false):q7 a b=0:=by
 unfold q7
 rcases h with h|h<;>rw [h]<;>simp
theorem cut_anti {a b:Cu}:q7 b a= -q7 a b:=by
 cases ha:a.may with
 |true=>
  cases hb:b.may with
  |true=>rw [cmpC_K ha hb,cmpC_K hb ha];exact cmpK_ord.anti _ _
  |false=>rw [tX (.inl hb),tX (.inr hb)];rfl
 |false=>rw [tX (a:=a) (.inl ha),tX (b:=a) (.inr ha)];rfl
theorem cut_on {a b c:Cu}(ha:a.may=true)(hb:b.may=true)(hc:c.may=true)(h1:q7 a b<=0)(h2:q7 b c<=0):q7 a c<=0/\(q7 a c=0->q7 a b=0/\q7 b c=0):=by
 rw [cmpC_K ha hb] at h1 ⊢;rw [cmpC_K hb hc] at h2 ⊢;rw [cmpC_K ha hc];exact cmpK_ord.on _ _ _ h1 h2
def jA (e:Int):Cu:=⟨e,Ver.zero,false⟩
def posC (v:Ver):Cu:=⟨0,kB v,false⟩
theorem posC_may {v:Ver}(h:v.may=true):(posC v).may=true:=by
 unfold posC Cu.may
 rw [if_pos rfl,tW h];rfl
def fO (c:Cu)(v:Ver):Bool:=c.may && v.may && (if c.e=0 then decide (vI c.v v<0\/(vI c.v v=0/\c.aft=false)) else decide (c.e<0))
theorem cmpR_coreR {a v:Ver}(ha:a.may=true)(hv:v.may=true):vI a (kB v)=vI a v:=by
 rw [dQ ha (tW hv),dQ ha hv];rfl
theorem ahead_pos {c:Cu}{v:Ver}(hc:c.may=true)(hv:v.may=true):fO c v=decide (q7 c (posC v)<=0):=by
 rw [cmpC_good hc (posC_may hv)]
 unfold fO
 rw [hc,hv]
 show (true && true && _)=decide (lex (Lib.compareInt c.e 0) (lex (vI c.v (kB v)) (Lib.compareInt (b01 c.aft) (b01 false)))<=0)
 rw [cmpR_coreR (may_v hc) hv]
 rcases may_e hc with ⟨h,_⟩|⟨h,h2,h3⟩
 ·rw [if_pos h,h,fW]
  unfold lex
  rw [if_pos rfl]
  rcases pO (v:=c.v) (w:=v) with e|e|e<;>rw [e]<;>cases c.aft<;>decide
 ·rw [if_neg Om]
  rcases h with h|h<;>rw [h]
  ·rw [show Lib.compareInt (-1) 0= -1 from by decide];unfold lex;simp
  ·rw [show Lib.compareInt 1 0=1 from by decide];unfold lex;simp
theorem ahead_on {a b:Cu}{v:Ver}(ha:a.may=true)(hb:b.may=true)(hv:v.may=true)(h:q7 a b<=0)(h2:fO b v=true):fO a v=true:=by
 rw [ahead_pos hb hv,decide_eq_true_eq] at h2
 rw [ahead_pos ha hv,decide_eq_true_eq]
 exact (cut_on ha hb (posC_may hv) h h2).1
def lessC (a b:Cu):Bool:=if a.e=b.e then (if vI a.v b.v= -1 then true else if vI a.v b.v=1 then false else !a.aft && b.aft) else decide (a.e<b.e)
structure Sp where
 lo:Cu
 hi:Cu
def Sp.may (s:Sp):Bool:=decide (q7 s.lo s.hi= -1)
def holdsC (s:Sp)(v:Ver):Bool:=s.may && fO s.lo v && !fO s.hi v
theorem beside {v w:Ver}(hv:v.may=true)(hw:w.may=true):(Sp.mk ⟨0,kB v,false⟩ ⟨0,kB v,true⟩).may=true/\holdsC ⟨⟨0,kB v,false⟩,⟨0,kB v,true⟩⟩ w=decide (vI v w=0):=by
 have m1:(Cu.mk 0 (kB v) false).may=true:=posC_may hv
 have m2:(Cu.mk 0 (kB v) true).may=true:=by unfold Cu.may;rw [if_pos rfl,tW hv];rfl
 have hs:(Sp.mk ⟨0,kB v,false⟩ ⟨0,kB v,true⟩).may=true:=by
  unfold Sp.may
  rw [cmpC_good m1 m2]
  dsimp only
  rw [order_self];rfl
 refine ⟨hs, ?_⟩
 unfold holdsC fO
 rw [hs,m1,m2,hw]
 dsimp only
 rw [if_pos rfl,if_pos rfl,order_core hv hw]
 rcases pO (v:=v) (w:=w) with e|e|e<;>rw [e]<;>rfl
theorem between {a b:Cu}{v:Ver}(ha:a.may=true)(hb:b.may=true)(hv:v.may=true)(h1:fO a v=true)(h2:fO b v=false):q7 a b= -1:=by
 have h3:¬ q7 b a<=0:=λh=>by rw [ahead_on hb ha hv h h1] at h2;cases h2
 have:=cut_anti (a:=a) (b:=b)
 rcases cmpC_range a b with e|e|e<;>omega
def genC (l:List Int)(i:Nat):Cu:=
 if plc (atL l (i+5)) 9<2 then jA (2*plc (atL l (i+5)) 9-1) else ⟨0,kB (genV l i),decide (plc (atL l (i+5)) 2=1)⟩
end
section
theorem ver_dec (u v:Ver):decide (u=v)=(decide (u.maj=v.maj) && (decide (u.min=v.min) && (decide (u.pat=v.pat) && (decide (u.pre=v.pre) && decide (u.build=v.build))))):=by
 obtain ⟨a,b,c,d,e⟩:=u
 obtain ⟨a',b',c',d',e'⟩:=v
 simp only [Ver.mk.injEq,Bool.decide_and]
theorem eq_ver (u v:Ver)(d:Nat)(w:World):(Op.equalIn (d+1+1) 23 (x5 u) (x5 v)).run Tryz.prog w= .ok (decide (u=v)) w:=by
  have h:=eq_agg (P:=Tryz.prog) (d:=d+1) (t:=23) (xs:=(x5 u).cells) (ys:=(x5 v).cells) (bs:=[u.maj==v.maj,u.min==v.min,u.pat==v.pat,(mkS u.pre).toList==(mkS v.pre).toList,(mkS u.build).toList==(mkS v.build).toList]) Tryz.underlying23 Kr
    ⟨by decide,⟨YI u.maj,YI v.maj,λw=>⟨by kernel_rfl,by kernel_rfl,run_equalIn_int w d _ _ _ _ _ Tryz.underlying3⟩⟩,
     by decide,⟨YI u.min,YI v.min,λw=>⟨by kernel_rfl,by kernel_rfl,run_equalIn_int w d _ _ _ _ _ Tryz.underlying3⟩⟩,
     by decide,⟨YI u.pat,YI v.pat,λw=>⟨by kernel_rfl,by kernel_rfl,run_equalIn_int w d _ _ _ _ _ Tryz.underlying3⟩⟩,
     by decide,⟨.string (mkS u.pre),.string (mkS v.pre),λw=>⟨by kernel_rfl,by kernel_rfl,run_equalIn_string w d _ _ _ Tryz.underlying9⟩⟩,
     by decide,⟨.string (mkS u.build),.string (mkS v.build),λw=>⟨by kernel_rfl,by kernel_rfl,run_equalIn_string w d _ _ _ Tryz.underlying9⟩⟩,trivial⟩ w
  rw [all5,wA,wA,fI,fI,fI,←ver_dec] at h
  exact h
abbrev ZJ2 (x y:Cu):Array Value:= #[YI x.e,YI x.v.maj,YI x.v.min,YI x.v.pat,.string (mkS x.v.pre),.string (mkS x.v.build),.bool x.aft,YI y.e,YI y.v.maj,YI y.v.min,YI y.v.pat,.string (mkS y.v.pre),.string (mkS y.v.build),.bool y.aft]
abbrev ZJ (x:Cu):Array Value:= #[YI x.e,YI x.v.maj,YI x.v.min,YI x.v.pat,.string (mkS x.v.pre),.string (mkS x.v.build),.bool x.aft]
def cutV (c:Cu):Value:= .agg #[YI c.e,YI c.v.maj,YI c.v.min,YI c.v.pat,.string (mkS c.v.pre),.string (mkS c.v.build),.bool c.aft]
def spanV (s:Sp):Value:= .agg (ZJ2 s.lo s.hi)
theorem guard_ver:Tryz.prog.eqGuardType Tryz.prog.depth 23=false:=by kernel_rfl
end
section
theorem ret_i64 {a b:Int}(h:a=b):Ending.returned (YI a)= .returned (YI b):=by rw [h]
theorem empty_mk (b:List UInt8):(mkS b).toList.isEmpty=b.isEmpty:=by rw [Lib.toList_data,mk_data]
theorem compareTag_any (a b:List UInt8)(w:World)(ha:a.length<=1000000)(hb:b.length<=1000000):
  YC 204 #[.string (mkS a),.string (mkS b)] w (YR (YI (pG a b)) w):=by
 have la:a.length<=maxLen:=by unfold maxLen;omega
 have lb:b.length<=maxLen:=by unfold maxLen;omega
 have HO:Hid (pG a b=if kH a && kH b then Lib.compareInt (zG a) (zG b) else if kH a && !b.isEmpty then-1 else if kH b && !a.isEmpty then 1 else Lib.compareBytes a b):=rfl
 have ea:=empty_mk a
 have eb:=empty_mk b
 obtain ⟨na,hna⟩:∃ n,zG a=n:=⟨_,rfl⟩
 obtain ⟨nb,hnb⟩:∃ n,zG b=n:=⟨_,rfl⟩
 have cC:=λw'=>Tryz.strings_Compare (mkS a) (mkS b) w'
 rw [mk_data,mk_data] at cC
 obtain ⟨x,hx⟩:∃ n,Lib.compareBytes a b=n:=⟨_,rfl⟩
 have cI:=λw'=>Tryz.cmp_Compare_int na nb w'
 obtain ⟨y,hy⟩:∃ n,Lib.compareInt na nb=n:=⟨_,rfl⟩
 rw [hx] at cC HO
 rw [hna,hnb,hy] at HO
 rw [hy] at cI
 clear hx hy
 cases hi:kH a<;>cases hj:kH b<;>cases ga:a.isEmpty<;>cases gb:b.isEmpty
 all_goals
  rw [hi,hj,ga,gb] at HO
  have cA:=λw'=>wK a _ hi w' la
  have cB:=λw'=>wK b _ hj w' lb
  rw [hna] at cA
  rw [hnb] at cB
  rw [ga] at ea
  rw [gb] at eb
  clear hi hj ga gb
  go_enter Tryz.func204,Tryz.ntmps204
  go_wp2_with fail
  refine (cA _).mono ?_
  rintro e w1 ⟨rfl,hb1⟩
  go_wp2_with fail
  refine (cB _).mono ?_
  rintro e w2 ⟨rfl,hb2⟩
  have hbw:Below w.heap.size w w2:=hb1.trans (hb2.mono hb1.size)
  go_wp2_with (first
   |(go_at_call 147;refine (cI _).mono ?_;rintro e w3 ⟨rfl,rfl⟩)
   |(go_at_call 247;refine (cC _).mono ?_;rintro e w3 ⟨rfl,rfl⟩))
  go_ret
  exact ⟨ret_i64 (by rw [HO.out];simp),hbw⟩
def or3 (x y z:Int):Int:=if x≠0 then x else if y≠0 then y else z
def nthI (x y z:Int)(k:Nat):Int:=if k=0 then x else if k=1 then y else z
end
section
end
section
theorem rnumeric_any (s:ByteArray)(w:World)(hs:s.size<=maxLen):
  YC 169 #[.string s] w λe w'=>e= .returned (.bool (kP s.data.toList))/\w=w':=by
 unfold maxLen at hs
 go_enter Tryz.func169,Tryz.ntmps169
 go_wp2
 go_loop [3] (λi=>∃ k:Nat,k<=s.size/\i=YI k/\Hid (zY (s.data.toList.drop k)=zY s.data.toList)) (λi=>s.size-(intOf i).toNat)
 case atStart=>exact ⟨0,Nat.zero_le _,rfl,rfl⟩
 case round=>
  obtain ⟨k,hk,rfl,HR⟩:=hrel
  by_cases hp:k<s.size
  ·have HD:=Lib.hid (kZ s k hp)
   by_cases h1:((s[k]'hp).toNat:Int)<48
   ·go_wp2
    go_ret
    exact ⟨zI (by unfold kP;rw [←HR.out,HD.out,vA _ _ (by unfold yP;simp;omega),Bool.and_false]),rfl⟩
   ·by_cases h2:(57:Int)<(s[k]'hp).toNat
    ·go_wp2
     go_ret
     exact ⟨zI (by unfold kP;rw [←HR.out,HD.out,vA _ _ (by unfold yP;simp;omega),Bool.and_false]),rfl⟩
    ·go_wp2
     go_round
     case rel=>exact ⟨k+1,by omega,by go_num,by rw [←HR.out,HD.out,mL _ _ (by unfold yP;simp;omega)];rfl⟩
     case measure=>simp [intOf];omega
  ·have HD:=Lib.hid (vS s k hp)
   have hl:s.data.toList.length=s.size:=qJ s
   by_cases h0:s.size=0
   ·have he:s.data.toList=[]:=List.eq_nil_of_length_eq_zero Om
    have h0i:¬ (0:Int)<s.size:=by omega
    have HE:=Lib.hid he
    clear he h0 hl
    go_wp2
    go_ret
    exact ⟨zI (by unfold kP;rw [HE.out];simp;exact ByteArray.ext (Array.toList_inj.1 HE.out)),rfl⟩
   ·have he:s.data.toList.isEmpty=false:=by
     cases h:s.data.toList with
     |nil=>rw [h] at hl;simp at hl;omega
     |cons _ _=>rfl
    have h0i:(0:Int)<s.size:=by omega
    have HE:=Lib.hid he
    clear he h0 hl
    go_wp2
    go_ret
    exact ⟨zI (by unfold kP;rw [HE.out,←HR.out,HD.out];simp [zY];omega),rfl⟩
theorem rtag_any (s:ByteArray)(w:World)(hs:s.size<=maxLen):
  YC 167 #[.string s] w λe w'=>e= .returned (.bool (xR s.data.toList))/\w=w':=by
 unfold maxLen at hs
 have hl:s.data.toList.length=s.size:=qJ s
 by_cases h1:s.size<1
 ·have HT:Hid (xR s.data.toList=false):=tagOk_short (List.eq_nil_of_length_eq_zero Om)
  clear hl
  go_enter Tryz.func167,Tryz.ntmps167
  go_wp2
  go_ret
  exact ⟨zI HT.out.symm,rfl⟩
 ·by_cases h8:8<s.size
  ·have HT:Hid (xR s.data.toList=false):=p6 Om
   clear hl
   go_enter Tryz.func167,Tryz.ntmps167
   go_wp2
   go_ret
   exact ⟨zI HT.out.symm,rfl⟩
  ·have HT:Hid (xR s.data.toList=s.data.toList.all bU):=tagOk_mid (by intro e;rw [e] at hl;simp at hl;omega) Om
   clear hl
   go_enter Tryz.func167,Tryz.ntmps167
   go_wp2
   go_loop [3] (λi=>∃ k:Nat,k<=s.size/\i=YI k/\Hid ((s.data.toList.drop k).all bU=s.data.toList.all bU)) (λi=>s.size-(intOf i).toNat)
   case atStart=>exact ⟨0,Nat.zero_le _,rfl,rfl⟩
   case round=>
    obtain ⟨k,hk,rfl,HR⟩:=hrel
    by_cases hp:k<s.size
    ·have HD:=Lib.hid (kZ s k hp)
     by_cases hL:(97:Int)<=(s[k]'hp).toNat/\((s[k]'hp).toNat:Int)<=122
     ·obtain ⟨hla,hlb⟩:=hL
      go_wp2
      go_round
      case rel=>exact ⟨k+1,by omega,by go_num,by rw [←HR.out,HD.out,all_ok _ _ (tagC_let _ (by unfold wW;simp;omega))];rfl⟩
      case measure=>simp [intOf];omega
     ·have hL2:((s[k]'hp).toNat:Int)<97\/(122:Int)<(s[k]'hp).toNat:=by omega
      by_cases hG:(48:Int)<=(s[k]'hp).toNat/\((s[k]'hp).toNat:Int)<=57
      ·obtain ⟨hga,hgb⟩:=hG
       have hL3:((s[k]'hp).toNat:Int)<97:=by omega
       clear hL hL2
       go_wp2
       go_round
       case rel=>exact ⟨k+1,by omega,by go_num,by rw [←HR.out,HD.out,all_ok _ _ (tagC_dig _ (by unfold yP;simp;omega))];rfl⟩
       case measure=>simp [intOf];omega
      ·have hG2:((s[k]'hp).toNat:Int)<48\/(57:Int)<(s[k]'hp).toNat:=by omega
       by_cases h3:((s[k]'hp).toNat:Int)=45
       ·have h3b:(((s[k]'hp).toNat:Int) !=45)=false:=by simp [h3]
        have hL3:((s[k]'hp).toNat:Int)<97:=by omega
        have hG3:((s[k]'hp).toNat:Int)<48:=by omega
        have H3:=Lib.hid h3
        clear h3 hL hL2 hG hG2
        go_wp2
        go_round
        case rel=>exact ⟨k+1,by omega,by go_num,by rw [←HR.out,HD.out,all_ok _ _ (tagC_dash _ H3.out)];rfl⟩
        case measure=>simp [intOf];omega
       ·have h3b:(((s[k]'hp).toNat:Int) !=45)=true:=by simpa using h3
        have HB:Hid (s.data.toList.all bU=false):=by
         show _=_
         rw [←HR.out,HD.out,all_bad _ _ (tagC_bad _ (by unfold yP;simp;omega) (by unfold wW;simp;omega) h3)]
        clear hL hG h3
        rcases hL2 with hL2|hL2<;>rcases hG2 with hG2|hG2
        ·go_wp2
         go_ret
         exact ⟨zI (by rw [HT.out,HB.out]),rfl⟩
        ·have h9:(48:Int)<=(s[k]'hp).toNat:=by omega
         go_wp2
         go_ret
         exact ⟨zI (by rw [HT.out,HB.out]),rfl⟩
        ·exfalso;omega
        ·have h9:(97:Int)<=(s[k]'hp).toNat:=by omega
         have h7:(48:Int)<=(s[k]'hp).toNat:=by omega
         go_wp2
         go_ret
         exact ⟨zI (by rw [HT.out,HB.out]),rfl⟩
    ·have HD:=Lib.hid (vS s k hp)
     go_wp2
     go_ret
     exact ⟨zI (by rw [HT.out,←HR.out,HD.out];rfl),rfl⟩
theorem rnum_any (n:Int)(w:World):
  YC 110 #[YI n] w λe w'=>e= .returned (.bool (zL n))/\w=w':=by
 unfold zL
 go_enter Tryz.func110,Tryz.ntmps110
 go_wp2
 all_goals go_ret
 all_goals exact ⟨zI (by simp;try omega),rfl⟩
theorem rnumber_mk (t:List UInt8)(w:World)(ht:t.length<=maxLen):
  YC 168 #[.string (mkS t)] w λe w'=>e= .returned (.tuple #[YI (zG t),.bool (kH t)])/\w=w':=by
 have:=rnumber_any (mkS t) w (by rw [y0];exact ht)
 rw [numV_mk,numOk_mk] at this
 exact this
theorem rnumeric_mk (t:List UInt8)(w:World)(ht:t.length<=maxLen):
  YC 169 #[.string (mkS t)] w λe w'=>e= .returned (.bool (kP t))/\w=w':=by
 have:=rnumeric_any (mkS t) w (by rw [y0];exact ht)
 rw [mk_data] at this
 exact this
theorem rtag_mk (t:List UInt8)(w:World)(ht:t.length<=maxLen):
  YC 167 #[.string (mkS t)] w λe w'=>e= .returned (.bool (xR t))/\w=w':=by
 have:=rtag_any (mkS t) w (by rw [y0];exact ht)
 rw [mk_data] at this
 exact this
theorem rsplit_mk (s:List UInt8)(w:World)(hs:s.length<=1000000):
  YC 127 #[.string (mkS s),.int .u8 46] w λe w'=>∃ v,e= .returned v/\w'.ownsRow w.heap.size 9 1 v (pcs s).length (vD (pcs s))/\Below w.heap.size w w':=by
 have:=rsplit_any (mkS s) 46 w (by rw [y0];exact hs)
 unfold qG at this
 rw [mk_data] at this
 exact this
theorem pcs_mem_len (s:List UInt8):∀ x∈pcs s,x.length<=s.length:=by
 intro x hx
 have:=split_le 46 s [] x hx
 simpa using this
def nO (s:List UInt8)(b:Bool):Bool:=s.isEmpty||(decide ((pcs s).length<=4) && (pcs s).all λt=>xR t && !(b && kP t && !kH t))
theorem all_both {α:Type}(p q r:α->Bool)(h:∀ x,r x=(p x && q x))(l:List α):l.all r=(l.all p && l.all q):=by
 induction l with
 |nil=>rfl
 |cons a l ih=>
  rw [List.all_cons,List.all_cons,List.all_cons,ih,h]
  cases p a<;>cases q a<;>simp
theorem tagsB_pre (s:List UInt8):nO s true=wQ s:=by
 unfold nO wQ qI pC
 cases s.isEmpty
 ·simp only [Bool.false_or,Bool.true_and,Bool.and_assoc]
  congr 1
  refine all_both _ _ _ (λt=> ?_) _
  cases xR t<;>cases kP t<;>cases kH t<;>rfl
 ·rfl
theorem tagsB_build (s:List UInt8):nO s false=qI s:=by
 unfold nO qI
 simp
def tagF (b:Bool)(t:List UInt8):Bool:=xR t && !(b && kP t && !kH t)
theorem tagsB_eq (s:List UInt8)(b:Bool):nO s b=(s.isEmpty||(decide ((pcs s).length<=4) && (pcs s).all (tagF b))):=rfl
theorem all_cut {l:List (List UInt8)}{p:List UInt8->Bool}(k:Nat)(h:k<l.length)(hb:p l[k]=false):l.all p=false:=by
 rw [Bool.eq_false_iff];intro e
 have:=List.all_eq_true.1 e l[k] (List.getElem_mem h)
 rw [this] at hb;cases hb
theorem all_done {l:List (List UInt8)}{p:List UInt8->Bool}(h:∀ j (hj:j<l.length),p l[j]=true):l.all p=true:=by
 rw [List.all_eq_true]
 intro x hx
 obtain ⟨j,hj,rfl⟩:=List.getElem_of_mem hx
 exact h j hj
theorem rtags_any (s:List UInt8)(b:Bool)(w:World)(hs:s.length<=1000000):
  YC 111 #[.string (mkS s),.bool b] w (YR (.bool (nO s b)) w):=by
 have es:=(show (mkS s).toList.isEmpty=s.isEmpty by rw [Lib.toList_data,mk_data])
 have HT:=Lib.hid (tagsB_eq s b)
 cases he:s.isEmpty with
 |true=>
  rw [he] at es HT
  clear he
  go_enter Tryz.func111,Tryz.ntmps111
  go_wp2
  go_ret
  exact ⟨zI (by rw [HT.out];rfl),Below.refl _ _⟩
 |false=>
  rw [he] at es HT
  clear he
  have HM:=Lib.hid (pcs_mem_len s)
  have cS:=λw'=>rsplit_mk s w' hs
  have hne:0<(pcs s).length:=by
   have:=mR 46 s []
   cases h:pcs s with
   |nil=>exact absurd h this
   |cons _ _=>simp
  obtain ⟨l,hl⟩:∃ l,pcs s=l:=⟨_,rfl⟩
  rw [hl] at cS HM hne HT
  clear hl
  go_enter Tryz.func111,Tryz.ntmps111
  go_wp2_with fail
  refine (cS _).mono ?_
  rintro e w1 ⟨v,rfl,hown,hb1⟩
  obtain ⟨A,cap,rfl,hcell⟩:=ReadsT.of_own hown
  obtain ⟨ad,rfl,hlt,hc⟩:=hcell hne
  have HC:=Lib.hid hc
  clear hc hcell hown cS
  by_cases h4:4<l.length
  ·have h4i:(4:Int)<l.length:=by omega
   go_wp2
   go_ret
   exact ⟨zI (by rw [HT.out,decide_eq_false Om];rfl),hb1⟩
  ·have h4i:¬ (4:Int)<l.length:=by omega
   go_wp2
   go_loop [6] (λx=>∃ k:Nat,k<=l.length/\x=YI k/\Hid (∀ j (hj:j<l.length),j<k->tagF b l[j]=true)) (λx=>l.length-(intOf x).toNat)
   case atStart=>exact ⟨0,by omega,rfl,λj hj h=>by omega⟩
   case round=>
    obtain ⟨k,hk,rfl,HR⟩:=hrel
    by_cases hp:k<l.length
    ·have hki:(k:Int)<l.length:=by omega
     have hck:=HC.out k hp
     have ht:l[k].length<=maxLen:=by have:=HM.out l[k] (List.getElem_mem hp);unfold maxLen;omega
     have cT:=λw'=>rtag_mk l[k] w' ht
     have cN:=λw'=>rnumber_mk l[k] w' ht
     have cD:=λw'=>rnumeric_mk l[k] w' ht
     have HF:Hid (tagF b l[k]=(xR l[k] && !(b && kP l[k] && !kH l[k]))):=rfl
     obtain ⟨g1,e1⟩:∃ g,xR l[k]=g:=⟨_,rfl⟩
     obtain ⟨g2,e2⟩:∃ g,kP l[k]=g:=⟨_,rfl⟩
     obtain ⟨g3,e3⟩:∃ g,kH l[k]=g:=⟨_,rfl⟩
     rw [e1] at cT HF
     rw [e2] at cD HF
     rw [e3] at cN HF
     clear e1 e2 e3
     cases hf:(g1 && !(b && g2 && !g3)) with
     |true=>
      have HFT:Hid (tagF b l[k]=true):=by show _=_;rw [HF.out,hf]
      clear HF
      cases g1<;>cases b<;>cases g2<;>cases g3<;>simp at hf
      all_goals
       go_wp2_with (first
        |(go_at_call 167;refine (cT _).mono ?_;rintro e w2 ⟨rfl,rfl⟩)
        |(go_at_call 168;refine (cN _).mono ?_;rintro e w3 ⟨rfl,rfl⟩)
        |(go_at_call 169;refine (cD _).mono ?_;rintro e w4 ⟨rfl,rfl⟩))
       go_round
       case rel=>exact ⟨k+1,by omega,by go_num,λj hj h=>by
        by_cases hjk:j<k
        ·exact HR.out j hj hjk
        ·obtain rfl:j=k:=by omega
         exact HFT.out⟩
       case measure=>simp [intOf];omega
     |false=>
      have HFT:Hid (tagF b l[k]=false):=by show _=_;rw [HF.out,hf]
      clear HF
      cases g1<;>cases b<;>cases g2<;>cases g3<;>simp at hf
      all_goals
       go_wp2_with (first
        |(go_at_call 167;refine (cT _).mono ?_;rintro e w2 ⟨rfl,rfl⟩)
        |(go_at_call 168;refine (cN _).mono ?_;rintro e w3 ⟨rfl,rfl⟩)
        |(go_at_call 169;refine (cD _).mono ?_;rintro e w4 ⟨rfl,rfl⟩))
       go_ret
       exact ⟨zI (by rw [HT.out,all_cut k hp HFT.out];simp),hb1⟩
    ·have hki:¬ (k:Int)<l.length:=by omega
     have hall:=all_done (l:=l) (p:=tagF b) (λj hj=>HR.out j hj Om)
     have HA:=Lib.hid hall
     clear hall
     go_wp2
     go_ret
     exact ⟨zI (by rw [HT.out,HA.out,decide_eq_true Om];rfl),hb1⟩
theorem rmay_any (v:Ver)(w:World)(hp:v.pre.length<=1000000)(hq:v.build.length<=1000000):
  YC 60 #[x5 v] w (YR (.bool v.may) w):=by
 have HM:Hid (v.may=(zL v.maj && zL v.min && zL v.pat && nO v.pre true && nO v.build false)):=by
  show _=_
  rw [tagsB_pre,tagsB_build];rfl
 have cP:=λw'=>rtags_any v.pre true w' hp
 have cQ:=λw'=>rtags_any v.build false w' hq
 have c1:=λw'=>rnum_any v.maj w'
 have c2:=λw'=>rnum_any v.min w'
 have c3:=λw'=>rnum_any v.pat w'
 obtain ⟨m,hm⟩:∃ m,v.may=m:=⟨_,rfl⟩
 rw [hm] at HM ⊢
 obtain ⟨g1,e1⟩:∃ g,zL v.maj=g:=⟨_,rfl⟩
 obtain ⟨g2,e2⟩:∃ g,zL v.min=g:=⟨_,rfl⟩
 obtain ⟨g3,e3⟩:∃ g,zL v.pat=g:=⟨_,rfl⟩
 obtain ⟨g4,e4⟩:∃ g,nO v.pre true=g:=⟨_,rfl⟩
 obtain ⟨g5,e5⟩:∃ g,nO v.build false=g:=⟨_,rfl⟩
 rw [e1,e2,e3,e4,e5] at HM
 rw [e1] at c1
 rw [e2] at c2
 rw [e3] at c3
 rw [e4] at cP
 rw [e5] at cQ
 clear e1 e2 e3 e4 e5 hm
 obtain ⟨a,b,c,p,q⟩:=v
 unfold x5
 dsimp only at c1 c2 c3 cP cQ ⊢
 have hcases:g1=false\/(g1=true/\g2=false)\/(g1=true/\g2=true/\g3=false)\/(g1=true/\g2=true/\g3=true/\g4=false)\/(g1=true/\g2=true/\g3=true/\g4=true):=by
  cases g1<;>cases g2<;>cases g3<;>cases g4<;>simp
 rcases hcases with rfl|⟨rfl,rfl⟩|⟨rfl,rfl,rfl⟩|⟨rfl,rfl,rfl,rfl⟩|⟨rfl,rfl,rfl,rfl⟩
 ·go_enter Tryz.func60,Tryz.ntmps60
  go_wp2_with fail
  refine (c1 _).mono ?_
  rintro e w1 ⟨rfl,rfl⟩
  go_wp2
  go_ret
  exact ⟨zI (by rw [HM.out];rfl),(Below.refl _ _).alloc (Nat.le_refl _) _⟩
 ·go_enter Tryz.func60,Tryz.ntmps60
  go_wp2_with fail
  refine (c1 _).mono ?_
  rintro e w1 ⟨rfl,rfl⟩
  go_wp2_with fail
  refine (c2 _).mono ?_
  rintro e w1 ⟨rfl,rfl⟩
  go_wp2
  go_ret
  exact ⟨zI (by rw [HM.out];rfl),(Below.refl _ _).alloc (Nat.le_refl _) _⟩
 ·go_enter Tryz.func60,Tryz.ntmps60
  go_wp2_with fail
  refine (c1 _).mono ?_
  rintro e w1 ⟨rfl,rfl⟩
  go_wp2_with fail
  refine (c2 _).mono ?_
  rintro e w1 ⟨rfl,rfl⟩
  go_wp2_with fail
  refine (c3 _).mono ?_
  rintro e w1 ⟨rfl,rfl⟩
  go_wp2
  go_ret
  exact ⟨zI (by rw [HM.out];rfl),(Below.refl _ _).alloc (Nat.le_refl _) _⟩
 ·go_enter Tryz.func60,Tryz.ntmps60
  go_wp2_with fail
  refine (c1 _).mono ?_
  rintro e w1 ⟨rfl,rfl⟩
  go_wp2_with fail
  refine (c2 _).mono ?_
  rintro e w1 ⟨rfl,rfl⟩
  go_wp2_with fail
  refine (c3 _).mono ?_
  rintro e w1 ⟨rfl,rfl⟩
  go_wp2_with fail
  refine (cP _).mono ?_
  rintro e w1 ⟨rfl,hb1⟩
  go_wp2
  go_ret
  exact ⟨zI (by rw [HM.out];rfl),((Below.refl _ _).alloc (Nat.le_refl _) _).trans (hb1.mono (by simp))⟩
 ·go_enter Tryz.func60,Tryz.ntmps60
  go_wp2_with fail
  refine (c1 _).mono ?_
  rintro e w1 ⟨rfl,rfl⟩
  go_wp2_with fail
  refine (c2 _).mono ?_
  rintro e w1 ⟨rfl,rfl⟩
  go_wp2_with fail
  refine (c3 _).mono ?_
  rintro e w1 ⟨rfl,rfl⟩
  go_wp2_with fail
  refine (cP _).mono ?_
  rintro e w1 ⟨rfl,hb1⟩
  obtain ⟨k4,m4⟩:=box_cells hb1 4 (by simp)
  simp only [List.getElem_toArray,List.getElem_cons_succ,List.getElem_cons_zero] at k4
  have hbw:Below w.heap.size w w1:=((Below.refl _ _).alloc (Nat.le_refl _) _).trans (hb1.mono (by simp))
  go_wp2_with fail
  refine (cQ _).mono ?_
  rintro e w2 ⟨rfl,hb2⟩
  go_wp2
  go_ret
  exact ⟨zI (by rw [HM.out];rfl),hbw.trans (hb2.mono hbw.size)⟩
end
section
end
section
def Cu.short (c:Cu):Prop:=c.v.pre.length<=1000000/\c.v.build.length<=1000000
def Ver.short (v:Ver):Prop:=v.pre.length<=1000000/\v.build.length<=1000000
def Sp.short (s:Sp):Prop:=s.lo.short/\s.hi.short
end
section
def m8:List Sp->Bool
 | []=>true
 | [s]=>s.may
 |s::t::r=>s.may && decide (q7 s.hi t.lo<0) && m8 (t::r)
def inSp (s:Sp)(c:Cu):Bool:=decide (q7 s.lo c<=0) && decide (q7 c s.hi<0)
def den (l:List Sp)(c:Cu):Bool:=l.any (inSp · c)
def rowHas (l:List Sp)(v:Ver):Bool:=m8 l && l.any (holdsC · v)
def growL (l:List Sp)(c d:Cu):List Sp:=
 match l.getLast? with
 |some s=>if q7 s.hi c=0 then l.dropLast++[⟨s.lo,d⟩] else l++[⟨c,d⟩]
 |none=>[⟨c,d⟩]
def buildL (p:Cu->Cu->Bool):List Sp->List Cu->List Sp
 |out,c::d::r=>buildL p (if p c d then growL out c d else out) (d::r)
 |out,_=>out
def pick (p:Cu->Cu->Bool)(x:Cu):List Cu->Bool
 |c::d::r=>(p c d && inSp ⟨c,d⟩ x)||pick p x (d::r)
 |_=>false
def Rise:List Cu->Prop
 |c::d::r=>c.may=true/\q7 c d<0/\Rise (d::r)
 | [c]=>c.may=true
 | []=>True
def putL (c:Cu):List Cu->List Cu
 | []=>[c]
 |d::r=>if q7 d c<0 then d::putL c r else if q7 d c=0 then d::r else c::d::r
def cutsL (l:List Sp):List Cu:=l.foldl (λout s=>putL s.hi (putL s.lo out)) [jA (-1),jA 1]
def AllMay (l:List Cu):Prop:=∀ x∈l,x.may=true
structure Ends (l:List Cu):Prop where
 rise:Rise l
 head:l.head?=some (jA (-1))
 last:l.getLast?=some (jA 1)
def inL (l:List Sp)(c d:Cu):Bool:=l.any λs=>decide (q7 s.lo c<=0) && decide (q7 d s.hi<=0)
def makeL (l:List Sp):List Sp:=buildL (inL l) [] (cutsL l)
def orL (a b:List Sp):List Sp:=makeL (a++b)
def andL (a b:List Sp):List Sp:=buildL (λc d=>inL a c d && inL b c d) [] (cutsL (a++b))
def notL (a:List Sp):List Sp:=buildL (λc d=> !inL a c d) [] (cutsL a)
end
section
def spanC (s:Sp):List Value:=(spanV s).cells.toList
def ShortL (l:List Sp):Prop:=∀ s∈l,s.short
end
section
deriving instance DecidableEq for Sp
end
section
end
section
end
section
def cutC (s:Cu):List Value:=(cutV s).cells.toList
def ShortC (l:List Cu):Prop:=∀ s∈l,s.short
end
section
end
section
section
variable {M:List Nat}{P:Program}{n:Nat}{ops:Array Oper}{W:World}{Q:Exit->Act->World->Prop}{L0 L:List Blk}{f:Nat->Value}{fuel:Nat}{listed:Array Bool}{rest:List Oper}{o:Oper}
end
end
section
def allMay (l:List Sp):Bool:=l.all (·.may)
end
section
end
section
end
section
def minC (a b:Cu):Cu:=if 0<q7 a b then b else a
def maxC (a b:Cu):Cu:=if 0<q7 a b then a else b
def addL (l:List Sp)(c d:Cu):List Sp:=if (Sp.mk c d).may then l++[⟨c,d⟩] else l
def nstep (p:List Sp×Cu)(s:Sp):List Sp×Cu:=(addL p.1 p.2 s.lo,s.hi)
def notG (l:List Sp):List Sp:=addL (l.foldl nstep ([],jA (-1))).1 (l.foldl nstep ([],jA (-1))).2 (jA 1)
def andG:Nat->List Sp->List Sp->List Sp->List Sp
 |n+1,out,s::a,u::b=>if s.hi=minC s.hi u.hi then andG n (addL out (maxC s.lo u.lo) (minC s.hi u.hi)) a (u::b) else andG n (addL out (maxC s.lo u.lo) (minC s.hi u.hi)) (s::a) b
 |_,out,_,_=>out
def mstep (out:List Sp)(s:Sp):List Sp:=
 match out.getLast? with
 |none=>[s]
 |some t=>if q7 t.hi s.lo<0 then out++[s] else out.dropLast++[⟨t.lo,maxC t.hi s.hi⟩]
def SortedC:List Sp->Prop
 | []=>True
 |s::r=>(∀ t∈r,q7 s.lo t.lo<=0)/\SortedC r
end
section
theorem cutAt_len (c:UInt8):∀ s:List UInt8,s.length=(z7 c s).1.length+(if (z7 c s).2.2 then 1+(z7 c s).2.1.length else 0)
 | []=>rfl
 |b::r=>by
  unfold z7
  have ih:=cutAt_len c r
  by_cases h:b=c
  ·first|(simp [h];done)|(subst h;simp;omega)|(simp [h];omega)
  ·first|(simp [h] at ih ⊢;omega)|(simp [h,Ne.symm h] at ih ⊢;omega)
theorem cutGo_short:∀ (n:Nat) (s:List UInt8),(kA n s).2=true->s.length<=9*n
 |0,s,h=>by simp [kA] at h
 |n+1,s,h=>by
  have hl:=cutAt_len 46 s
  cases ht:xR (z7 46 s).1 with
  |false=>rw [cutGo_bad n s ht] at h;cases h
  |true=>
   have h8:(z7 46 s).1.length<=8:=Nat.le_of_not_lt λh2=>by rw [p6 h2] at ht;cases ht
   cases hm:(z7 46 s).2.2 with
   |false=>rw [hm] at hl;simp at hl;omega
   |true=>
    rw [cutGo_on n s ht hm] at h
    have ih:=cutGo_short n _ h
    rw [hm] at hl;simp at hl;omega
theorem preOk_short {s:List UInt8}(h:wQ s=true):s.length<=36:=by
 rw [preOk_lst,Bool.and_eq_true] at h
 have h1:=h.1
 unfold lst at h1
 split at h1
 ·rename_i h0
  have:s=[]:=by simpa using h0
  subst this;exact Nat.zero_le _
 ·have:=cutGo_short _ _ h1;omega
theorem may_short {v:Ver}(h:v.may=true)(hb:v.build=[]):v.short:=⟨by have:=preOk_short (may_pre h);omega,by rw [hb];exact Nat.zero_le _⟩
structure RF (l:List Sp)(n:Nat):Prop where
 may:m8 l=true
 len:l.length<=n
section
variable {a b c:List Sp}(ha:m8 a=true)(hb:m8 b=true)(hc:m8 c=true)
include ha in
end
end
section
def idxP (v:Ver):List Sp->Int->Int
 | [],_=> -1
 |s::r,k=>if holdsC s v then k else idxP v r (k+1)
end
section
end
end Go.Proofs.YteghandhpbmpgaaGreatDoor
