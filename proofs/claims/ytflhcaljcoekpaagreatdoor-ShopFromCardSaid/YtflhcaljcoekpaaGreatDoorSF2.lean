import Derived.Lib.AppendStr
import Derived.Shelf.Strings.Builder1
import Derived.Shelf.Strings.Builder2
import Derived.Shelf.Strings.OnBuilder
import Derived.Shelf.Strings.Trim
import Derived.Shelf.Small.Utf8
import Derived.Shelf.Small.Bits
import Derived.Shelf.Small.Strs
import Derived.Shelf.Small.Wraps
import Derived.Shelf.Strings.BuilderF
import Derived.Shelf.Strings.BuilderK
import Derived.Shelf.Strings.Builder2Cap
import Derived.Shelf.Strconv.Itoa0
import Derived.Shelf.Strconv.Itoa1
import Derived.Shelf.LaysM
import Derived.Shelf.Strconv.Itoa2
import Derived.Shelf.Strconv.Itoa3
import Derived.Shelf.Strconv.Clone
import Derived.Shelf.Strings.Search1
import Derived.Shelf.Strings.Search2
import Derived.Shelf.Strings.Search3
import Derived.Shelf.Strings.Cut
import Derived.Shelf.Strings.Count
import Derived.Shelf.Strings.Shaped
import Derived.Shelf.Strings.Prefix
import Derived.Shelf.Strings.Split
import Derived.Shelf.Strings.SplitShaped
import Derived.Shelf.Unicode.Decode
import Derived.Shelf.Strings.Runes
import Derived.Shelf.Strings.RuneCount
import Derived.Shelf.Strings.AsciiSet
import Derived.Shelf.Strings.Explode
import Derived.Shelf.Unicode.DecodeSlow
import Derived.Shelf.Strings.BuilderCap
import Derived.Ground.SlgfProg
import Derived.Shelf.SlicesQ.IndexFunc
import Derived.Ground.SlsfProg
import Derived.Shelf.SlSortCmp.Insertion
import Derived.Shelf.SlSortCmp.Insertion1
import Derived.Test.YtflhcaljcoekpaaGreatDoorProg
import Derived.Shelf.RegionOpenPlain
import Derived.IntWalk
import Derived.Lib.Strings
import Derived.Laws.Rows
import Derived.Outline
import Derived.Deep.LoopGhost
import Derived.Lib.OthersKept
import Derived.Lib.Slices
import Derived.Lib.Walk
import Derived.Lib.Builder
import Derived.Lib.UnsafeStr
import Derived.WalkKit
import Derived.Laws.Externs
import Derived.Lib.AppendIntMem
import Derived.Lib.ItoaLen
import Derived.Lib.Small
import Derived.WalkLawsBesides
import Derived.Lib.Hide
import Derived.Test.YtflhcaljcoekpaaGreatDoorSF1
set_option maxRecDepth 1000000
set_option maxHeartbeats 8000000
set_option linter.unusedVariables false
set_option linter.unusedSimpArgs false
set_option linter.unnecessarySimpa false
namespace Go.Proofs.YtflhcaljcoekpaaGreatDoor
open Go.RowKit

section
def oT (o:Oper):TypeId:=match o.op with
 | .index t _ _=>t
 | .indexAddr t _ _=>t
 | .binOp _ t _ _ _=>t
 | .load t _=>t
 |_=>0
def oU (o:Oper):TypeId:=match o.op with
 | .binOp _ _ _ _ t=>t
 |_=>0
def oX (o:Oper):Operand:=match o.op with
 | .index _ x _=>x
 | .indexAddr _ x _=>x
 | .binOp _ _ x _ _=>x
 | .load _ x=>x
 |_=> .tmp 0
def oY (o:Oper):Operand:=match o.op with
 | .index _ _ y=>y
 | .indexAddr _ _ y=>y
 | .binOp _ _ _ y _=>y
 |_=> .tmp 0
def xAg:Value->Array Value
 | .agg vs=>vs
 |_=> #[]
def xEl (P:Program)(t:TypeId):TypeId:=match P.underlying t with
 |some (.array _ e)=>e
 |some (.slice e)=>e
 |_=>0
def xW (n:Nat)(c:Xc):Bool:=match c.top with
 | .ops a (o::_)=>zT a n c.f o
 | .qps a (o::_)=>zT a n c.f o
 |_=>false
section
variable {M:List Nat}{P:Program}{n:Nat}{W:World}{Q:Exit->Act->World->Prop}{c:Xc}
theorem vU (t:Nat)(h:List Nat)(v0 v:Value)(e:v0=v)(hg:zB M P n W Q ((xgo P n t h c).st t v))(hkt:(xgl P n t h c,(xgo P n t h c).f t)=(xgr P n t h c,v0):=by kernel_rfl):zB M P n W Q c:=by
 obtain ⟨hk,hv⟩:=Prod.mk.inj hkt
 exact d8 t h v (hv.trans e) hg hk
theorem x_i (t:Nat)(h:List Nat)(z:Int)(hg:zB M P n W Q ((xgo P n t h c).st t (YI z)))(hz: -9223372036854775808<=z/\z<=9223372036854775807:=by omega)
  (hkt:(xgl P n t h c,(xgo P n t h c).f t)=(xgr P n t h c,YI (IntKind.i64.wrap z)):=by kernel_rfl):zB M P n W Q c:=by
 obtain ⟨hk,hv⟩:=Prod.mk.inj hkt
 exact x_sum t h z (IntWalk.i64_in _ hz) hg hkt
theorem Own.nth {L:List Blk}{w:World}(i:Nat)(x:Blk)(hO:Own M W w L)(h:L[i]?=some x:=by kernel_rfl):Own M W w [x]:=hO.take (λy hy=>by rw [List.mem_singleton.1 hy];exact List.mem_of_getElem? h) (by simp)
theorem Own.past {L:List Blk}{w:World}(i:Nat)(L':List Blk)(hO:Own M W w L)(h:L.drop i=L':=by kernel_rfl):Own M W w L':=by
 rw [←h]
 exact Own.sub (L.take i) (by rw [List.take_append_drop];exact hO)
theorem Own.cast {L L':List Blk}{w:World}(hO:Own M W w L)(e:L=L'):Own M W w L':=e▸hO
theorem Own.no {L:List Blk}{w:World}(hO:Own M W w L):Own M W w []:=hO.take (λy hy=>by simp at hy) (by simp)
theorem x9 {v:Value}(hw:xW n c=true)(hr:∀ w,(execOp (ev n c.f) (xO c)).run P w= .ok (.value v) w)(hg:zB M P n W Q (c.put v)):zB M P n W Q c:=by
 obtain ⟨top,kk,L,f⟩:=c
 unfold xW at hw
 unfold Xc.put at hg
 cases top with
 |ops a r=>cases r with
  |nil=>cases hw
  |cons o r=>exact ⟨λhq=>kS v hw hr (hg.go hq)⟩
 |qps a r=>cases r with
  |nil=>cases hw
  |cons o r=>exact ⟨λhq=>nW v hw hr (hg.go hq)⟩
 |_=>cases hw
theorem wS (d:Nat)(h:List Nat)(v:Value)(hr:∀ w,(execOp (ev n (xgo P n (d+50000) h c).f) (xO (xgo P n (d+50000) h c))).run P w= .ok (.value v) w)(hg:zB M P n W Q ((xgo P n (d+50000) h c).put v))
  (hkt:(xgl P n (d+50000) h c,xW n (xgo P n (d+50000) h c))=(xgr P n (d+50000) h c,true):=by kernel_rfl):zB M P n W Q c:=by
 obtain ⟨hk,hw⟩:=Prod.mk.inj hkt
 exact zM h c hk (x9 hw hr hg)
theorem x_idx (d:Nat)(h:List Nat)(g:Nat->YL)(k N:Nat)(hN:k<N)(hg:zB M P n W Q ((xgo P n (d+50000) h c).put (.string (mkS (g k)))))
  (hk:xgl P n (d+50000) h c=xgr P n (d+50000) h c:=by kernel_rfl)
  (hp:((List.range N).map λi=>λw=>(part (xEl P (oT (xO (xgo P n (d+50000) h c)))) (xAg (ev n (xgo P n (d+50000) h c).f (oX (xO (xgo P n (d+50000) h c))))) i).run P w)=(List.range N).map λi=>(λw=> .ok (.string (mkS (g i))) w):=by kernel_rfl)
  (ht:(xW n (xgo P n (d+50000) h c),(xO (xgo P n (d+50000) h c)).op,ev n (xgo P n (d+50000) h c).f (oX (xO (xgo P n (d+50000) h c))),ev n (xgo P n (d+50000) h c).f (oY (xO (xgo P n (d+50000) h c))),P.underlying (oT (xO (xgo P n (d+50000) h c))),(P.info? (xEl P (oT (xO (xgo P n (d+50000) h c))))).map (·.size))
   =(true,.index (oT (xO (xgo P n (d+50000) h c))) (oX (xO (xgo P n (d+50000) h c))) (oY (xO (xgo P n (d+50000) h c))),.agg (xAg (ev n (xgo P n (d+50000) h c).f (oX (xO (xgo P n (d+50000) h c))))),YI (k:Int),some (.array N (xEl P (oT (xO (xgo P n (d+50000) h c))))),some 1):=by kernel_rfl):zB M P n W Q c:=by
 simp only [Prod.mk.injEq] at ht
 obtain ⟨e1,e2,e3,e4,e5,e6⟩:=ht
 refine zM h c hk (x9 e1 (wY g hN e2 e3 e4 e5 (λi hi w=> ?_) e6) hg)
 have:=congrFun (List.map_inj_left.1 hp i (List.mem_range.2 hi)) w
 exact this
theorem kC (d:Nat)(h:List Nat)(a b:YL)(hg:zB M P n W Q ((xgo P n (d+50000) h c).put (.string (mkS (a++b)))))(hb:a.length+b.length<=4000000000:=by (try simp only [List.length_append,List.length_cons,List.length_nil]);omega)
  (hkt:(xgl P n (d+50000) h c,(xW n (xgo P n (d+50000) h c),(xO (xgo P n (d+50000) h c)).op,ev n (xgo P n (d+50000) h c).f (oX (xO (xgo P n (d+50000) h c))),ev n (xgo P n (d+50000) h c).f (oY (xO (xgo P n (d+50000) h c)))))=(xgr P n (d+50000) h c,(true,.binOp .add (oT (xO (xgo P n (d+50000) h c))) (oX (xO (xgo P n (d+50000) h c))) (oY (xO (xgo P n (d+50000) h c))) (oU (xO (xgo P n (d+50000) h c))),.string (mkS a),.string (mkS b))):=by kernel_rfl):zB M P n W Q c:=by
 obtain ⟨hk,ht⟩:=Prod.mk.inj hkt
 simp only [Prod.mk.injEq] at ht
 exact zM h c hk (x9 ht.1 (bS ht.2.1 ht.2.2.1 ht.2.2.2 hb) hg)
def xPb:Value->Nat
 | .pointer (some a)=>a.block
 |_=>0
def xOi (i:Nat)(c:Xc):Oper:=(xA c).getD i default
def xHn (c:Xc)(i:Nat)(v:Value):Xc:=⟨.hps (xA c) ((xS c).setIfInBounds i true) (xU c) (xL0 c),c.k,c.L,upd c.f (xOi i c).dst v⟩
def fZ (n:Nat)(i:Nat)(c:Xc):XTop×Option Oper×Bool×Bool×Bool×Bool:=
 (c.top,(xA c)[i]?,zT (xA c) n c.f (xOi i c),Region.noSelect (xA c),Region.free .any (xA c) (xS c) i,(Region.ready .any (xA c) (xS c)).contains i)
def wM (i:Nat)(c:Xc):XTop×Option Oper×Bool×Bool×Bool×Bool:=(.hps (xA c) (xS c) (xU c+1) (xL0 c),some (xOi i c),true,true,true,true)
theorem tQ {i:Nat}{v:Value}(hv:∀ w,Own M W w (xL0 c)->(execOp (ev n c.f) (xOi i c)).run P w= .ok (.value v) w)(hg:zB M P n W Q (xHn c i v))(hf:fZ n i c=wM i c):zB M P n W Q c:=by
 simp only [fZ,wM,Prod.mk.injEq] at hf
 obtain ⟨e1,e2,e3,e4,e5,e6⟩:=hf
 have:c=⟨.hps (xA c) (xS c) (xU c+1) (xL0 c),c.k,c.L,c.f⟩:=by rw [←e1]
 rw [this]
 exact ⟨λhq hs=>fP i _ v e2 e4 e5 e6 (p4 hq c.k) hs e3 hv (hg.go hq hs)⟩
theorem xh_ixa (t:Nat)(h:List Nat)(i N k sz:Nat)(hN:k<N)(hg:zB M P n W Q (xHn (xgo P n t h c) i (.pointer (some ⟨xPb (ev n (xgo P n t h c).f (oX (xOi i (xgo P n t h c)))),xOff (ev n (xgo P n t h c).f (oX (xOi i (xgo P n t h c))))+(k:Int).toNat*sz,none⟩))))
  (hkt:(xgl P n t h c,fZ n i (xgo P n t h c),(xOi i (xgo P n t h c)).op,ev n (xgo P n t h c).f (oX (xOi i (xgo P n t h c))),ev n (xgo P n t h c).f (oY (xOi i (xgo P n t h c))),P.underlying (oT (xOi i (xgo P n t h c))),(P.info? (xEl P (oT (xOi i (xgo P n t h c))))).map (·.size))
   =(xgr P n t h c,wM i (xgo P n t h c),.indexAddr (oT (xOi i (xgo P n t h c))) (oX (xOi i (xgo P n t h c))) (oY (xOi i (xgo P n t h c))),.pointer (some ⟨xPb (ev n (xgo P n t h c).f (oX (xOi i (xgo P n t h c)))),xOff (ev n (xgo P n t h c).f (oX (xOi i (xgo P n t h c)))),none⟩),YI (k:Int),some (.array N (xEl P (oT (xOi i (xgo P n t h c))))),some sz):=by kernel_rfl):zB M P n W Q c:=by
 simp only [Prod.mk.injEq] at hkt
 obtain ⟨hk,e1,e2,e3,e4,e5,e6⟩:=hkt
 exact zM h c hk (tQ (λw _=>run_ixarr e2 e3 e4 e5 e6 Om Om rfl w) hg e1)
theorem xh_ldk (t:Nat)(h:List Nat)(i q:Nat)(cs:Array Value)(off:Nat)(ty:TypeId)(v:Value)(hv:yQ P ty cs off=some v)(hg:zB M P n W Q (xHn (xgo P n t h c) i v))
  (hkt:(xgl P n t h c,fZ n i (xgo P n t h c),(xOi i (xgo P n t h c)).op,(xL0 (xgo P n t h c))[q]?,(gF (xL0 (xgo P n t h c)) q).cs,ev n (xgo P n t h c).f (oX (xOi i (xgo P n t h c))))
   =(xgr P n t h c,wM i (xgo P n t h c),.load ty (oX (xOi i (xgo P n t h c))),some (gF (xL0 (xgo P n t h c)) q),cs,.pointer (some ⟨(gF (xL0 (xgo P n t h c)) q).b,off,none⟩)):=by kernel_rfl):zB M P n W Q c:=by
 simp only [Prod.mk.injEq] at hkt
 obtain ⟨hk,e1,e2,e3,e4,e5⟩:=hkt
 exact zM h c hk (tQ (λw hO=>xD e2 e5 (y7 (by rw [e4];exact hv) (hO.get e3))) hg e1)
def aT (o:Oper):TypeId:=match o.op with
 | .call c=>c.argTypes.getD 0 0
 |_=>0
def aX (o:Oper)(i:Nat):Operand:=match o.op with
 | .call c=>c.args.getD i (.tmp 0)
 |_=> .tmp 0
def aOp (o:Oper):Op:= .call {callee:= .builtin .append,args:= #[aX o 0,aX o 1],argTypes:= #[aT o,aT o]}
def aInfo (P:Program)(T:TypeId):Option (Bool×Nat×Option Nat):=(P.info? T).map λi=>(Nat.ble i.bytes 1000000,i.size,i.zero.map λz=>z.cells.size)
def aNext (c:Xc)(L:List Blk)(v:Value):Xc:=⟨.hps (xA c) ((hS c).setIfInBounds (hI c) true) (hU c) (hL c),c.k,L,upd c.f (xO c).dst v⟩
theorem hs_take' {ops:Array Oper}{L L' L0:List Blk}{u i:Nat}{s:Array Bool}{f:Nat->Value}(hs:∀ w,Own M W w L->Own M W w L')(h:wK M P n ops W L0 Q u s i L' f):wK M P n ops W L0 Q u s i L f:=⟨λw hO=>h.go w (hs w hO)⟩
theorem fC {T:TypeId}{sz:Nat}(h:aInfo P T=some (true,sz,some sz)):∃ i z,P.info? T=some i/\i.zero=some z/\i.size=sz/\z.cells.size=sz/\i.bytes<=1000000:=by
 unfold aInfo at h
 cases hi:P.info? T with
 |none=>rw [hi] at h;cases h
 |some i=>
  rw [hi] at h
  simp only [Option.map_some,Option.some.injEq,Prod.mk.injEq] at h
  obtain ⟨h1,h2,h3⟩:=h
  cases hz:i.zero with
  |none=>rw [hz] at h3;cases h3
  |some z=>rw [hz] at h3;exact ⟨i,z,rfl,hz,h2,Option.some.inj h3,Nat.le_of_ble_eq_true h1⟩
theorem gV {T:TypeId}{sz k m cp:Nat}{v:Value}{xs:List Value}(E ob R:List Blk)(q:Nat)(L1 L0:List Blk)(hs:∀ w,Own M W w L1->Own M W w (E++ob++R))(hsub:∀ ob' w,Own M W w (E++ob'++R)->Own M W w L0)(hv:Sl T sz v k xs ob)(hN:k+m<=1000000)
  (hg:∀ v' ob',Sl T sz v' (k+m) (xs++(gF E q).cs.toList) ob'->zB M P n W Q (aNext c (E++ob'++R) v'))
  (hkt:(c.L,hL c,c.top,(xA c)[hI c]?,zT (xA c) n c.f (xO c),(xO c).op,ev n c.f (aX (xO c) 0),ev n c.f (aX (xO c) 1),E[q]?,P.underlying (aT (xO c)),aInfo P T,(gF E q).cs.toList.length,(gF E q).cs.toList.all λu=>u.oneCell')
   =(L1,L0,.hst (xA c) (hS c) (hU c) (hL c) (hI c),some (xO c),true,aOp (xO c),v,.slice (some ⟨(gF E q).b,0,none⟩) m cp,some (gF E q),some (.slice T),some (true,sz,some sz),m*sz,true):=by kernel_rfl):zB M P n W Q c:=by
 simp only [Prod.mk.injEq] at hkt
 obtain ⟨f1,f2,e1,e2,e3,e4,e5,e6,e7,e8,e9,e10,e11⟩:=hkt
 rw [←f1] at hs
 rw [←f2] at hsub
 have:c=⟨.hst (xA c) (hS c) (hU c) (hL c) (hI c),c.k,c.L,c.f⟩:=by rw [←e1]
 rw [this]
 obtain ⟨i,z,hi,hz,hsz,hzs,hby⟩:=fC e9
 refine ⟨λhq hs0=>hs_take' hs (hl_append (E:=E) (ob:=ob) (R:=R) (xO c) e2 e3 e4 e8 hi hz hsz hzs e5 hv e6 e10 (λw hO j u hj=> ?_) (List.all_eq_true.1 e11) ?_ ?_ hsub λv' ob' h=>(hg v' ob' h).go hq (hsub ob'))⟩
 ·have hmem:gF E q∈E++ob++R:=List.mem_append_left _ (List.mem_append_left _ (List.mem_of_getElem? e7))
  rw [yI,cell_of_row w _ _ _ _ _ (hO.held _ hmem),Nat.zero_add]
  simpa using hj
 ·unfold maxLen;omega
 ·have:=Nat.mul_le_mul hN hby;omega
theorem put_read {v:Value}(hw:xW n c=true)(hr:∀ w,Own M W w c.L->(execOp (ev n c.f) (xO c)).run P w= .ok (.value v) w)(hg:zB M P n W Q (c.put v)):zB M P n W Q c:=by
 obtain ⟨top,kk,L,f⟩:=c
 unfold xW at hw
 unfold Xc.put at hg
 cases top with
 |ops a r=>cases r with
  |nil=>cases hw
  |cons o r=>exact ⟨λhq=>s_read v hw hr (hg.go hq)⟩
 |qps a r=>cases r with
  |nil=>cases hw
  |cons o r=>exact ⟨λhq=>q_read v hw hr (hg.go hq)⟩
 |_=>cases hw
theorem zK (d:Nat)(h:List Nat){A:Option Addr}{b off:Nat}(hA:A=some ⟨b,off,none⟩)(N cp j sz:Nat)(hj:j<N)(hg:zB M P n W Q ((xgo P n (d+50000) h c).put (.pointer (some ⟨b,off+(j:Int).toNat*sz,none⟩))))
  (hkt:(xgl P n (d+50000) h c,xW n (xgo P n (d+50000) h c),(xO (xgo P n (d+50000) h c)).op,ev n (xgo P n (d+50000) h c).f (oX (xO (xgo P n (d+50000) h c))),ev n (xgo P n (d+50000) h c).f (oY (xO (xgo P n (d+50000) h c))),P.underlying (oT (xO (xgo P n (d+50000) h c))),(P.info? (xEl P (oT (xO (xgo P n (d+50000) h c))))).map (·.size))
   =(xgr P n (d+50000) h c,true,.indexAddr (oT (xO (xgo P n (d+50000) h c))) (oX (xO (xgo P n (d+50000) h c))) (oY (xO (xgo P n (d+50000) h c))),.slice A N cp,YI (j:Int),some (.slice (xEl P (oT (xO (xgo P n (d+50000) h c))))),some sz):=by kernel_rfl):zB M P n W Q c:=by
 simp only [Prod.mk.injEq] at hkt
 obtain ⟨hk,e1,e2,e3,e4,e5,e6⟩:=hkt
 exact zM h c hk (x9 e1 (λw=>run_ixA e2 e3 hA e4 e5 e6 Om Om rfl w) hg)
theorem zH (d:Nat)(h:List Nat)(ty:TypeId)(b o:Nat)(v:Value)(hv:∀ w,Own M W w (xgo P n (d+50000) h c).L->(loadVar ty ⟨b,o,none⟩).run P w= .ok v w)(hg:zB M P n W Q ((xgo P n (d+50000) h c).put v))
  (hkt:(xgl P n (d+50000) h c,xW n (xgo P n (d+50000) h c),(xO (xgo P n (d+50000) h c)).op,ev n (xgo P n (d+50000) h c).f (oX (xO (xgo P n (d+50000) h c))))=(xgr P n (d+50000) h c,true,.load ty (oX (xO (xgo P n (d+50000) h c))),.pointer (some ⟨b,o,none⟩)):=by kernel_rfl):zB M P n W Q c:=by
 simp only [Prod.mk.injEq] at hkt
 obtain ⟨hk,e1,e2,e3⟩:=hkt
 exact zM h c hk (put_read e1 (λw hO=>xD e2 e3 (hv w hO)) hg)
theorem kJ (d:Nat)(h:List Nat)(s u:YL)(h1:s=u->zB M P n W Q ((xgo P n (d+50000) h c).put (.bool true)))(h2:¬ s=u->zB M P n W Q ((xgo P n (d+50000) h c).put (.bool false)))
  (hkt:(xgl P n (d+50000) h c,xW n (xgo P n (d+50000) h c),(xO (xgo P n (d+50000) h c)).op,ev n (xgo P n (d+50000) h c).f (oX (xO (xgo P n (d+50000) h c))),ev n (xgo P n (d+50000) h c).f (oY (xO (xgo P n (d+50000) h c))))=(xgr P n (d+50000) h c,true,.binOp .eql (oT (xO (xgo P n (d+50000) h c))) (oX (xO (xgo P n (d+50000) h c))) (oY (xO (xgo P n (d+50000) h c))) (oU (xO (xgo P n (d+50000) h c))),.string (mkS s),.string (mkS u)):=by kernel_rfl):zB M P n W Q c:=by
 simp only [Prod.mk.injEq] at hkt
 obtain ⟨hk,e1,e2,e3,e4⟩:=hkt
 by_cases hp:s=u
 ·exact zM h c hk (x9 e1 (λw=>run_streql e2 e3 e4 (decide_eq_true hp) w) (h1 hp))
 ·exact zM h c hk (x9 e1 (λw=>run_streql e2 e3 e4 (decide_eq_false hp) w) (h2 hp))
theorem wT (d:Nat)(h:List Nat)(s u:YL)(h1:s=u->zB M P n W Q ((xgo P n (d+50000) h c).put (.bool false)))(h2:¬ s=u->zB M P n W Q ((xgo P n (d+50000) h c).put (.bool true)))
  (hkt:(xgl P n (d+50000) h c,xW n (xgo P n (d+50000) h c),(xO (xgo P n (d+50000) h c)).op,ev n (xgo P n (d+50000) h c).f (oX (xO (xgo P n (d+50000) h c))),ev n (xgo P n (d+50000) h c).f (oY (xO (xgo P n (d+50000) h c))))=(xgr P n (d+50000) h c,true,.binOp .neq (oT (xO (xgo P n (d+50000) h c))) (oX (xO (xgo P n (d+50000) h c))) (oY (xO (xgo P n (d+50000) h c))) (oU (xO (xgo P n (d+50000) h c))),.string (mkS s),.string (mkS u)):=by kernel_rfl):zB M P n W Q c:=by
 simp only [Prod.mk.injEq] at hkt
 obtain ⟨hk,e1,e2,e3,e4⟩:=hkt
 by_cases hp:s=u
 ·exact zM h c hk (x9 e1 (λw=>run_strneq e2 e3 e4 (decide_eq_true hp) w) (h1 hp))
 ·exact zM h c hk (x9 e1 (λw=>run_strneq e2 e3 e4 (decide_eq_false hp) w) (h2 hp))
def xBo:Value->Bool
 | .bool b=>b
 |_=>false
theorem nI (t:Nat)(h:List Nat)(h1:zB M P n W Q ((xgo P n t h c).st t (.bool true)))(h2:zB M P n W Q ((xgo P n t h c).st t (.bool false)))
  (hkt:(xgl P n t h c,(xgo P n t h c).f t)=(xgr P n t h c,.bool (xBo ((xgo P n t h c).f t))):=by kernel_rfl):zB M P n W Q c:=by
 obtain ⟨hk,hv⟩:=Prod.mk.inj hkt
 cases hb:xBo ((xgo P n t h c).f t) with
 |true=>rw [hb] at hv;exact d8 t h _ hv h1 hk
 |false=>rw [hb] at hv;exact d8 t h _ hv h2 hk
theorem bQ (t:Nat)(h:List Nat)(i:Nat){A:Option Addr}{b off:Nat}(hA:A=some ⟨b,off,none⟩)(N cp j sz:Nat)(hj:j<N)(hg:zB M P n W Q (xHn (xgo P n t h c) i (.pointer (some ⟨b,off+(j:Int).toNat*sz,none⟩))))
  (hkt:(xgl P n t h c,fZ n i (xgo P n t h c),(xOi i (xgo P n t h c)).op,ev n (xgo P n t h c).f (oX (xOi i (xgo P n t h c))),ev n (xgo P n t h c).f (oY (xOi i (xgo P n t h c))),P.underlying (oT (xOi i (xgo P n t h c))),(P.info? (xEl P (oT (xOi i (xgo P n t h c))))).map (·.size))
   =(xgr P n t h c,wM i (xgo P n t h c),.indexAddr (oT (xOi i (xgo P n t h c))) (oX (xOi i (xgo P n t h c))) (oY (xOi i (xgo P n t h c))),.slice A N cp,YI (j:Int),some (.slice (xEl P (oT (xOi i (xgo P n t h c))))),some sz):=by kernel_rfl):zB M P n W Q c:=by
 simp only [Prod.mk.injEq] at hkt
 obtain ⟨hk,e1,e2,e3,e4,e5,e6⟩:=hkt
 exact zM h c hk (tQ (λw _=>run_ixA e2 e3 hA e4 e5 e6 Om Om rfl w) hg e1)
theorem dF (t:Nat)(h:List Nat)(i:Nat)(ty:TypeId)(b o:Nat)(v:Value)(hv:∀ w,Own M W w (xL0 (xgo P n t h c))->(loadVar ty ⟨b,o,none⟩).run P w= .ok v w)(hg:zB M P n W Q (xHn (xgo P n t h c) i v))
  (hkt:(xgl P n t h c,fZ n i (xgo P n t h c),(xOi i (xgo P n t h c)).op,ev n (xgo P n t h c).f (oX (xOi i (xgo P n t h c))))=(xgr P n t h c,wM i (xgo P n t h c),.load ty (oX (xOi i (xgo P n t h c))),.pointer (some ⟨b,o,none⟩)):=by kernel_rfl):zB M P n W Q c:=by
 simp only [Prod.mk.injEq] at hkt
 obtain ⟨hk,e1,e2,e3⟩:=hkt
 exact zM h c hk (tQ (λw hO=>xD e2 e3 (hv w hO)) hg e1)
theorem qR (t:Nat)(h:List Nat)(i:Nat)(a b:YL)(hg:zB M P n W Q (xHn (xgo P n t h c) i (.string (mkS (a++b)))))(hb:a.length+b.length<=4000000000:=by (try simp only [List.length_append,List.length_cons,List.length_nil]);omega)
  (hkt:(xgl P n t h c,fZ n i (xgo P n t h c),(xOi i (xgo P n t h c)).op,ev n (xgo P n t h c).f (oX (xOi i (xgo P n t h c))),ev n (xgo P n t h c).f (oY (xOi i (xgo P n t h c))))
   =(xgr P n t h c,wM i (xgo P n t h c),.binOp .add (oT (xOi i (xgo P n t h c))) (oX (xOi i (xgo P n t h c))) (oY (xOi i (xgo P n t h c))) (oU (xOi i (xgo P n t h c))),.string (mkS a),.string (mkS b)):=by kernel_rfl):zB M P n W Q c:=by
 simp only [Prod.mk.injEq] at hkt
 obtain ⟨hk,e1,e2,e3,e4⟩:=hkt
 exact zM h c hk (tQ (λw _=>bS e2 e3 e4 hb w) hg e1)
theorem Reads.elem {α:Type}{g:α->List Value}{sz:Nat}(hg:∀ x,(g x).length=sz){A:Option Addr}{l:List α}{B:Nat}(h:Reads g W B A l)(j:Nat)(hj:j<l.length):∃ b off,A=some ⟨b,off,none⟩∧∀ w,Below B W w→∀ (ty:TypeId) (fo:Nat) (v:Value),yQ P ty ((g l[j]).drop fo).toArray 0=some v->(loadVar ty ⟨b,off+j*sz+fo,none⟩).run P w= .ok v w:=by
 obtain ⟨b,off,e,hb,hc⟩:=h Om
 refine ⟨b,off,e,λw hw ty fo v hr=>fR hg (λk u hu=> ?_) j fo hj rfl v hr⟩
 have:=hc k u hu
 rw [←this]
 unfold World.cell?
 rw [hw.block b hb]
theorem x_ixa (d:Nat)(h:List Nat)(N k sz:Nat)(hN:k<N)(hg:zB M P n W Q ((xgo P n (d+50000) h c).put (.pointer (some ⟨xPb (ev n (xgo P n (d+50000) h c).f (oX (xO (xgo P n (d+50000) h c)))),xOff (ev n (xgo P n (d+50000) h c).f (oX (xO (xgo P n (d+50000) h c))))+(k:Int).toNat*sz,none⟩))))
  (hkt:(xgl P n (d+50000) h c,xW n (xgo P n (d+50000) h c),(xO (xgo P n (d+50000) h c)).op,ev n (xgo P n (d+50000) h c).f (oX (xO (xgo P n (d+50000) h c))),ev n (xgo P n (d+50000) h c).f (oY (xO (xgo P n (d+50000) h c))),P.underlying (oT (xO (xgo P n (d+50000) h c))),(P.info? (xEl P (oT (xO (xgo P n (d+50000) h c))))).map (·.size))
   =(xgr P n (d+50000) h c,true,.indexAddr (oT (xO (xgo P n (d+50000) h c))) (oX (xO (xgo P n (d+50000) h c))) (oY (xO (xgo P n (d+50000) h c))),.pointer (some ⟨xPb (ev n (xgo P n (d+50000) h c).f (oX (xO (xgo P n (d+50000) h c)))),xOff (ev n (xgo P n (d+50000) h c).f (oX (xO (xgo P n (d+50000) h c)))),none⟩),YI (k:Int),some (.array N (xEl P (oT (xO (xgo P n (d+50000) h c))))),some sz):=by kernel_rfl):zB M P n W Q c:=by
 simp only [Prod.mk.injEq] at hkt
 obtain ⟨hk,e1,e2,e3,e4,e5,e6⟩:=hkt
 exact zM h c hk (x9 e1 (λw=>run_ixarr e2 e3 e4 e5 e6 Om Om rfl w) hg)
theorem x_ldk (d:Nat)(h:List Nat)(q:Nat)(cs:Array Value)(off:Nat)(ty:TypeId)(v:Value)(hv:yQ P ty cs off=some v)(hg:zB M P n W Q ((xgo P n (d+50000) h c).put v))
  (hkt:(xgl P n (d+50000) h c,xW n (xgo P n (d+50000) h c),(xO (xgo P n (d+50000) h c)).op,(xgo P n (d+50000) h c).L[q]?,(gF (xgo P n (d+50000) h c).L q).cs,ev n (xgo P n (d+50000) h c).f (oX (xO (xgo P n (d+50000) h c))))=(xgr P n (d+50000) h c,true,.load ty (oX (xO (xgo P n (d+50000) h c))),some (gF (xgo P n (d+50000) h c).L q),cs,.pointer (some ⟨(gF (xgo P n (d+50000) h c).L q).b,off,none⟩)):=by kernel_rfl):zB M P n W Q c:=by
 simp only [Prod.mk.injEq] at hkt
 obtain ⟨hk,e1,e2,e3,e4,e5⟩:=hkt
 exact zM h c hk (put_read e1 (λw hO=>xD e2 e5 (y7 (by rw [e4];exact hv) (hO.get e3))) hg)
theorem x_app {T:TypeId}{sz k m cp:Nat}{v:Value}{xs:List Value}(h:List Nat)(E ob R:List Blk)(q:Nat)(L1:List Blk)(hs:∀ w,Own M W w L1->Own M W w (E++ob++R))(hv:Sl T sz v k xs ob)(hN:k+m<=1000000)
  (hg:∀ v' ob',Sl T sz v' (k+m) (xs++(gF E q).cs.toList) ob'->zB M P n W Q ⟨.ops (xA (xgo P n nS h c)) (xT (xgo P n nS h c)),(xgo P n nS h c).k,E++ob'++R,upd (xgo P n nS h c).f (xO (xgo P n nS h c)).dst v'⟩)
  (hkt:(xgl P n nS h c,(xgo P n nS h c).L,(xgo P n nS h c).top,zT (xA (xgo P n nS h c)) n (xgo P n nS h c).f (xO (xgo P n nS h c)),(xO (xgo P n nS h c)).op,ev n (xgo P n nS h c).f (aX (xO (xgo P n nS h c)) 0),ev n (xgo P n nS h c).f (aX (xO (xgo P n nS h c)) 1),E[q]?,P.underlying (aT (xO (xgo P n nS h c))),aInfo P T,(gF E q).cs.toList.length,(gF E q).cs.toList.all λu=>u.oneCell')
   =(xgr P n nS h c,L1,.ops (xA (xgo P n nS h c)) (xO (xgo P n nS h c)::xT (xgo P n nS h c)),true,aOp (xO (xgo P n nS h c)),v,.slice (some ⟨(gF E q).b,0,none⟩) m cp,some (gF E q),some (.slice T),some (true,sz,some sz),m*sz,true):=by kernel_rfl):zB M P n W Q c:=by
 simp only [Prod.mk.injEq] at hkt
 obtain ⟨hk,f1,e1,e3,e4,e5,e6,e7,e8,e9,e10,e11⟩:=hkt
 refine zM h c hk ?_
 generalize (xgo P n nS h c)=d at*
 rw [←f1] at hs
 have:d=⟨.ops (xA d) (xO d::xT d),d.k,d.L,d.f⟩:=by rw [←e1]
 rw [this]
 obtain ⟨i,z,hi,hz,hsz,hzs,hby⟩:=fC e9
 refine ⟨λhq=>s_take hs (s_append (E:=E) (ob:=ob) (L0:=R) e3 e4 e8 hi hz hsz hzs e5 hv e6 e10 (λw hO j u hj=> ?_) (List.all_eq_true.1 e11) ?_ ?_ λv' ob' h=>(hg v' ob' h).go hq)⟩
 ·have hmem:gF E q∈E++ob++R:=List.mem_append_left _ (List.mem_append_left _ (List.mem_of_getElem? e7))
  rw [yI,cell_of_row w _ _ _ _ _ (hO.held _ hmem),Nat.zero_add]
  simpa using hj
 ·unfold maxLen;omega
 ·have:=Nat.mul_le_mul hN hby;omega
end
end
section
def xNl:List XIt->Bool
 | []=>true
 | .lp _ _::_=>false
 |_::k=>xNl k
theorem KQ_any {M M':List Nat}{P:Program}{n:Nat}{W W':World}{Q:Exit->Act->World->Prop}:∀ {k:List XIt},xNl k=true->KQ M P n W Q k=KQ M' P n W' Q k
 | [],_=>rfl
 | .lp _ _::_,h=>by cases h
 | .code c::k,h=>by unfold KQ;rw [KQ_any (k:=k) h]
 | .blk _::k,h=>by unfold KQ;rw [KQ_any (k:=k) h]
 | .tl _ _::k,h=>by unfold KQ;rw [KQ_any (k:=k) h]
 | .rd _ _::k,h=>by unfold KQ;rw [KQ_any (k:=k) h]
def xOut:Exit->Bool
 | .exit _=>true
 | .ret=>true
 |_=>false
section
variable {M:List Nat}{P:Program}{n:Nat}{W:World}{Q:Exit->Act->World->Prop}{c:Xc}
theorem wp_skip {K:Act->World->Prop}{o:Oper}{f:Nat->Value}{w w':World}(hr:(execOp (ev n f) o).run P w= .ok .skip w')(h:K (Fr n (upd f o.dst undef)) w'):o.wp P (Fr n f) w K Q:=by
 unfold Oper.wp
 rw [gU,hr]
 show K ((Fr n f).put o.dst undef) w'
 rw [jB];exact h
def xNx (d:Xc)(L':List Blk)(v:Value):Xc:=⟨.ops (xA d) (xT d),d.k,L',upd d.f (xO d).dst v⟩
def xIW (n:Nat){α:Type}(lv:α->List (Nat×Value))(Mf:α->List Nat)(Lf:α->List Blk)(rel:α->World->Nat->Prop):World->(Nat->Value)->Nat->Prop:=λw f m=>∃ x,rel x w m/\Own (Mf x) w w (Lf x)/\nG f (lv x)
end
end
section
section
variable {M:List Nat}{P:Program}{W w:World}{E ob L0:List Blk}
theorem own_append_str {t u ty T:TypeId}{i:TypeInfo}(ht:P.underlying t=some (.slice T))(hu:P.underlying u=some .string)(hi:P.info? T=some i)(hz:i.zero=some (.int .u8 0))(hsz:i.size=1)(hby:i.bytes=1)
  {v:Value} {n:Nat} {xs:List Value} (hv:Sl T 1 v n xs ob) (hO:Own M W w (E++ob++L0)) (s:ByteArray)
  (h63:n+s.size<=maxLen) (hbytes:n+s.size<=140737488355328):
  ∃ v' w' ob',(Builtin.append_ #[t,u] ty #[v,.string s]).run P w= .ok v' w'/\Sl T 1 v' (n+s.size) (xs++Lib.strCells s) ob'/\Own M W w' (E++ob'++L0):=by
 have hsmall:n+s.size<=9223372036854775807:=by simp only [maxLen] at h63;omega
 have hxl:xs.length=n:=by simpa using hv.1
 have hsl:=Lib.strCells_length s
 have hlen:(xs++Lib.strCells s).length=(n+s.size)*1:=by rw [List.length_append,hxl,hsl,Nat.mul_one]
 have hz1:(Value.int IntKind.u8 0).cells.size=1:=rfl
 rcases hv.2 with ⟨rfl,rfl,rfl⟩|⟨g,cap,cur,rfl,rfl,hnc,hcm,hcs,htake⟩
 ·have hx:xs=[]:=List.eq_nil_of_length_eq_zero hxl
  subst hx
  by_cases hm:s.size=0
  ·have hn:Lib.strCells s=[]:=List.eq_nil_of_length_eq_zero (by rw [hsl];exact hm)
   refine ⟨.slice none 0 0,w,[], ?_,by rw [hm,hn];exact Sl.nil T 1,hO⟩
   have hf:=Lib.run_firstCells_string (P:=P) w 1 s
   rw [hm] at hf
   simp [Builtin.append_,run_underlying ht,run_underlying hu,sizeOf,typeInfo,hi,hsz,Builtin.lenOf,hm,hf]
  ·have hr:=run_append_nil_string (P:=P) w t u ty T i (.int .u8 0) ht hu hi hz s Om Om (by rw [hby];omega)
   have e1:(s.data.map λb=>Value.int .u8 b.toNat)=(Lib.strCells s).toArray:=by
    apply Array.ext'
    simp [Lib.strCells]
   rw [e1] at hr
   have hge:=grownCap_ge w s.size 0 T
   have hcm:=grownCap_le_maxLen w s.size 0 T (by simpa using h63)
   refine ⟨_,_,[⟨w.heap.size,(Lib.strCells s).toArray++Builtin.zeroCells (Value.int .u8 0).cells (grownCap w s.size 0 T-s.size),T⟩],hr,⟨by simpa using hlen,.inr ⟨w.heap.size,_,_,by simp,rfl,by simpa using hge,hcm, ?_, ?_⟩⟩, ?_⟩
   ·simp only [Array.size_append,List.size_toArray,size_zeroCells,hz1,hsl]
    omega
   ·simp only [Array.toList_append,Nat.zero_add,List.nil_append,Nat.mul_one]
    rw [←hsl]
    exact List.take_left
   ·have:=(bO hO).alloc ((Lib.strCells s).toArray++Builtin.zeroCells (Value.int .u8 0).cells (grownCap w s.size 0 T-s.size)) T
    exact Own.move (ob:=[]) this
 ·have hcs':cur.size=cap:=by simpa using hcs
  have ht':cur.toList.take n=xs:=by simpa using htake
  by_cases hroom:n+s.size<=cap
  ·have hk:(E++[Blk.mk g cur T]++L0)[E.length]?=some ⟨g,cur,T⟩:=by simp
   have hg:=hO.get hk
   have hr:=Lib.run_append_room_string (P:=P) w t u ty T i ht hu hi hsz g n cap cur hg s hroom Om
   refine ⟨_,_,[⟨g,(cur.toList.take n++Lib.strCells s++cur.toList.drop (n+s.size)).toArray,T⟩],hr,⟨hlen,.inr ⟨g,cap,_,rfl,rfl,hroom,hcm, ?_, ?_⟩⟩, ?_⟩
   ·simp only [List.size_toArray,List.length_append,List.length_take,List.length_drop,Array.length_toList,hsl]
    omega
   ·rw [ht',←hlen]
    exact List.take_left
   ·have:=hO.put hk (cur.toList.take n++Lib.strCells s++cur.toList.drop (n+s.size)).toArray
    have e:(E++[Blk.mk g cur T]++L0).set E.length ⟨g,(cur.toList.take n++Lib.strCells s++cur.toList.drop (n+s.size)).toArray,T⟩=E++[⟨g,(cur.toList.take n++Lib.strCells s++cur.toList.drop (n+s.size)).toArray,T⟩]++L0:=by simp
    rw [e] at this;exact this
  ·have hk:(E++[Blk.mk g cur T]++L0)[E.length]?=some ⟨g,cur,T⟩:=by simp
   have hg:=hO.get hk
   have holds:∀ j u,xs[j]?=some u->w.cell? ((⟨g,0,none⟩:Addr).add j)=some u:=λj u hj=>by
    rw [yI,cell_of_row w g (0+j) cur T _ hg]
    rw [←ht',List.getElem?_take] at hj
    split at hj
    ·simpa using hj
    ·cases hj
   have hr:=Lib.run_append_grow_string (P:=P) w t u ty T i (.int .u8 0) ht hu hi hz ⟨g,0,none⟩ n cap xs (by rw [hsz];simpa using hxl) holds s Om Om (by rw [hby];exact growslice_fits Om Om)
   have hge:=grownCap_ge w (n+s.size) cap T
   have hcm:=grownCap_le_maxLen w (n+s.size) cap T h63
   refine ⟨_,_,[⟨w.heap.size,xs.toArray++(Lib.strCells s).toArray++Builtin.zeroCells (Value.int .u8 0).cells (grownCap w (n+s.size) cap T-(n+s.size)),T⟩],hr,⟨hlen,.inr ⟨w.heap.size,_,_,rfl,rfl,hge,hcm, ?_, ?_⟩⟩, ?_⟩
   ·simp only [Array.size_append,List.size_toArray,size_zeroCells,hz1,hxl,hsl]
    omega
   ·simp only [Array.toList_append,List.append_assoc]
    rw [←List.append_assoc,←hlen]
    exact List.take_left
   ·exact Own.move ((bO hO).alloc (xs.toArray++(Lib.strCells s).toArray++Builtin.zeroCells (Value.int .u8 0).cells (grownCap w (n+s.size) cap T-(n+s.size))) T)
end
section
variable {M:List Nat}{P:Program}{n0:Nat}{ops:Array Oper}{W:World}{Q:Exit->Act->World->Prop}{rest:List Oper}{o:Oper}{E ob L0:List Blk}{f:Nat->Value}
theorem s_appstr {t u T:TypeId}{x y:Operand}{i:TypeInfo}(hw:zT ops n0 f o=true)(ho:o.op= .call {callee:= .builtin .append,args:= #[x,y],argTypes:= #[t,u]})
  (ht:P.underlying t=some (.slice T)) (hu:P.underlying u=some .string) (hi:P.info? T=some i) (hz:i.zero=some (.int .u8 0)) (hsz:i.size=1) (hby:i.bytes=1)
  {v:Value} {n:Nat} {xs:List Value} (hx:ev n0 f x=v) (hv:Sl T 1 v n xs ob) {s:ByteArray} (hy:ev n0 f y= .string s)
  (h63:n+s.size<=maxLen) (hbytes:n+s.size<=140737488355328)
  (h:∀ v' ob',Sl T 1 v' (n+s.size) (xs++Lib.strCells s) ob'->Seg M P n0 ops W Q rest (E++ob'++L0) (upd f o.dst v')):Seg M P n0 ops W Q (o::rest) (E++ob++L0) f:=
 kW hw λw hO=>by
  obtain ⟨v',w',ob',hr,h2,h3⟩:=own_append_str (P:=P) (ty:=o.type) ht hu hi hz hsz hby hv hO s h63 hbytes
  refine xB v' (w':=w') ?_ ((h v' ob' h2).go w' h3)
  unfold execOp
  simp only [ho,resolve,invoke,builtin,Sem.run_bind,Sem.run_pure,Result.andThen_ok,List.map_toArray,List.map_cons,List.map_nil,hx,hy,hr]
end
section
variable {M:List Nat}{P:Program}{n:Nat}{W:World}{L:List Blk}{f:Nat->Value}
theorem fin_none {fn:Func}{R:Ending->World->Prop}(hres:fn.results= #[])(hR:∀ w,Own M W w L->R (.returned (.tuple #[])) w):Fin M n W (bodyPost P fn R) .normal L f:=⟨λw hO=>
 bodyPost_end (results_none hres _ _ _) rfl (hR w hO)⟩
theorem pJ {fn:Func}{R:Ending->World->Prop}(hres:fn.results= #[])(hR:∀ w,Own M W w L->R (.returned (.tuple #[])) w):Fin M n W (bodyPost P fn R) .ret L f:=⟨λw hO=>
 bodyPost_ret (results_none hres _ _ _) rfl (hR w hO)⟩
end
end
section
section
variable {M:List Nat}{P:Program}{n:Nat}{W:World}{Q:Exit->Act->World->Prop}{c:Xc}
theorem x_enterL {M:List Nat}{L:List Blk}{k:FuncId}{fn:Func}{args:Array Value}{R:Ending->World->Prop}(hO:Own M W W L)(hf:P.funcs[k]?=some fn)(hg:zB M P fn.ntmps W (bodyPost P fn R) ⟨.code (fn.body.getD .skip),[],L,λt=>args.getD t undef⟩)
  (hb:fn.body.isSome=true:=by kernel_rfl) (hle:Nat.ble args.size fn.ntmps=true:=by kernel_rfl):Calls P k args W R:=by
 cases hb':fn.body with
 |none=>rw [hb'] at hb;cases hb
 |some b=>rw [hb'] at hg;exact tN hO hf hb' rfl hle (hg.go pq_body)
theorem gA {fn:Func}{R:Ending->World->Prop}(h:List Nat)(v v' v2:Value)(hR:∀ w,Own M W w (xgo P n nS h c).L->R (.returned (.tuple #[v,v',v2])) w)
  (hkt:(xgl P n nS h c,((xgo P n nS h c).top,(xgo P n nS h c).k,fn.results,ev n (xgo P n nS h c).f (.tmp (xRt fn 0)),ev n (xgo P n nS h c).f (.tmp (xRt fn 1)),ev n (xgo P n nS h c).f (.tmp (xRt fn 2))))=(xgr P n nS h c,(.fin .ret,[], #[.tmp (xRt fn 0),.tmp (xRt fn 1),.tmp (xRt fn 2)],v,v',v2)):=by kernel_rfl):zB M P n W (bodyPost P fn R) c:=by
 obtain ⟨hk,ht⟩:=Prod.mk.inj hkt
 refine zM h c hk ?_
 generalize xgo P n nS h c=d at hR ht ⊢
 obtain ⟨top,kk,L,f⟩:=d
 simp only [Prod.mk.injEq] at ht
 obtain ⟨rfl,rfl,e3,e4,e5,e6⟩:=ht
 exact ⟨λ_=>fin_ret3 v v' v2 e3 e4 e5 e6 hR⟩
theorem nJ {fn:Func}{R:Ending->World->Prop}(h:List Nat)(i:Nat)(v v':Value)(hR:∀ w,Own M W w (xgo P n nS h c).L->R (.returned (.tuple #[v,v'])) w)(hkt:(xgl P n nS h c,((xgo P n nS h c).top,(xgo P n nS h c).k,fn.results,(xgo P n nS h c).L[i]?,ev n (xgo P n nS h c).f (.tmp (xRt fn 0)),yQ P (xRy fn 0) (gF (xgo P n nS h c).L i).cs 0,ev n (xgo P n nS h c).f (.tmp (xRt fn 1))))=(xgr P n nS h c,(.fin .ret,[], #[.cell (xRt fn 0) (xRy fn 0),.tmp (xRt fn 1)],some (gF (xgo P n nS h c).L i),.pointer (some ⟨(gF (xgo P n nS h c).L i).b,0,none⟩),some v,v')):=by kernel_rfl):zB M P n W (bodyPost P fn R) c:=by
 obtain ⟨hk,ht⟩:=Prod.mk.inj hkt
 refine zM h c hk ?_
 generalize xgo P n nS h c=d at hR ht ⊢
 obtain ⟨top,kk,L,f⟩:=d
 simp only [Prod.mk.injEq] at ht
 obtain ⟨rfl,rfl,e3,e4,e5,e6,e7⟩:=ht
 exact ⟨λ_=>tH i (gF L i) v v' e3 e4 e5 e6 e7 hR⟩
theorem x_ret0 {fn:Func}{R:Ending->World->Prop}(h:List Nat)(hR:∀ w,Own M W w (xgo P n nS h c).L->R (.returned (.tuple #[])) w)
  (hkt:(xgl P n nS h c,(xgo P n nS h c).top,(xgo P n nS h c).k,fn.results)=(xgr P n nS h c,.fin .ret,[], #[]):=by kernel_rfl):zB M P n W (bodyPost P fn R) c:=by
 simp only [Prod.mk.injEq] at hkt
 obtain ⟨hk,e1,e2,e3⟩:=hkt
 refine zM h c hk ?_
 generalize xgo P n nS h c=d at*
 obtain ⟨top,kk,L,f⟩:=d
 dsimp only at e1 e2
 subst e1;subst e2
 exact ⟨λ_=>pJ e3 hR⟩
theorem pS {fn:Func}{R:Ending->World->Prop}(h:List Nat)(hR:∀ w,Own M W w (xgo P n nS h c).L->R (.returned (.tuple #[])) w)
  (hkt:(xgl P n nS h c,(xgo P n nS h c).top,(xgo P n nS h c).k,fn.results)=(xgr P n nS h c,.fin .normal,[], #[]):=by kernel_rfl):zB M P n W (bodyPost P fn R) c:=by
 simp only [Prod.mk.injEq] at hkt
 obtain ⟨hk,e1,e2,e3⟩:=hkt
 refine zM h c hk ?_
 generalize xgo P n nS h c=d at*
 obtain ⟨top,kk,L,f⟩:=d
 dsimp only at e1 e2
 subst e1;subst e2
 exact ⟨λ_=>fin_none e3 hR⟩
theorem zL (t:Nat)(b:Bool)(h1:b=true->zB M P n W Q (c.st t (.bool true)))(h2:b=false->zB M P n W Q (c.st t (.bool false)))(hv:c.f t= .bool b:=by kernel_rfl):zB M P n W Q c:=by
 cases b with
 |true=>
  have h:=h1 rfl
  unfold Xc.st at h
  rw [←wV hv] at h
  exact h
 |false=>
  have h:=h2 rfl
  unfold Xc.st at h
  rw [←wV hv] at h
  exact h
theorem x_yes (t:Nat)(h:List Nat)(p:Prop)[Decidable p](hp:p)(h1:zB M P n W Q ((xgo P n t h c).st t (.bool true)))(hkt:(xgl P n t h c,(xgo P n t h c).f t)=(xgr P n t h c,.bool (decide p)):=by kernel_rfl):zB M P n W Q c:=
 zD t h p (λ_=>h1) (λq=>absurd hp q) hkt
end
theorem Below.no {W w:World}(h:YB W w):Own [] W w []:=⟨h.os,h.tape,h.output,h.size,h.drawn,λk hk _=>h.block k hk,by simp,by simp,by simp⟩
end
section
section
variable {M:List Nat}{P:Program}{n:Nat}{W:World}{Q:Exit->Act->World->Prop}{c:Xc}
theorem mD (d:Nat)(h:List Nat)(s:YL)(k:Nat)(hk:k<s.length)(b:UInt8)(hb:s[k]=b)(hg:zB M P n W Q ((xgo P n (d+50000) h c).put (.int .u8 (b.toNat:Int))))
  (hkt:(xgl P n (d+50000) h c,xW n (xgo P n (d+50000) h c),(xO (xgo P n (d+50000) h c)).op,ev n (xgo P n (d+50000) h c).f (oX (xO (xgo P n (d+50000) h c))),ev n (xgo P n (d+50000) h c).f (oY (xO (xgo P n (d+50000) h c))),P.underlying (oT (xO (xgo P n (d+50000) h c))))
   =(xgr P n (d+50000) h c,true,.index (oT (xO (xgo P n (d+50000) h c))) (oX (xO (xgo P n (d+50000) h c))) (oY (xO (xgo P n (d+50000) h c))),.string (mkS s),YI (k:Int),some .string):=by kernel_rfl):zB M P n W Q c:=by
 simp only [Prod.mk.injEq] at hkt
 obtain ⟨hk',e1,e2,e3,e4,e5⟩:=hkt
 refine zM h c hk' (x9 e1 (λw=> ?_) hg)
 have:=run_stridx e2 e3 e4 e5 (Int.natCast_nonneg k) (by simpa using hk) w
 simp only [Int.toNat_natCast] at this
 rw [hb] at this;exact this
end
def shQ (o:Oper):TypeId×Operand×Operand×Bool:=match o.op with
 | .slice t x none (some y) none=>(t,x,y,true)
 |_=>(0,.tmp 0,.tmp 0,false)
theorem shQ_op {o:Oper}(h:(shQ o).2.2.2=true):o.op= .slice (shQ o).1 (shQ o).2.1 none (some (shQ o).2.2.1) none:=by
 unfold shQ at h ⊢
 split at h
 ·rename_i q;simp only [q]
 ·cases h
def slQ (o:Oper):TypeId×Operand×Operand×Bool:=match o.op with
 | .slice t x (some y) none none=>(t,x,y,true)
 |_=>(0,.tmp 0,.tmp 0,false)
theorem slQ_op {o:Oper}(h:(slQ o).2.2.2=true):o.op= .slice (slQ o).1 (slQ o).2.1 (some (slQ o).2.2.1) none none:=by
 unfold slQ at h ⊢
 split at h
 ·rename_i e;rw [e]
 ·cases h
section
variable {M:List Nat}{P:Program}{n:Nat}{W:World}{Q:Exit->Act->World->Prop}{c:Xc}
theorem x_slo (d:Nat)(h:List Nat)(s:YL)(j:Int)(h0:0<=j)(h1:j<=s.length)(v:Value)(hv: .string (mkS (s.drop j.toNat))=v)(hg:zB M P n W Q ((xgo P n (d+50000) h c).put v))
  (hkt:(xgl P n (d+50000) h c,xW n (xgo P n (d+50000) h c),(slQ (xO (xgo P n (d+50000) h c))).2.2.2,ev n (xgo P n (d+50000) h c).f (slQ (xO (xgo P n (d+50000) h c))).2.1,ev n (xgo P n (d+50000) h c).f (slQ (xO (xgo P n (d+50000) h c))).2.2.1,P.underlying (slQ (xO (xgo P n (d+50000) h c))).1)
   =(xgr P n (d+50000) h c,true,true,.string (mkS s),YI j,some .string):=by kernel_rfl):zB M P n W Q c:=by
 simp only [Prod.mk.injEq] at hkt
 obtain ⟨hk,e1,e2,e3,e4,e5⟩:=hkt
 exact zM h c hk (x9 e1 (λw=>by rw [run_strlo (slQ_op e2) e3 e4 e5 h0 h1 w,hv]) hg)
end
def ltB (o:Oper):Bool:=match o.op with
 | .binOp .lss _ _ _ _=>true
 |_=>false
theorem ltB_op {o:Oper}(h:ltB o=true):o.op= .binOp .lss (oT o) (oX o) (oY o) (oU o):=by
 unfold ltB at h
 split at h
 ·rename_i q;simp only [oT,oX,oY,oU,q]
 ·cases h
def geB (o:Oper):Bool:=match o.op with
 | .binOp .geq _ _ _ _=>true
 |_=>false
theorem geB_op {o:Oper}(h:geB o=true):o.op= .binOp .geq (oT o) (oX o) (oY o) (oU o):=by
 unfold geB at h
 split at h
 ·rename_i q;simp only [oT,oX,oY,oU,q]
 ·cases h
section
variable {M:List Nat}{P:Program}{n:Nat}{W:World}{Q:Exit->Act->World->Prop}{c:Xc}
theorem x_slt (d:Nat)(h:List Nat)(s u:YL)(h1:Op.bytesLess s u=true->zB M P n W Q ((xgo P n (d+50000) h c).put (.bool true)))(h2:Op.bytesLess s u=false->zB M P n W Q ((xgo P n (d+50000) h c).put (.bool false)))
  (hkt:(xgl P n (d+50000) h c,xW n (xgo P n (d+50000) h c),ltB (xO (xgo P n (d+50000) h c)),ev n (xgo P n (d+50000) h c).f (oX (xO (xgo P n (d+50000) h c))),ev n (xgo P n (d+50000) h c).f (oY (xO (xgo P n (d+50000) h c))))=(xgr P n (d+50000) h c,true,true,.string (mkS s),.string (mkS u)):=by kernel_rfl):zB M P n W Q c:=by
 simp only [Prod.mk.injEq] at hkt
 obtain ⟨hk,e1,e2,e3,e4⟩:=hkt
 cases hb:Op.bytesLess s u with
 |true=>exact zM h c hk (x9 e1 (λw=>run_strlss (ltB_op e2) e3 e4 hb w) (h1 hb))
 |false=>exact zM h c hk (x9 e1 (λw=>run_strlss (ltB_op e2) e3 e4 hb w) (h2 hb))
theorem x_sge (d:Nat)(h:List Nat)(s u:YL)(h1:Op.bytesLess s u=true->zB M P n W Q ((xgo P n (d+50000) h c).put (.bool false)))(h2:Op.bytesLess s u=false->zB M P n W Q ((xgo P n (d+50000) h c).put (.bool true)))
  (hkt:(xgl P n (d+50000) h c,xW n (xgo P n (d+50000) h c),geB (xO (xgo P n (d+50000) h c)),ev n (xgo P n (d+50000) h c).f (oX (xO (xgo P n (d+50000) h c))),ev n (xgo P n (d+50000) h c).f (oY (xO (xgo P n (d+50000) h c))))=(xgr P n (d+50000) h c,true,true,.string (mkS s),.string (mkS u)):=by kernel_rfl):zB M P n W Q c:=by
 simp only [Prod.mk.injEq] at hkt
 obtain ⟨hk,e1,e2,e3,e4⟩:=hkt
 cases hb:Op.bytesLess s u with
 |true=>exact zM h c hk (x9 e1 (λw=>run_strgeq (geB_op e2) e3 e4 hb w) (h1 hb))
 |false=>exact zM h c hk (x9 e1 (λw=>run_strgeq (geB_op e2) e3 e4 hb w) (h2 hb))
end
end
section
def mT (o:Oper):TypeId:=match o.op with
 | .makeSlice t _ _=>t
 |_=>0
def mX (o:Oper):Operand:=match o.op with
 | .makeSlice _ x _=>x
 |_=> .tmp 0
def mY (o:Oper):Operand:=match o.op with
 | .makeSlice _ _ y=>y
 |_=> .tmp 0
def skQ (o:Oper):TypeId×Operand×Operand×Operand×Bool:=match o.op with
 | .slice t x none (some y) (some z)=>(t,x,y,z,true)
 |_=>(0,.tmp 0,.tmp 0,.tmp 0,false)
theorem skQ_op {o:Oper}(h:(skQ o).2.2.2.2=true):o.op= .slice (skQ o).1 (skQ o).2.1 none (some (skQ o).2.2.1) (some (skQ o).2.2.2.1):=by
 unfold skQ at h ⊢
 split at h
 ·rename_i e;rw [e]
 ·cases h
def smQ (o:Oper):TypeId×Operand×Operand×Operand×Bool:=match o.op with
 | .slice t x (some y) (some z) none=>(t,x,y,z,true)
 |_=>(0,.tmp 0,.tmp 0,.tmp 0,false)
section
variable {M:List Nat}{P:Program}{n:Nat}{W:World}{Q:Exit->Act->World->Prop}{c:Xc}
theorem x_slhi (d:Nat)(h:List Nat){A:Option Addr}{b off:Nat}(hA:A=some ⟨b,off,none⟩)(N cp sz:Nat)(j:Int)(h0:0<=j)(h1:j<=cp)(v:Value)(hv: .slice (some ⟨b,off,none⟩) j.toNat cp=v)(hg:zB M P n W Q ((xgo P n (d+50000) h c).put v))
  (hkt:(xgl P n (d+50000) h c,xW n (xgo P n (d+50000) h c),(shQ (xO (xgo P n (d+50000) h c))).2.2.2,ev n (xgo P n (d+50000) h c).f (shQ (xO (xgo P n (d+50000) h c))).2.1,ev n (xgo P n (d+50000) h c).f (shQ (xO (xgo P n (d+50000) h c))).2.2.1,P.underlying (shQ (xO (xgo P n (d+50000) h c))).1,(P.info? (xEl P (shQ (xO (xgo P n (d+50000) h c))).1)).map (·.size))
   =(xgr P n (d+50000) h c,true,true,.slice A N cp,YI j,some (.slice (xEl P (shQ (xO (xgo P n (d+50000) h c))).1)),some sz):=by kernel_rfl):zB M P n W Q c:=by
 simp only [Prod.mk.injEq] at hkt
 obtain ⟨hk,e1,e2,e3,e4,e5,e6⟩:=hkt
 subst hA
 exact zM h c hk (x9 e1 (λw=>by rw [run_slhi (shQ_op e2) e3 e4 e5 e6 h0 h1 w,hv]) hg)
theorem x_joinF {α:Type}(fu:Fuel1)(lv:α->List (Nat×Value))(Lf:α->List Blk)(rel:α->Prop)(h:List Nat)(h1:Nj M P n W lv Lf rel->zB M P n W (JoinQ M n W (xJ lv Lf rel)) ⟨.code (xC (jP P n nS fu h c)),[],(jP P n nS fu h c).L,(jP P n nS fu h c).f⟩)
  (h2:∀ x g,rel x->zB M P n W Q ⟨.fin .normal,(jP P n nS fu h c).k,Lf x,nO g (lv x)⟩) (hkt:(xl P n nS fu h c,(jP P n nS fu h c).top)=(xr P n nS (tE fu) h c,.code (xC (jP P n nS fu h c))):=by kernel_rfl):zB M P n W Q c:=by
 obtain ⟨hk,e1⟩:=Prod.mk.inj hkt
 refine xrun_ok fu h c hk ?_
 generalize jP P n nS fu h c=d at*
 have:d=⟨.code (xC d),d.k,d.L,d.f⟩:=by rw [←e1]
 rw [this]
 refine ⟨λhq=>ok_join (xJ lv Lf rel) ((h1 λx' h c' hr hkt'=> ?_).go pq_join) λL f ⟨x,hr,hL,hA⟩=> ?_⟩
 ·simp only [Prod.mk.injEq] at hkt'
  obtain ⟨hk',f1,f2,f3,f4⟩:=hkt'
  refine zM h c' hk' ?_
  generalize xgo P n nS h c'=d' at*
  have:d'=⟨.fin .normal,[],d'.L,d'.f⟩:=by rw [←f1,←f2]
  rw [this]
  exact ⟨λ_=>fin_join ⟨x',hr,f3,vS f4⟩⟩
 ·subst hL
  rw [vG _ hA]
  exact (h2 x f hr).go hq
theorem x_slhm (d:Nat)(h:List Nat)(b N cp sz:Nat)(j m:Int)(hj:0<=j/\j<=m/\m<=cp)(v:Value)(hv: .slice (some ⟨b,0,none⟩) j.toNat m.toNat=v)(hg:zB M P n W Q ((xgo P n (d+50000) h c).put v))
  (hkt:(xgl P n (d+50000) h c,xW n (xgo P n (d+50000) h c),(skQ (xO (xgo P n (d+50000) h c))).2.2.2.2,ev n (xgo P n (d+50000) h c).f (skQ (xO (xgo P n (d+50000) h c))).2.1,ev n (xgo P n (d+50000) h c).f (skQ (xO (xgo P n (d+50000) h c))).2.2.1,ev n (xgo P n (d+50000) h c).f (skQ (xO (xgo P n (d+50000) h c))).2.2.2.1,P.underlying (skQ (xO (xgo P n (d+50000) h c))).1,(P.info? (xEl P (skQ (xO (xgo P n (d+50000) h c))).1)).map (·.size))
   =(xgr P n (d+50000) h c,true,true,.slice (some ⟨b,0,none⟩) N cp,YI j,YI m,some (.slice (xEl P (skQ (xO (xgo P n (d+50000) h c))).1)),some sz):=by kernel_rfl):zB M P n W Q c:=by
 simp only [Prod.mk.injEq] at hkt
 obtain ⟨hk,e1,e2,e3,e4,e5,e6,e7⟩:=hkt
 exact zM h c hk (x9 e1 (λw=>by rw [run_slhm (skQ_op e2) e3 e4 e5 e6 e7 hj.1 hj.2.1 hj.2.2 w,hv]) hg)
theorem x_appF {T:TypeId}{sz N cap m cp:Nat}(h:List Nat)(p q:Nat)(L1:List Blk)(hn:N*sz<=(gF L1 p).cs.size)(hroom:cap<N+m)(hN:N+m<=1000000)
  (hg:∀ v' ob',Sl T sz v' (N+m) ((gF L1 p).cs.toList.take (N*sz)++(gF L1 q).cs.toList) ob'->zB M P n W Q ⟨.ops (xA (xgo P n nS h c)) (xT (xgo P n nS h c)),(xgo P n nS h c).k,ob'++L1,upd (xgo P n nS h c).f (xO (xgo P n nS h c)).dst v'⟩)
  (hkt:(xgl P n nS h c,(xgo P n nS h c).L,(xgo P n nS h c).top,zT (xA (xgo P n nS h c)) n (xgo P n nS h c).f (xO (xgo P n nS h c)),(xO (xgo P n nS h c)).op,ev n (xgo P n nS h c).f (aX (xO (xgo P n nS h c)) 0),ev n (xgo P n nS h c).f (aX (xO (xgo P n nS h c)) 1),L1[p]?,L1[q]?,P.underlying (aT (xO (xgo P n nS h c))),aInfo P T,(gF L1 q).cs.toList.length)
   =(xgr P n nS h c,L1,.ops (xA (xgo P n nS h c)) (xO (xgo P n nS h c)::xT (xgo P n nS h c)),true,aOp (xO (xgo P n nS h c)),.slice (some ⟨(gF L1 p).b,0,none⟩) N cap,.slice (some ⟨(gF L1 q).b,0,none⟩) m cp,some (gF L1 p),some (gF L1 q),some (.slice T),some (true,sz,some sz),m*sz):=by kernel_rfl):zB M P n W Q c:=by
 simp only [Prod.mk.injEq] at hkt
 obtain ⟨hk,f1,e1,e3,e4,e5,e6,e7,e7',e8,e9,e10⟩:=hkt
 refine zM h c hk ?_
 generalize (xgo P n nS h c)=d at*
 have:d=⟨.ops (xA d) (xO d::xT d),d.k,L1,d.f⟩:=by rw [←e1,←f1]
 rw [this]
 obtain ⟨i,z,hi,hz,hsz,hzs,hby⟩:=fC e9
 refine ⟨λhq=>s_appendF e3 e4 e8 hi hz hsz hzs e5 (by rw [List.length_take,Array.length_toList];omega) (λw hO j u hj=> ?_) e6 e10 (λw hO j u hj=> ?_) hroom (by unfold maxLen;omega) (by have:=Nat.mul_le_mul hN hby;omega) λv' ob' h=>(hg v' ob' h).go hq⟩
 ·rw [List.getElem?_take] at hj
  split at hj
  ·rw [yI,cell_of_row w _ _ _ _ _ (hO.held _ (List.mem_of_getElem? e7)),Nat.zero_add]
   simpa using hj
  ·cases hj
 ·rw [yI,cell_of_row w _ _ _ _ _ (hO.held _ (List.mem_of_getElem? e7')),Nat.zero_add]
  simpa using hj
end
section
variable {M:List Nat}{n:Nat}{W:World}{Q:Exit->Act->World->Prop}{c:Xc}
end
end
end Go.Proofs.YtflhcaljcoekpaaGreatDoor
section
namespace Go.Proofs
open Go.Shelf
theorem YT {α:Type}{x:Option α}{a b:α}(h:x=some a)(e:a=b:=by kernel_rfl):x=some b:=h.trans (congrArg some e)
def Tryz.lays160_ren:Go.Shelf.Ren:=⟨fun|160=>279|232=>308|231=>307|227=>309|234=>311|233=>310|236=>313|235=>312|228=>336|271=>339|151=>338|197=>337|120=>355|152=>354|260=>353|137=>84|119=>361|224=>263|225=>262|217=>129|266=>175|n=>n,fun|9=>9|4=>4|3=>3|5=>5|117=>329|116=>328|0=>0|124=>332|21=>21|105=>345|46=>123|119=>355|139=>358|138=>357|n=>n,fun|3=>4|4=>5|n=>n⟩
theorem Tryz.lays160:Go.Proofs.Lays.n160 Tryz.prog Tryz.lays160_ren:={
 mixed:=by kernel_rfl
 f119:=YT Tryz.func361
 f120:=YT Tryz.func355
 f137:=YT Tryz.func84
 f151:=YT Tryz.func338
 f152:=YT Tryz.func354
 f160:=YT Tryz.func279
 f197:=YT Tryz.func337
 f217:=YT Tryz.func129
 f224:=YT Tryz.func263
 f225:=YT Tryz.func262
 f227:=YT Tryz.func309
 f228:=YT Tryz.func336
 f231:=YT Tryz.func307
 f232:=YT Tryz.func308
 f233:=YT Tryz.func310
 f234:=YT Tryz.func311
 f235:=YT Tryz.func312
 f236:=YT Tryz.func313
 f260:=YT Tryz.func353
 f266:=YT Tryz.func175
 f271:=YT Tryz.func339
 t0:=Tryz.underlying0
 a0:=Tryz.isAgg0
 z0:=Tryz.sizeOf0
 v0:=Tryz.zeroValue0
 t3:=Tryz.underlying3
 a3:=Tryz.isAgg3
 z3:=Tryz.sizeOf3
 v3:=Tryz.zeroValue3
 t4:=Tryz.underlying4
 a4:=Tryz.isAgg4
 z4:=Tryz.sizeOf4
 v4:=Tryz.zeroValue4
 t5:=Tryz.underlying5
 a5:=Tryz.isAgg5
 z5:=Tryz.sizeOf5
 v5:=Tryz.zeroValue5
 t9:=Tryz.underlying9
 a9:=Tryz.isAgg9
 z9:=Tryz.sizeOf9
 v9:=Tryz.zeroValue9
 t21:=Tryz.underlying21
 a21:=Tryz.isAgg21
 z21:=Tryz.sizeOf21
 v21:=Tryz.zeroValue21
 t46:=Tryz.underlying123
 a46:=Tryz.isAgg123
 z46:=Tryz.sizeOf123
 v46:=Tryz.zeroValue123
 t105:=Tryz.underlying345
 a105:=Tryz.isAgg345
 z105:=Tryz.sizeOf345
 v105:=Tryz.zeroValue345
 t116:=Tryz.underlying328
 a116:=Tryz.isAgg328
 z116:=Tryz.sizeOf328
 t117:=Tryz.underlying329
 a117:=Tryz.isAgg329
 z117:=Tryz.sizeOf329
 v117:=Tryz.zeroValue329
 t119:=Tryz.underlying355
 a119:=Tryz.isAgg355
 z119:=Tryz.sizeOf355
 t124:=Tryz.underlying332
 a124:=Tryz.isAgg332
 z124:=Tryz.sizeOf332
 v124:=Tryz.zeroValue332
 t138:=Tryz.underlying357
 a138:=Tryz.isAgg357
 z138:=Tryz.sizeOf357
 v138:=Tryz.zeroValue357
 t139:=Tryz.underlying358
 a139:=Tryz.isAgg358
 z139:=Tryz.sizeOf358
 v139:=Tryz.zeroValue358
 g3:=by kernel_rfl
 g4:=by kernel_rfl}
open Go.RowKit in
theorem Tryz.strings_Trim_one (s:ByteArray)(c:UInt8)(hc:c.toNat<128)(w:World)(hs:s.size<=9223372036854775807):
  Calls Tryz.prog 279 #[.string s,.string ⟨#[c]⟩] w λe w'=>e= .returned (.string ⟨(Lib.trimB s.data.toList c).toArray⟩)/\(w'=w\/w'=w.drew):=Any.strings_Trim_one Tryz.lays160 s c hc w hs
def Tryz.lays118_ren:Go.Shelf.Ren:=⟨fun|118=>226|n=>n,fun|21=>21|3=>3|4=>4|n=>n,fun|n=>n⟩
theorem Tryz.lays118:Go.Proofs.Lays.n118 Tryz.prog Tryz.lays118_ren:={
 mixed:=by kernel_rfl
 f118:=YT Tryz.func226
 t3:=Tryz.underlying3
 a3:=Tryz.isAgg3
 z3:=Tryz.sizeOf3
 v3:=Tryz.zeroValue3
 t4:=Tryz.underlying4
 a4:=Tryz.isAgg4
 z4:=Tryz.sizeOf4
 v4:=Tryz.zeroValue4
 t21:=Tryz.underlying21
 a21:=Tryz.isAgg21
 z21:=Tryz.sizeOf21
 v21:=Tryz.zeroValue21}
theorem Tryz.utf8_RuneLen (r:Int)(w:World):
  Calls Tryz.prog 226 #[.int .i32 r] w λe w'=>e= .returned (.int .i64 (Lib.runeLen r))/\w'=w:=Any.utf8_RuneLen Tryz.lays118 r w
def Tryz.lays125_ren:Go.Shelf.Ren:=⟨fun|125=>154|128=>203|129=>204|n=>n,fun|46=>123|3=>3|51=>231|53=>67|4=>4|5=>5|9=>9|n=>n,fun|n=>n⟩
theorem Tryz.lays125:Go.Proofs.Lays.n125 Tryz.prog Tryz.lays125_ren:={
 mixed:=by kernel_rfl
 f125:=YT Tryz.func154
 f128:=YT Tryz.func203
 f129:=YT Tryz.func204
 t3:=Tryz.underlying3
 a3:=Tryz.isAgg3
 z3:=Tryz.sizeOf3
 v3:=Tryz.zeroValue3
 t4:=Tryz.underlying4
 a4:=Tryz.isAgg4
 z4:=Tryz.sizeOf4
 v4:=Tryz.zeroValue4
 t5:=Tryz.underlying5
 a5:=Tryz.isAgg5
 z5:=Tryz.sizeOf5
 v5:=Tryz.zeroValue5
 t9:=Tryz.underlying9
 a9:=Tryz.isAgg9
 z9:=Tryz.sizeOf9
 v9:=Tryz.zeroValue9
 t46:=Tryz.underlying123
 a46:=Tryz.isAgg123
 z46:=Tryz.sizeOf123
 v46:=Tryz.zeroValue123
 t51:=Tryz.underlying231
 a51:=Tryz.isAgg231
 z51:=Tryz.sizeOf231
 v51:=Tryz.zeroValue231
 t53:=Tryz.underlying67
 a53:=Tryz.isAgg67
 z53:=Tryz.sizeOf67
 v53:=Tryz.zeroValue67}
theorem Tryz.bits_Len (x:Int)(w:World)(h0:0<=x)(h1:x<=18446744073709551615):
  Calls Tryz.prog 154 #[.int .u64 x] w λe w'=>e= .returned (.int .i64 (Lib.bitLen x.toNat))/\w'=w:=Any.bits_Len Tryz.lays125 x w h0 h1
def Tryz.lays106_ren:Go.Shelf.Ren:=⟨fun|106=>231|213=>272|265=>304|n=>n,fun|9=>9|3=>3|n=>n,fun|n=>n⟩
theorem Tryz.lays106:Go.Proofs.Lays.n106 Tryz.prog Tryz.lays106_ren:={
 mixed:=by kernel_rfl
 f106:=YT Tryz.func231
 f213:=YT Tryz.func272
 f265:=YT Tryz.func304
 t3:=Tryz.underlying3
 a3:=Tryz.isAgg3
 z3:=Tryz.sizeOf3
 v3:=Tryz.zeroValue3
 t9:=Tryz.underlying9
 a9:=Tryz.isAgg9
 z9:=Tryz.sizeOf9
 v9:=Tryz.zeroValue9}
open Go.RowKit in
theorem Tryz.strings_Compare (a b:ByteArray)(w:World):
  Calls Tryz.prog 231 #[.string a,.string b] w λe w'=>e= .returned (.int .i64 (Lib.compareBytes a.data.toList b.data.toList))/\w'=w:=Any.strings_Compare Tryz.lays106 a b w
def Tryz.lays103_ren:Go.Shelf.Ren:=⟨fun|103=>213|210=>252|206=>261|n=>n,fun|9=>9|4=>4|24=>90|3=>3|n=>n,fun|n=>n⟩
theorem Tryz.lays103:Go.Proofs.Lays.n103 Tryz.prog Tryz.lays103_ren:={
 mixed:=by kernel_rfl
 f103:=YT Tryz.func213
 f206:=YT Tryz.func261
 f210:=YT Tryz.func252
 t3:=Tryz.underlying3
 a3:=Tryz.isAgg3
 z3:=Tryz.sizeOf3
 v3:=Tryz.zeroValue3
 t4:=Tryz.underlying4
 a4:=Tryz.isAgg4
 z4:=Tryz.sizeOf4
 v4:=Tryz.zeroValue4
 t9:=Tryz.underlying9
 a9:=Tryz.isAgg9
 z9:=Tryz.sizeOf9
 v9:=Tryz.zeroValue9
 t24:=Tryz.underlying90
 a24:=Tryz.isAgg90
 z24:=Tryz.sizeOf90
 v24:=Tryz.zeroValue90}
open Go.RowKit in
theorem Tryz.strings_CutPrefix (s p:ByteArray)(w:World):
  Calls Tryz.prog 213 #[.string s,.string p] w λe w'=>e= .returned (.tuple #[.string ⟨(Lib.trimPrefix s.data.toList p.data.toList).toArray⟩,.bool (Lib.hasPrefix s.data.toList p.data.toList)])/\w'=w:=Any.strings_CutPrefix Tryz.lays103 s p w
def Tryz.lays122_ren:Go.Shelf.Ren:=⟨fun|122=>145|215=>189|n=>n,fun|3=>3|4=>4|n=>n,fun|n=>n⟩
theorem Tryz.lays122:Go.Proofs.Lays.n122 Tryz.prog Tryz.lays122_ren:={
 mixed:=by kernel_rfl
 f122:=YT Tryz.func145
 f215:=YT Tryz.func189
 t3:=Tryz.underlying3
 a3:=Tryz.isAgg3
 z3:=Tryz.sizeOf3
 v3:=Tryz.zeroValue3
 t4:=Tryz.underlying4
 a4:=Tryz.isAgg4
 z4:=Tryz.sizeOf4
 v4:=Tryz.zeroValue4}
open Go.RowKit in
theorem Tryz.cmp_Compare_int (x y:Int)(w:World):
  Calls Tryz.prog 145 #[.int .i64 x,.int .i64 y] w λe w'=>e= .returned (.int .i64 (Lib.compareInt x y))/\w'=w:=Any.cmp_Compare_int Tryz.lays122 x y w
def Tryz.laysM171_ren:Go.Shelf.Ren:=⟨fun|171=>215|243=>253|246=>288|283=>319|284=>320|285=>321|286=>322|129=>204|317=>342|318=>343|319=>344|320=>345|337=>358|338=>359|n=>n,fun|3=>3|9=>9|2=>2|4=>4|171=>333|0=>0|53=>67|37=>36|5=>5|173=>335|212=>350|51=>231|20=>20|213=>351|46=>123|232=>359|233=>360|n=>n,fun|17=>3|18=>6|19=>7|n=>n⟩
theorem Tryz.laysM171:Go.Proofs.LaysM.n171 Tryz.prog Tryz.laysM171_ren:={
 mixed:=by kernel_rfl
 f129:=YT Tryz.func204
 f171:=YT Tryz.func215
 f243:=YT Tryz.func253
 f246:=YT Tryz.func288
 f283:=YT Tryz.func319
 f284:=YT Tryz.func320
 f285:=YT Tryz.func321
 f286:=YT Tryz.func322
 f317:=YT Tryz.func342
 f318:=YT Tryz.func343
 f319:=YT Tryz.func344
 f320:=YT Tryz.func345
 f337:=YT Tryz.func358
 f338:=YT Tryz.func359
 t0:=Tryz.underlying0
 a0:=Tryz.isAgg0
 z0:=Tryz.sizeOf0
 v0:=Tryz.zeroValue0
 t2:=Tryz.underlying2
 a2:=Tryz.isAgg2
 z2:=Tryz.sizeOf2
 v2:=Tryz.zeroValue2
 t3:=Tryz.underlying3
 a3:=Tryz.isAgg3
 z3:=Tryz.sizeOf3
 v3:=Tryz.zeroValue3
 t4:=Tryz.underlying4
 a4:=Tryz.isAgg4
 z4:=Tryz.sizeOf4
 v4:=Tryz.zeroValue4
 t5:=Tryz.underlying5
 a5:=Tryz.isAgg5
 z5:=Tryz.sizeOf5
 v5:=Tryz.zeroValue5
 t9:=Tryz.underlying9
 a9:=Tryz.isAgg9
 z9:=Tryz.sizeOf9
 v9:=Tryz.zeroValue9
 t20:=Tryz.underlying20
 a20:=Tryz.isAgg20
 z20:=Tryz.sizeOf20
 v20:=Tryz.zeroValue20
 t37:=Tryz.underlying36
 a37:=Tryz.isAgg36
 z37:=Tryz.sizeOf36
 v37:=Tryz.zeroValue36
 t46:=Tryz.underlying123
 a46:=Tryz.isAgg123
 z46:=Tryz.sizeOf123
 v46:=Tryz.zeroValue123
 t51:=Tryz.underlying231
 a51:=Tryz.isAgg231
 z51:=Tryz.sizeOf231
 v51:=Tryz.zeroValue231
 t53:=Tryz.underlying67
 a53:=Tryz.isAgg67
 z53:=Tryz.sizeOf67
 v53:=Tryz.zeroValue67
 t171:=Tryz.underlying333
 a171:=Tryz.isAgg333
 z171:=Tryz.sizeOf333
 v171:=Tryz.zeroValue333
 t173:=Tryz.underlying335
 a173:=Tryz.isAgg335
 z173:=Tryz.sizeOf335
 v173:=Tryz.zeroValue335
 t212:=Tryz.underlying350
 a212:=Tryz.isAgg350
 z212:=Tryz.sizeOf350
 v212:=Tryz.zeroValue350
 t213:=Tryz.underlying351
 a213:=Tryz.isAgg351
 z213:=Tryz.sizeOf351
 t232:=Tryz.underlying359
 a232:=Tryz.isAgg359
 z232:=Tryz.sizeOf359
 v232:=Tryz.zeroValue359
 t233:=Tryz.underlying360
 a233:=Tryz.isAgg360
 z233:=Tryz.sizeOf360
 v233:=Tryz.zeroValue360
 g17:=by kernel_rfl
 g18:=by kernel_rfl
 g19:=by kernel_rfl
 i0:=by kernel_rfl
 i2:=by kernel_rfl
 i3:=by kernel_rfl
 i4:=by kernel_rfl
 i5:=by kernel_rfl
 i9:=by kernel_rfl
 i20:=by kernel_rfl
 i37:=by kernel_rfl
 i46:=by kernel_rfl
 i51:=by kernel_rfl
 i53:=by kernel_rfl
 i171:=by kernel_rfl
 i173:=by kernel_rfl
 i212:=by kernel_rfl
 i232:=by kernel_rfl
 i233:=by kernel_rfl
 m17:=by kernel_rfl
 m18:=by kernel_rfl
 m19:=by kernel_rfl}
open Go.RowKit Go.Sort Go.Lib in
theorem Tryz.strconv_Itoa (n : Int) (h0 : -9223372036854775808 ≤ n) (h1 : n ≤ 9223372036854775807) (w : World) (htab : Lib.TabIs Tryz.prog w "internal/strconv.uint64pow10" .u64 Lib.pow10Tab) :
  Calls Tryz.prog 215 #[.int .i64 n] w λe w'=>e= .returned (.string ⟨(Lib.itoa n).toArray⟩)∧∃ k os,w'=grow (w.drewN k) os:=Any.strconv_Itoa Tryz.laysM171 n h0 h1 w htab
def Tryz.lays219_ren:Go.Shelf.Ren:=⟨fun|219=>227|217=>129|225=>262|224=>263|267=>264|266=>175|314=>299|n=>n,fun|9=>9|3=>3|4=>4|5=>5|46=>123|146=>318|51=>231|n=>n,fun|1=>0|n=>n⟩
theorem Tryz.lays219:Go.Proofs.Lays.n219 Tryz.prog Tryz.lays219_ren:={
 mixed:=by kernel_rfl
 f217:=YT Tryz.func129
 f219:=YT Tryz.func227
 f224:=YT Tryz.func263
 f225:=YT Tryz.func262
 f266:=YT Tryz.func175
 f267:=YT Tryz.func264
 f314:=YT Tryz.func299
 t3:=Tryz.underlying3
 a3:=Tryz.isAgg3
 z3:=Tryz.sizeOf3
 v3:=Tryz.zeroValue3
 t4:=Tryz.underlying4
 a4:=Tryz.isAgg4
 z4:=Tryz.sizeOf4
 v4:=Tryz.zeroValue4
 t5:=Tryz.underlying5
 a5:=Tryz.isAgg5
 z5:=Tryz.sizeOf5
 v5:=Tryz.zeroValue5
 t9:=Tryz.underlying9
 a9:=Tryz.isAgg9
 z9:=Tryz.sizeOf9
 v9:=Tryz.zeroValue9
 t46:=Tryz.underlying123
 a46:=Tryz.isAgg123
 z46:=Tryz.sizeOf123
 v46:=Tryz.zeroValue123
 t51:=Tryz.underlying231
 a51:=Tryz.isAgg231
 z51:=Tryz.sizeOf231
 v51:=Tryz.zeroValue231
 t146:=Tryz.underlying318
 a146:=Tryz.isAgg318
 z146:=Tryz.sizeOf318
 v146:=Tryz.zeroValue318
 g1:=by kernel_rfl}
open Go.RowKit Go.Lib in
theorem Tryz.stringslite_Index_one (s:ByteArray)(c:UInt8)(w:World):
  Calls Tryz.prog 227 #[.string s,.string ⟨#[c]⟩] w λe w'=>e= .returned (.int .i64 (Lib.indexByte s.data.toList c))/\w'=w:=Any.stringslite_Index_one Tryz.lays219 s c w
def Tryz.lays143_ren:Go.Shelf.Ren:=⟨fun|143=>333|219=>227|217=>129|225=>262|224=>263|267=>264|266=>175|314=>299|n=>n,fun|9=>9|3=>3|4=>4|5=>5|46=>123|146=>318|51=>231|n=>n,fun|1=>0|n=>n⟩
theorem Tryz.lays143:Go.Proofs.Lays.n143 Tryz.prog Tryz.lays143_ren:={
 mixed:=by kernel_rfl
 f143:=YT Tryz.func333
 f217:=YT Tryz.func129
 f219:=YT Tryz.func227
 f224:=YT Tryz.func263
 f225:=YT Tryz.func262
 f266:=YT Tryz.func175
 f267:=YT Tryz.func264
 f314:=YT Tryz.func299
 t3:=Tryz.underlying3
 a3:=Tryz.isAgg3
 z3:=Tryz.sizeOf3
 v3:=Tryz.zeroValue3
 t4:=Tryz.underlying4
 a4:=Tryz.isAgg4
 z4:=Tryz.sizeOf4
 v4:=Tryz.zeroValue4
 t5:=Tryz.underlying5
 a5:=Tryz.isAgg5
 z5:=Tryz.sizeOf5
 v5:=Tryz.zeroValue5
 t9:=Tryz.underlying9
 a9:=Tryz.isAgg9
 z9:=Tryz.sizeOf9
 v9:=Tryz.zeroValue9
 t46:=Tryz.underlying123
 a46:=Tryz.isAgg123
 z46:=Tryz.sizeOf123
 v46:=Tryz.zeroValue123
 t51:=Tryz.underlying231
 a51:=Tryz.isAgg231
 z51:=Tryz.sizeOf231
 v51:=Tryz.zeroValue231
 t146:=Tryz.underlying318
 a146:=Tryz.isAgg318
 z146:=Tryz.sizeOf318
 v146:=Tryz.zeroValue318
 g1:=by kernel_rfl}
open Go.RowKit Go.Lib in
theorem Tryz.strings_Index_one (s:ByteArray)(c:UInt8)(w:World):
  Calls Tryz.prog 333 #[.string s,.string ⟨#[c]⟩] w λe w'=>e= .returned (.int .i64 (Lib.indexByte s.data.toList c))/\w'=w:=Any.strings_Index_one Tryz.lays143 s c w
def Tryz.lays138_ren:Go.Shelf.Ren:=⟨fun|138=>332|195=>351|218=>352|143=>333|219=>227|217=>129|225=>262|224=>263|267=>264|266=>175|314=>299|n=>n,fun|9=>9|3=>3|4=>4|5=>5|0=>0|46=>123|146=>318|51=>231|n=>n,fun|1=>0|n=>n⟩
theorem Tryz.lays138:Go.Proofs.Lays.n138 Tryz.prog Tryz.lays138_ren:={
 mixed:=by kernel_rfl
 f138:=YT Tryz.func332
 f143:=YT Tryz.func333
 f195:=YT Tryz.func351
 f217:=YT Tryz.func129
 f218:=YT Tryz.func352
 f219:=YT Tryz.func227
 f224:=YT Tryz.func263
 f225:=YT Tryz.func262
 f266:=YT Tryz.func175
 f267:=YT Tryz.func264
 f314:=YT Tryz.func299
 t0:=Tryz.underlying0
 a0:=Tryz.isAgg0
 z0:=Tryz.sizeOf0
 v0:=Tryz.zeroValue0
 t3:=Tryz.underlying3
 a3:=Tryz.isAgg3
 z3:=Tryz.sizeOf3
 v3:=Tryz.zeroValue3
 t4:=Tryz.underlying4
 a4:=Tryz.isAgg4
 z4:=Tryz.sizeOf4
 v4:=Tryz.zeroValue4
 t5:=Tryz.underlying5
 a5:=Tryz.isAgg5
 z5:=Tryz.sizeOf5
 v5:=Tryz.zeroValue5
 t9:=Tryz.underlying9
 a9:=Tryz.isAgg9
 z9:=Tryz.sizeOf9
 v9:=Tryz.zeroValue9
 t46:=Tryz.underlying123
 a46:=Tryz.isAgg123
 z46:=Tryz.sizeOf123
 v46:=Tryz.zeroValue123
 t51:=Tryz.underlying231
 a51:=Tryz.isAgg231
 z51:=Tryz.sizeOf231
 v51:=Tryz.zeroValue231
 t146:=Tryz.underlying318
 a146:=Tryz.isAgg318
 z146:=Tryz.sizeOf318
 v146:=Tryz.zeroValue318
 g1:=by kernel_rfl}
open Go.RowKit Go.Lib in
theorem Tryz.strings_Count_one (s:ByteArray)(c:UInt8)(w:World):
  Calls Tryz.prog 332 #[.string s,.string ⟨#[c]⟩] w λe w'=>e= .returned (.int .i64 (Lib.countByte s.data.toList c))/\w'=w:=Any.strings_Count_one Tryz.lays138 s c w
def Tryz.laysM143_ren:Go.Shelf.Ren:=⟨fun|143=>333|219=>227|217=>129|225=>262|224=>263|267=>264|266=>175|314=>299|n=>n,fun|9=>9|3=>3|4=>4|5=>5|46=>123|146=>318|51=>231|n=>n,fun|1=>0|n=>n⟩
theorem Tryz.laysM143:Go.Proofs.LaysM.n143 Tryz.prog Tryz.laysM143_ren:={
 mixed:=by kernel_rfl
 f143:=YT Tryz.func333
 f217:=YT Tryz.func129
 f219:=YT Tryz.func227
 f224:=YT Tryz.func263
 f225:=YT Tryz.func262
 f266:=YT Tryz.func175
 f267:=YT Tryz.func264
 f314:=YT Tryz.func299
 t3:=Tryz.underlying3
 a3:=Tryz.isAgg3
 z3:=Tryz.sizeOf3
 v3:=Tryz.zeroValue3
 t4:=Tryz.underlying4
 a4:=Tryz.isAgg4
 z4:=Tryz.sizeOf4
 v4:=Tryz.zeroValue4
 t5:=Tryz.underlying5
 a5:=Tryz.isAgg5
 z5:=Tryz.sizeOf5
 v5:=Tryz.zeroValue5
 t9:=Tryz.underlying9
 a9:=Tryz.isAgg9
 z9:=Tryz.sizeOf9
 v9:=Tryz.zeroValue9
 t46:=Tryz.underlying123
 a46:=Tryz.isAgg123
 z46:=Tryz.sizeOf123
 v46:=Tryz.zeroValue123
 t51:=Tryz.underlying231
 a51:=Tryz.isAgg231
 z51:=Tryz.sizeOf231
 v51:=Tryz.zeroValue231
 t146:=Tryz.underlying318
 a146:=Tryz.isAgg318
 z146:=Tryz.sizeOf318
 v146:=Tryz.zeroValue318
 g1:=by kernel_rfl
 i3:=by kernel_rfl
 i4:=by kernel_rfl
 i5:=by kernel_rfl
 i9:=by kernel_rfl
 i46:=by kernel_rfl
 i51:=by kernel_rfl
 i146:=by kernel_rfl
 m1:=by kernel_rfl
 s1_3:=λw h=>Go.Proofs.cell_of_shapedOpen_int (zero:= #[.int .i64 0]) (t:=3) h (of_decide_eq_true (by kernel_rfl)) (by kernel_rfl) rfl (by kernel_rfl) (by kernel_rfl) Tryz.underlying3}
def Tryz.lays99_ren:Go.Shelf.Ren:=⟨fun|99=>225|206=>261|n=>n,fun|9=>9|4=>4|3=>3|n=>n,fun|n=>n⟩
theorem Tryz.lays99:Go.Proofs.Lays.n99 Tryz.prog Tryz.lays99_ren:={
 mixed:=by kernel_rfl
 f99:=YT Tryz.func225
 f206:=YT Tryz.func261
 t3:=Tryz.underlying3
 a3:=Tryz.isAgg3
 z3:=Tryz.sizeOf3
 v3:=Tryz.zeroValue3
 t4:=Tryz.underlying4
 a4:=Tryz.isAgg4
 z4:=Tryz.sizeOf4
 v4:=Tryz.zeroValue4
 t9:=Tryz.underlying9
 a9:=Tryz.isAgg9
 z9:=Tryz.sizeOf9
 v9:=Tryz.zeroValue9}
open Go.RowKit Go.Lib in
theorem Tryz.strings_HasPrefix (s p:ByteArray)(w:World):
  Calls Tryz.prog 225 #[.string s,.string p] w λe w'=>e= .returned (.bool (Lib.hasPrefix s.data.toList p.data.toList))/\w'=w:=Any.strings_HasPrefix Tryz.lays99 s p w
def Tryz.lays221_ren:Go.Shelf.Ren:=⟨fun|221=>300|268=>331|138=>332|143=>333|195=>351|197=>337|218=>352|219=>227|260=>353|217=>129|225=>262|224=>263|267=>264|266=>175|314=>299|n=>n,fun|9=>9|3=>3|31=>85|4=>4|0=>0|105=>345|21=>21|5=>5|46=>123|119=>355|139=>358|138=>357|146=>318|51=>231|n=>n,fun|1=>0|3=>4|4=>5|n=>n⟩
theorem Tryz.lays221:Go.Proofs.Lays.n221 Tryz.prog Tryz.lays221_ren:={
 mixed:=by kernel_rfl
 f138:=YT Tryz.func332
 f143:=YT Tryz.func333
 f195:=YT Tryz.func351
 f197:=YT Tryz.func337
 f217:=YT Tryz.func129
 f218:=YT Tryz.func352
 f219:=YT Tryz.func227
 f221:=YT Tryz.func300
 f224:=YT Tryz.func263
 f225:=YT Tryz.func262
 f260:=YT Tryz.func353
 f266:=YT Tryz.func175
 f267:=YT Tryz.func264
 f268:=YT Tryz.func331
 f314:=YT Tryz.func299
 t0:=Tryz.underlying0
 a0:=Tryz.isAgg0
 z0:=Tryz.sizeOf0
 v0:=Tryz.zeroValue0
 t3:=Tryz.underlying3
 a3:=Tryz.isAgg3
 z3:=Tryz.sizeOf3
 v3:=Tryz.zeroValue3
 t4:=Tryz.underlying4
 a4:=Tryz.isAgg4
 z4:=Tryz.sizeOf4
 v4:=Tryz.zeroValue4
 t5:=Tryz.underlying5
 a5:=Tryz.isAgg5
 z5:=Tryz.sizeOf5
 v5:=Tryz.zeroValue5
 t9:=Tryz.underlying9
 a9:=Tryz.isAgg9
 z9:=Tryz.sizeOf9
 v9:=Tryz.zeroValue9
 t21:=Tryz.underlying21
 a21:=Tryz.isAgg21
 z21:=Tryz.sizeOf21
 v21:=Tryz.zeroValue21
 t31:=Tryz.underlying85
 a31:=Tryz.isAgg85
 z31:=Tryz.sizeOf85
 v31:=Tryz.zeroValue85
 t46:=Tryz.underlying123
 a46:=Tryz.isAgg123
 z46:=Tryz.sizeOf123
 v46:=Tryz.zeroValue123
 t51:=Tryz.underlying231
 a51:=Tryz.isAgg231
 z51:=Tryz.sizeOf231
 v51:=Tryz.zeroValue231
 t105:=Tryz.underlying345
 a105:=Tryz.isAgg345
 z105:=Tryz.sizeOf345
 v105:=Tryz.zeroValue345
 t119:=Tryz.underlying355
 a119:=Tryz.isAgg355
 z119:=Tryz.sizeOf355
 t138:=Tryz.underlying357
 a138:=Tryz.isAgg357
 z138:=Tryz.sizeOf357
 v138:=Tryz.zeroValue357
 t139:=Tryz.underlying358
 a139:=Tryz.isAgg358
 z139:=Tryz.sizeOf358
 v139:=Tryz.zeroValue358
 t146:=Tryz.underlying318
 a146:=Tryz.isAgg318
 z146:=Tryz.sizeOf318
 v146:=Tryz.zeroValue318
 g1:=by kernel_rfl
 g3:=by kernel_rfl
 g4:=by kernel_rfl}
def Tryz.lays146_ren:Go.Shelf.Ren:=⟨fun|146=>277|221=>300|268=>331|138=>332|143=>333|195=>351|197=>337|218=>352|219=>227|260=>353|217=>129|225=>262|224=>263|267=>264|266=>175|314=>299|n=>n,fun|9=>9|31=>85|3=>3|4=>4|0=>0|105=>345|21=>21|5=>5|46=>123|119=>355|139=>358|138=>357|146=>318|51=>231|n=>n,fun|1=>0|3=>4|4=>5|n=>n⟩
theorem Tryz.lays146:Go.Proofs.Lays.n146 Tryz.prog Tryz.lays146_ren:={
 mixed:=by kernel_rfl
 f138:=YT Tryz.func332
 f143:=YT Tryz.func333
 f146:=YT Tryz.func277
 f195:=YT Tryz.func351
 f197:=YT Tryz.func337
 f217:=YT Tryz.func129
 f218:=YT Tryz.func352
 f219:=YT Tryz.func227
 f221:=YT Tryz.func300
 f224:=YT Tryz.func263
 f225:=YT Tryz.func262
 f260:=YT Tryz.func353
 f266:=YT Tryz.func175
 f267:=YT Tryz.func264
 f268:=YT Tryz.func331
 f314:=YT Tryz.func299
 t0:=Tryz.underlying0
 a0:=Tryz.isAgg0
 z0:=Tryz.sizeOf0
 v0:=Tryz.zeroValue0
 t3:=Tryz.underlying3
 a3:=Tryz.isAgg3
 z3:=Tryz.sizeOf3
 v3:=Tryz.zeroValue3
 t4:=Tryz.underlying4
 a4:=Tryz.isAgg4
 z4:=Tryz.sizeOf4
 v4:=Tryz.zeroValue4
 t5:=Tryz.underlying5
 a5:=Tryz.isAgg5
 z5:=Tryz.sizeOf5
 v5:=Tryz.zeroValue5
 t9:=Tryz.underlying9
 a9:=Tryz.isAgg9
 z9:=Tryz.sizeOf9
 v9:=Tryz.zeroValue9
 t21:=Tryz.underlying21
 a21:=Tryz.isAgg21
 z21:=Tryz.sizeOf21
 v21:=Tryz.zeroValue21
 t31:=Tryz.underlying85
 a31:=Tryz.isAgg85
 z31:=Tryz.sizeOf85
 v31:=Tryz.zeroValue85
 t46:=Tryz.underlying123
 a46:=Tryz.isAgg123
 z46:=Tryz.sizeOf123
 v46:=Tryz.zeroValue123
 t51:=Tryz.underlying231
 a51:=Tryz.isAgg231
 z51:=Tryz.sizeOf231
 v51:=Tryz.zeroValue231
 t105:=Tryz.underlying345
 a105:=Tryz.isAgg345
 z105:=Tryz.sizeOf345
 v105:=Tryz.zeroValue345
 t119:=Tryz.underlying355
 a119:=Tryz.isAgg355
 z119:=Tryz.sizeOf355
 t138:=Tryz.underlying357
 a138:=Tryz.isAgg357
 z138:=Tryz.sizeOf357
 v138:=Tryz.zeroValue357
 t139:=Tryz.underlying358
 a139:=Tryz.isAgg358
 z139:=Tryz.sizeOf358
 v139:=Tryz.zeroValue358
 t146:=Tryz.underlying318
 a146:=Tryz.isAgg318
 z146:=Tryz.sizeOf318
 v146:=Tryz.zeroValue318
 g1:=by kernel_rfl
 g3:=by kernel_rfl
 g4:=by kernel_rfl}
open Go.RowKit Go.Lib in
theorem Tryz.strings_Split (s sep:ByteArray)(m:Int)(w:World)(hs:s.size<4294967281)(hm:w.cell? ⟨0,0,none⟩=some (.int .i64 m))(h1:1<=sep.size):
  Calls Tryz.prog 277 #[.string s,.string sep] w λe w'=>
   e= .returned (.slice (some ⟨w.heap.size,0,none⟩) (Lib.countB s sep+1) (Lib.countB s sep+1))/\w'=w.alloc (.cells ((Lib.splitB sep 0 (Lib.countB s sep) s).map Value.string).toArray 9):=Any.strings_Split Tryz.lays146 (by kernel_rfl) s sep m w hs hm h1
end Go.Proofs
end
namespace Go.Proofs.YtflhcaljcoekpaaGreatDoor
open Go.RowKit
section
theorem wP (c:UInt8)(l:YL):Lib.indexByte l c=Lib.index l [c]:=by
 induction l with
 |nil=>rfl
 |cons b r ih=>
  rw [Lib.indexByte,Lib.index,ih]
  by_cases h:b=c
  ·subst h;simp
  ·have e1:([c].isPrefixOf (b::r))=false:=by simp [List.isPrefixOf];exact λe=>h e.symm
   rw [e1];simp [h]
theorem cutB (s:YL)(c:UInt8):Lib.cut (mkS s).data.toList (⟨#[c]⟩:ByteArray).data.toList=zA c s:=tK c s
theorem scut_any (s:YL)(c:UInt8)(w:World)(hs:(mkS s).size<4294967281):
  YC 179 #[.string (mkS s),.string ⟨#[c]⟩] w λe w'=>e= .returned (.tuple #[.string (mkS (zA c s).1),.string (mkS (zA c s).2.1),.bool (zA c s).2.2])∧∃ n,w'=w.drewN n:=by
 have hc:=cutB s c
 rcases Lib.indexB_cases (mkS s) ⟨#[c]⟩ with hix|⟨i,hix,hroom⟩
 ·obtain ⟨e1,e2,e3⟩:=Lib.cutB_miss (mkS s) ⟨#[c]⟩ hix
  rw [hc] at e1 e2 e3
  rw [show mkS (zA c s).1=mkS s from e1,show mkS (zA c s).2.1=ByteArray.empty from e2,e3]
  have hixb:Lib.indexByte (mkS s).data.toList c= -1:=(wP c _).trans hix
  have H:=Lib.hid hixb
  clear hc e1 e2 e3 hix hixb
  go_enter Tryz.func179,Tryz.ntmps179
  go_wp2_with (go_at_call 227;refine (Tryz.stringslite_Index_one (mkS s) c _).mono ?_;rintro e w' ⟨rfl,rfl⟩;rw [H.out])
  go_ret3
  exact ⟨rfl,0,rfl⟩
 ·obtain ⟨e1,e2,e3⟩:=Lib.cutB_hit (mkS s) ⟨#[c]⟩ i hix
  rw [hc] at e1 e2 e3
  rw [show mkS (zA c s).1=_ from e1,show mkS (zA c s).2.1=_ from e2,e3]
  have hroom':i+1<=(mkS s).size:=hroom
  rw [show i+(⟨#[c]⟩:ByteArray).size=i+1 from rfl]
  have c1:(0:Int)≤↑i:=by omega
  have c2:(↑i:Int)≤↑(mkS s).size:=by omega
  have c3:(0:Int)≤↑i+1:=by omega
  have c4:(↑i+1:Int)≤↑(mkS s).size:=by omega
  have hixb:Lib.indexByte (mkS s).data.toList c=(i:Int):=(wP c _).trans hix
  have H:=Lib.hid hixb
  clear hc e1 e2 e3 hix hixb
  go_enter Tryz.func179,Tryz.ntmps179
  go_wp2_with (go_at_call 227;refine (Tryz.stringslite_Index_one (mkS s) c _).mono ?_;rintro e w' ⟨rfl,rfl⟩;rw [H.out])
  have mixed:Tryz.prog.follows .mixedOrders=true:=by kernel_rfl
  have hwr:IntKind.i64.wrap ((i:Int)+1)=(i:Int)+1:=IntWalk.i64_in _ Om
  have hnat:((i:Int)+1).toNat=i+1:=by omega
  go_region_o
  go_wp2
  go_ret3
  exact ⟨rfl,1,rfl⟩
theorem cut_any (s:YL)(c:UInt8)(w:World)(hs:s.length<4294967281):
  YC 132 #[.string (mkS s),.string ⟨#[c]⟩] w λe w'=>e= .returned (.tuple #[.string (mkS (zA c s).1),.string (mkS (zA c s).2.1),.bool (zA c s).2.2])∧∃ n,w'=w.drewN n:=by
 have hs':(mkS s).size<4294967281:=by unfold mkS;simpa [ByteArray.size] using hs
 go_enter Tryz.func132,Tryz.ntmps132
 go_wp2_with (go_at_call 179;refine (scut_any s c _ hs').mono ?_;rintro e w' ⟨rfl,n,rfl⟩)
 go_ret3
 exact ⟨rfl,n,rfl⟩
theorem cutb_any (s:YL)(c:UInt8)(w:World)(hs:s.length<4294967281):
  YC 132 #[.string (mkS s),.string ⟨#[c]⟩] w (YR (.tuple #[.string (mkS (zA c s).1),.string (mkS (zA c s).2.1),.bool (zA c s).2.2]) w):=
 (cut_any s c w hs).mono λ_ _ ⟨he,n,hw⟩=>⟨he,by rw [hw];exact below_drewN (Below.refl _ _) n⟩
end
section
theorem kP {a b:Int}{p q:Bool}(h:a=b)(h2:p=q):Ending.returned (.tuple #[YI a,.bool p])= .returned (.tuple #[YI b,.bool q]):=by rw [h,h2]
theorem kG {s:ByteArray}(h:yO 0 true s.data.toList=none):numV s=0:=by unfold numV numB;rw [h];rfl
theorem xR {s:ByteArray}(h:yO 0 true s.data.toList=none):pA s=false:=by unfold pA numB;rw [h];rfl
theorem t6 {s:ByteArray}{n:Nat}(h:yO 0 true s.data.toList=some n):numV s=n:=by unfold numV numB;rw [h];rfl
theorem mZ {s:ByteArray}{n:Nat}(h:yO 0 true s.data.toList=some n):pA s=true:=by unfold pA numB;rw [h];rfl
theorem n9 {n:Nat}(h:yH n=true):48<=n/\n<=57:=by unfold yH at h;simp at h;omega
theorem number_any (s:ByteArray)(w:World)(hs:s.size<=maxLen):
  YC 187 #[.string s] w (YR (.tuple #[YI (numV s),.bool (pA s)]) w):=by
 unfold maxLen at hs
 go_enter Tryz.func187,Tryz.ntmps187
 go_wp2
 go_loopw [4] (λv wr=>∃ (pos n:Nat),wr=w.iter s pos/\pos<=s.size/\n<=9999/\v=YI n/\Hid (pos=0->n=0)/\Hid (yO n (decide (pos=0)) (s.data.toList.drop pos)=yO 0 true s.data.toList)) (λ_ wr=>s.size-wr.iterPos w.heap.size)
 case atStart=>exact ⟨0,0,rfl,Nat.zero_le _,by omega,rfl,λ_=>rfl,rfl⟩
 case round=>
  obtain ⟨pos,n,rfl,hple,hn,rfl,HZ,HR⟩:=hrel
  by_cases hp:pos<s.size
  ·have HD:=Lib.hid (kB s pos hp)
   by_cases ha:(s[pos]'hp).toNat<128
   ·have hnx:∀ ty,(Instr.next (.pointer (some ⟨w.heap.size,0,none⟩)) true ty).run YP (w.iter s pos)=_:=λty=>run_next_ascii w s pos ty hp ha
    by_cases hd:yH (s[pos]'hp).toNat=true
    ·have HG:=Lib.hid hd
     obtain ⟨hlo,hhi⟩:=n9 hd
     clear hd
     by_cases h0:pos=0
     ·subst h0
      by_cases h3:n*10+((s[0]'hp).toNat-48)<=9999
      ·have h3i:(n:Int)*10+(((s[0]'hp).toNat:Int) -48)<=9999:=by omega
       go_wp2_with (go_at_call 109;refine (xG _ true HG.out _).mono ?_;rintro e w' ⟨rfl,rfl⟩)
       go_roundw
       case rel=>exact ⟨0+1,n*10+((s[0]'hp).toNat-48),rfl,by omega,h3,by go_num,λh=>by omega,by rw [←HR.out,HD.out,bD _ _ _ _ HG.out (by simp) h3];rfl⟩
       case measure=>simp;omega
      ·have h3i:9999<(n:Int)*10+(((s[0]'hp).toNat:Int) -48):=by omega
       go_wp2_with (go_at_call 109;refine (xG _ true HG.out _).mono ?_;rintro e w' ⟨rfl,rfl⟩)
       go_ret2
       have HN:yO 0 true s.data.toList=none:=by rw [←HR.out,HD.out,fK _ _ _ _ h3]
       exact ⟨kP (kG HN).symm (xR HN).symm,zV _ _ _⟩
     ·have hpos:0<pos:=by omega
      by_cases hz:n=0
      ·have hzb:((n:Int)==0)=true:=by simp [hz]
       have HZ2:=Lib.hid hz
       clear hz
       go_wp2_with (go_at_call 109;refine (xG _ true HG.out _).mono ?_;rintro e w' ⟨rfl,rfl⟩)
       go_ret2
       have HN:yO 0 true s.data.toList=none:=by rw [←HR.out,HD.out,HZ2.out,decide_eq_false Om,n5]
       exact ⟨kP (kG HN).symm (xR HN).symm,zV _ _ _⟩
      ·have hzb:((n:Int)==0)=false:=by simpa using hz
       by_cases h3:n*10+((s[pos]'hp).toNat-48)<=9999
       ·have h3i:(n:Int)*10+(((s[pos]'hp).toNat:Int) -48)<=9999:=by omega
        go_wp2_with (go_at_call 109;refine (xG _ true HG.out _).mono ?_;rintro e w' ⟨rfl,rfl⟩)
        go_roundw
        case rel=>exact ⟨pos+1,n*10+((s[pos]'hp).toNat-48),rfl,by omega,h3,by go_num,λh=>by omega,by rw [←HR.out,HD.out,bD _ _ _ _ HG.out (λh=>hz h.2) h3];rfl⟩
        case measure=>simp;omega
       ·have h3i:9999<(n:Int)*10+(((s[pos]'hp).toNat:Int) -48):=by omega
        go_wp2_with (go_at_call 109;refine (xG _ true HG.out _).mono ?_;rintro e w' ⟨rfl,rfl⟩)
        go_ret2
        have HN:yO 0 true s.data.toList=none:=by rw [←HR.out,HD.out,fK _ _ _ _ h3]
        exact ⟨kP (kG HN).symm (xR HN).symm,zV _ _ _⟩
    ·have HG:=Lib.hid (Bool.eq_false_iff.2 hd)
     clear hd
     go_wp2_with (go_at_call 109;refine (xG _ false HG.out _).mono ?_;rintro e w' ⟨rfl,rfl⟩)
     go_ret2
     have HN:yO 0 true s.data.toList=none:=by rw [←HR.out,HD.out,jO _ _ _ _ HG.out]
     exact ⟨kP (kG HN).symm (xR HN).symm,zV _ _ _⟩
   ·have hnx:∀ ty,(Instr.next (.pointer (some ⟨w.heap.size,0,none⟩)) true ty).run YP (w.iter s pos)=_:=λty=>run_next_any w s pos ty hp
    have hhi:=(decode_high s pos hp Om).1
    have HG:=Lib.hid (fS _ hhi)
    go_wp2_with (go_at_call 109;refine (xG _ false HG.out _).mono ?_;rintro e w' ⟨rfl,rfl⟩)
    go_ret2
    have HN:yO 0 true s.data.toList=none:=by rw [←HR.out,HD.out,jO _ _ _ _ (dZ _ Om)]
    exact ⟨kP (kG HN).symm (xR HN).symm,zV _ _ _⟩
  ·have hnx:∀ ty,(Instr.next (.pointer (some ⟨w.heap.size,0,none⟩)) true ty).run YP (w.iter s pos)=_:=λty=>run_next_end w s pos ty hp
   have HD:=Lib.hid (gM s pos hp)
   by_cases he:s.size=0
   ·have hes:s=⟨#[]⟩:=by
     apply ByteArray.ext
     exact Array.eq_empty_of_size_eq_zero he
    subst hes
    obtain rfl:n=0:=HZ.out (Nat.le_zero.1 hple)
    go_wp2
    go_ret2
    exact ⟨kP (by decide) (by decide),zV _ _ _⟩
   ·have hse:(!s.toList.isEmpty)=true:=by
     rw [Lib.toList_data,Bool.not_eq_true',List.isEmpty_eq_false_iff];intro h;apply he;have:=congrArg List.length h;simpa using this
    have HSE:=Lib.hid hse
    clear hse
    go_wp2
    go_ret2
    have HN:yO 0 true s.data.toList=some n:=by rw [←HR.out,HD.out,decide_eq_false Om,yO];rfl
    exact ⟨kP (t6 HN).symm (HSE.out.trans (mZ HN).symm),zV _ _ _⟩
theorem foldV_snoc (l:YL)(c:UInt8)(n:Nat):gD n (l++[c])=gD n l*10+(c.toNat-48):=by rw [pI];rfl
theorem fD (s:ByteArray)(k:Nat)(h:k<s.size):s.data.toList.take (k+1)=s.data.toList.take k++[s[k]]:=by
 rw [List.take_succ_eq_append_getElem (by simpa using h)];rfl
theorem allDig_snoc (l:YL)(c:UInt8):y6 (l++[c])=(y6 l && yH c.toNat):=by rw [wR];unfold y6;rw [List.all_cons,List.all_nil,Bool.and_true]
theorem allDig_bad (s:ByteArray)(k:Nat)(h:k<s.size)(hd:yH s[k].toNat=false):y6 s.data.toList=false:=by
 have e:s.data.toList=s.data.toList.take k++s[k]::s.data.toList.drop (k+1):=by rw [←kB s k h,List.take_append_drop]
 rw [e,wR]
 have:y6 (s[k]::s.data.toList.drop (k+1))=false:=by unfold y6;rw [List.all_cons,hd];rfl
 rw [this,Bool.and_false]
theorem q7 (s:ByteArray):s.data.toList.length=s.size:=by simp
theorem head_data (s:ByteArray)(h:0<s.size):s.data.toList.head?=some s[0]:=by
 have:=kB s 0 h
 rw [List.drop_zero] at this
 rw [this];rfl
theorem ten_le {k:Nat}(h:k<=8):10^k<=100000000:=Nat.pow_le_pow_right Om h
theorem rnumber_any (s:ByteArray)(w:World)(hs:s.size<=maxLen):
  YC 206 #[.string s] w λe w'=>e= .returned (.tuple #[YI (numV s),.bool (pA s)])/\w=w':=by
 unfold maxLen at hs
 have HREF:=Lib.hid (numGo_ref s.data.toList)
 by_cases h0:s.size<1
 ·have HN:yO 0 true s.data.toList=none:=by rw [HREF.out,t7,if_pos (Or.inl (by rw [q7];exact h0))]
  have HV:=Lib.hid (kG HN)
  have HO:=Lib.hid (xR HN)
  clear HN
  go_enter Tryz.func206,Tryz.ntmps206
  go_wp2
  go_ret2
  exact ⟨kP HV.out.symm HO.out.symm,rfl⟩
 ·have hp0:0<s.size:=by omega
  by_cases h9:s.size<=9
  ·by_cases hz:1<s.size/\(s[0].toNat:Int)=48
   ·have HN:yO 0 true s.data.toList=none:=by
     rw [HREF.out,t7,if_pos (Or.inr (Or.inr ⟨by rw [q7];exact hz.1,by rw [head_data s hp0,show s[0]=48 from UInt8.toNat_inj.1 (by have:=hz.2;show s[0].toNat=48;omega)]⟩))]
    have HV:=Lib.hid (kG HN)
    have HO:=Lib.hid (xR HN)
    clear HN
    have hb:((s[0].toNat:Int)==48)=true:=by simp [hz.2]
    have h1:1<s.size:=hz.1
    clear hz
    go_enter Tryz.func206,Tryz.ntmps206
    go_wp2
    go_ret2
    exact ⟨kP HV.out.symm HO.out.symm,rfl⟩
   ·have HN:Hid (yO 0 true s.data.toList=if y6 s.data.toList=true/\gD 0 s.data.toList<=9999 then some (gD 0 s.data.toList) else none):=by
     show _=_
     rw [HREF.out,t7,if_neg]
     rintro (h|h|h)
     ·rw [q7] at h;omega
     ·rw [q7] at h;omega
     ·rw [q7,head_data s hp0] at h
      refine hz ⟨h.1, ?_⟩
      have:=Option.some.inj h.2
      rw [this];rfl
    have hb:1<s.size->((s[0].toNat:Int)==48)=false:=λh=>qA (λe=>hz ⟨h,e⟩)
    clear hz
    by_cases h1:1<s.size
    ·have hb1:=hb h1
     clear hb
     go_enter Tryz.func206,Tryz.ntmps206
     go_wp2
     go_loop [4,5] (λv i=>∃ k n:Nat,k<=s.size/\v=YI n/\i=YI k/\Hid (n<10^k)/\Hid (n=gD 0 (s.data.toList.take k))/\Hid (y6 (s.data.toList.take k)=true)) (λ_ i=>s.size-(intOf i).toNat)
     case atStart=>exact ⟨0,0,Nat.zero_le _,rfl,rfl,by show 0<10^0;omega,rfl,rfl⟩
     case round=>
      obtain ⟨k,n,hk,rfl,rfl,HP,HF,HA⟩:=hrel
      by_cases hp:k<s.size
      ·by_cases hd:yH s[k].toNat=true
       ·have HG:=Lib.hid hd
        obtain ⟨hlo,hhi⟩:=n9 hd
        clear hd
        have hn8:n<=100000000:=Nat.le_of_lt (Nat.lt_of_lt_of_le HP.out (ten_le Om))
        go_wp2_with (go_at_call 121;refine (qO _ true HG.out _).mono ?_;rintro e w' ⟨rfl,rfl⟩)
        go_round
        case rel=>
         refine ⟨k+1,n*10+(s[k].toNat-48),by omega,by go_num,by go_num, ?_, ?_, ?_⟩
         ·have:=HP.out
          show _<10^(k+1)
          rw [Nat.pow_succ];omega
         ·show _=_
          rw [fD s k hp,foldV_snoc,←HF.out]
         ·show _=_
          rw [fD s k hp,allDig_snoc,HA.out,HG.out];rfl
        case measure=>simp [intOf];omega
       ·have HG:=Lib.hid (Bool.eq_false_iff.2 hd)
        clear hd
        go_wp2_with (go_at_call 121;refine (qO _ false HG.out _).mono ?_;rintro e w' ⟨rfl,rfl⟩)
        go_ret2
        have HM:yO 0 true s.data.toList=none:=by rw [HN.out,allDig_bad s k hp HG.out];simp
        exact ⟨kP (kG HM).symm (xR HM).symm,rfl⟩
      ·have HT:Hid (s.data.toList.take k=s.data.toList):=List.take_of_length_le (by rw [q7];omega)
       by_cases h4:n<=9999
       ·go_wp2
        go_ret2
        have HM:yO 0 true s.data.toList=some n:=by
         have e1:=HF.out
         have e2:=HA.out
         rw [HT.out] at e1 e2
         rw [HN.out,e2,←e1,if_pos ⟨rfl,h4⟩]
        exact ⟨kP (t6 HM).symm (mZ HM).symm,rfl⟩
       ·go_wp2
        go_ret2
        have HM:yO 0 true s.data.toList=none:=by
         have e1:=HF.out
         rw [HT.out] at e1
         rw [HN.out,←e1,if_neg (λh=>h4 h.2)]
        exact ⟨kP (kG HM).symm (xR HM).symm,rfl⟩
    ·clear hb
     go_enter Tryz.func206,Tryz.ntmps206
     go_wp2
     go_loop [4,5] (λv i=>∃ k n:Nat,k<=s.size/\v=YI n/\i=YI k/\Hid (n<10^k)/\Hid (n=gD 0 (s.data.toList.take k))/\Hid (y6 (s.data.toList.take k)=true)) (λ_ i=>s.size-(intOf i).toNat)
     case atStart=>exact ⟨0,0,Nat.zero_le _,rfl,rfl,by show 0<10^0;omega,rfl,rfl⟩
     case round=>
      obtain ⟨k,n,hk,rfl,rfl,HP,HF,HA⟩:=hrel
      by_cases hp:k<s.size
      ·by_cases hd:yH s[k].toNat=true
       ·have HG:=Lib.hid hd
        obtain ⟨hlo,hhi⟩:=n9 hd
        clear hd
        have hn8:n<=100000000:=Nat.le_of_lt (Nat.lt_of_lt_of_le HP.out (ten_le Om))
        go_wp2_with (go_at_call 121;refine (qO _ true HG.out _).mono ?_;rintro e w' ⟨rfl,rfl⟩)
        go_round
        case rel=>
         refine ⟨k+1,n*10+(s[k].toNat-48),by omega,by go_num,by go_num, ?_, ?_, ?_⟩
         ·have:=HP.out
          show _<10^(k+1)
          rw [Nat.pow_succ];omega
         ·show _=_
          rw [fD s k hp,foldV_snoc,←HF.out]
         ·show _=_
          rw [fD s k hp,allDig_snoc,HA.out,HG.out];rfl
        case measure=>simp [intOf];omega
       ·have HG:=Lib.hid (Bool.eq_false_iff.2 hd)
        clear hd
        go_wp2_with (go_at_call 121;refine (qO _ false HG.out _).mono ?_;rintro e w' ⟨rfl,rfl⟩)
        go_ret2
        have HM:yO 0 true s.data.toList=none:=by rw [HN.out,allDig_bad s k hp HG.out];simp
        exact ⟨kP (kG HM).symm (xR HM).symm,rfl⟩
      ·have HT:Hid (s.data.toList.take k=s.data.toList):=List.take_of_length_le (by rw [q7];omega)
       by_cases h4:n<=9999
       ·go_wp2
        go_ret2
        have HM:yO 0 true s.data.toList=some n:=by
         have e1:=HF.out
         have e2:=HA.out
         rw [HT.out] at e1 e2
         rw [HN.out,e2,←e1,if_pos ⟨rfl,h4⟩]
        exact ⟨kP (t6 HM).symm (mZ HM).symm,rfl⟩
       ·go_wp2
        go_ret2
        have HM:yO 0 true s.data.toList=none:=by
         have e1:=HF.out
         rw [HT.out] at e1
         rw [HN.out,←e1,if_neg (λh=>h4 h.2)]
        exact ⟨kP (kG HM).symm (xR HM).symm,rfl⟩
  ·have HN:yO 0 true s.data.toList=none:=by rw [HREF.out,t7,if_pos (Or.inr (Or.inl (by rw [q7];omega)))]
   have HV:=Lib.hid (kG HN)
   have HO:=Lib.hid (xR HN)
   clear HN
   go_enter Tryz.func206,Tryz.ntmps206
   go_wp2
   go_ret2
   exact ⟨kP HV.out.symm HO.out.symm,rfl⟩
end
section
theorem gR (r:Int)(b:Bool)(hb:yH r=b)(w:World):
  YC 186 #[.int .i32 r] w λe w'=>e= .returned (.bool b)/\w=w':=by
 subst hb
 unfold yH
 go_enter Tryz.func186,Tryz.ntmps186
 go_wp2
 all_goals go_ret
 all_goals exact ⟨zQ (by simp;try omega),rfl⟩
theorem fB (c:UInt8)(r:YL)(h:yH c.toNat=true):y6 (c::r)=y6 r:=by unfold y6;rw [List.all_cons,h,Bool.true_and]
theorem qG (c:UInt8)(r:YL)(h:yH c.toNat=false):y6 (c::r)=false:=by unfold y6;rw [List.all_cons,h,Bool.false_and]
theorem vnumeric_any (s:ByteArray)(w:World)(_hs:s.size<=maxLen):
  YC 188 #[.string s] w (YR (.bool (yY s.data.toList)) w):=by
 go_enter Tryz.func188,Tryz.ntmps188
 go_wp2
 go_loopw [] (λwr=>∃ (pos:Nat),wr=w.iter s pos/\pos<=s.size/\Hid (y6 (s.data.toList.drop pos)=y6 s.data.toList)) (λwr=>s.size-wr.iterPos w.heap.size)
 case atStart=>exact ⟨0,rfl,Nat.zero_le _,rfl⟩
 case round=>
  obtain ⟨pos,rfl,hple,HR⟩:=hrel
  by_cases hp:pos<s.size
  ·have HD:=Lib.hid (kB s pos hp)
   by_cases ha:(s[pos]'hp).toNat<128
   ·have hnx:∀ ty,(Instr.next (.pointer (some ⟨w.heap.size,0,none⟩)) true ty).run YP (w.iter s pos)=_:=λty=>run_next_ascii w s pos ty hp ha
    by_cases hd:yH (s[pos]'hp).toNat=true
    ·have HG:=Lib.hid hd
     clear hd
     go_wp2_with (go_at_call 186;refine (gR _ true HG.out _).mono ?_;rintro e w' ⟨rfl,rfl⟩)
     go_roundw
     case rel=>exact ⟨pos+1,rfl,by omega,by rw [←HR.out,HD.out,fB _ _ HG.out];rfl⟩
     case measure=>simp;omega
    ·have HG:=Lib.hid (Bool.eq_false_iff.2 hd)
     clear hd
     go_wp2_with (go_at_call 186;refine (gR _ false HG.out _).mono ?_;rintro e w' ⟨rfl,rfl⟩)
     go_ret
     exact ⟨zQ (by unfold yY;rw [←HR.out,HD.out,qG _ _ HG.out,Bool.and_false]),zV _ _ _⟩
   ·have hnx:∀ ty,(Instr.next (.pointer (some ⟨w.heap.size,0,none⟩)) true ty).run YP (w.iter s pos)=_:=λty=>run_next_any w s pos ty hp
    have hhi:=(decode_high s pos hp Om).1
    have HG:=Lib.hid (fS _ hhi)
    go_wp2_with (go_at_call 186;refine (gR _ false HG.out _).mono ?_;rintro e w' ⟨rfl,rfl⟩)
    go_ret
    exact ⟨zQ (by unfold yY;rw [←HR.out,HD.out,qG _ _ (dZ _ Om),Bool.and_false]),zV _ _ _⟩
  ·have hnx:∀ ty,(Instr.next (.pointer (some ⟨w.heap.size,0,none⟩)) true ty).run YP (w.iter s pos)=_:=λty=>run_next_end w s pos ty hp
   have HD:=Lib.hid (gM s pos hp)
   go_wp2
   go_ret
   exact ⟨zQ (by unfold yY;rw [←HR.out,HD.out];simp [y6,Lib.toList_data]),zV _ _ _⟩
theorem tagC_dig (c:UInt8)(h:yH c.toNat=true):jR c=true:=by unfold jR;rw [h];simp
theorem tagC_let (c:UInt8)(h:kM c.toNat=true):jR c=true:=by unfold jR;rw [h];simp
theorem tagC_dash (c:UInt8)(h:(c.toNat:Int)=45):jR c=true:=by unfold jR;rw [decide_eq_true h];simp
theorem tagC_bad (c:UInt8)(h1:yH c.toNat=false)(h2:kM c.toNat=false)(h3:¬ (c.toNat:Int)=45):jR c=false:=by unfold jR;rw [h1,h2,decide_eq_false h3];rfl
theorem all_ok (c:UInt8)(r:YL)(h:jR c=true):(c::r).all jR=r.all jR:=by rw [List.all_cons,h,Bool.true_and]
theorem all_bad (c:UInt8)(r:YL)(h:jR c=false):(c::r).all jR=false:=by rw [List.all_cons,h,Bool.false_and]
def k8 (l:List YL):Array Value:= #[.string (mkS (tg l 0)),.string (mkS (tg l 1)),.string (mkS (tg l 2)),.string (mkS (tg l 3))]
theorem tagOk_short {t:YL}(h:t=[]):kK t=false:=by subst h;decide
theorem tagOk_long {t:YL}(h:8<t.length):kK t=false:=by
 unfold kK;rw [decide_eq_false Om];rfl
theorem tagOk_mid {t:YL}(h:t≠[])(h2:t.length<=8):kK t=t.all jR:=by
 unfold kK
 have:1<=t.length:=by cases t<;>simp at h ⊢
 rw [decide_eq_true ⟨this,h2⟩,Bool.true_and]
theorem lcells_snoc (acc:List YL)(x:YL)(k:Nat)(hk:acc.length=k)(h4:k<4):(k8 acc).setIfInBounds k (.string (mkS x))=k8 (acc++[x]):=by
 subst hk
 match acc,h4 with
 | [],_=>rfl
 | [a],_=>rfl
 | [a,b],_=>rfl
 | [a,b,c],_=>rfl
def LRel (s:YL)(w:World)(g:Nat)(s0 s5 s6:Value)(wr:World):Prop:=
 ∃ (acc:List YL) (r:YL) (k:Nat) (b:Bool),k+g=4/\s0= .string (mkS r)/\s5= .bool b/\s6=YI k/\r.length<=s.length∧
  wr.heap[w.heap.size]?=some (.cells (k8 []) 185)/\wr.heap[w.heap.size+1]?=some (.cells (k8 acc) 185)/\YB w wr∧
  (b=true->lst s=(acc,true))/\(b=false->acc.length=k/\lst s=(acc++(gN (4-k) r).1,(gN (4-k) r).2))
theorem bI (w:World)(o:Obj):(w.alloc o).heap[w.heap.size]?=some o:=by
 show (w.heap.push o)[w.heap.size]?=some o
 simp
theorem heap_at (w:World)(o:Obj)(k:Nat)(h:k=w.heap.size):(w.alloc o).heap[k]?=some o:=by subst h;exact bI w o
theorem heap_old (w:World)(o:Obj){k:Nat}(h:k<w.heap.size):(w.alloc o).heap[k]?=w.heap[k]?:=by
 show (w.heap.push o)[k]?=_
 rw [Array.getElem?_push,if_neg Om]
theorem kI (w:World)(s:ByteArray)(pos:Nat){k:Nat}(h:k<w.heap.size):(w.iter s pos).heap[k]?=w.heap[k]?:=heap_old w _ h
theorem g8 {w:World}{g j:Nat}{cs:Array Value}{t:TypeId}(hg:w.heap[g]?=some (.cells cs t (0,0)))(hj:j<cs.size):w.cell? ⟨g,j,none⟩=some cs[j]/\w.frozen? ⟨g,j,none⟩=false:=by
 refine ⟨by rw [cell_of_row w g j cs t (0,0) hg];simp [hj],by simp [World.frozen?,hg]⟩
theorem pO {B g:Nat}{a w:World}(h:Below B a w)(hg:B<=g)(cs:Array Value):Below B a (w.setRow g cs):=by
 refine ⟨h.os,h.tape,h.output, ?_,h.drawn,λk hk=> ?_⟩
 ·have:=h.size;unfold World.setRow;simpa using this
 ·rw [←h.block k hk]
  unfold World.setRow
  have:g≠k:=by omega
  simp [Array.getElem?_modify,this]
theorem setRow_apart (w:World)(g k:Nat)(cs:Array Value)(h:g≠k):(w.setRow g cs).heap[k]?=w.heap[k]?:=by
 unfold World.setRow
 simp [Array.getElem?_modify,h]
theorem lcells_size (l:List YL):(k8 l).size=4:=rfl
theorem qL (l:List YL):(k8 l).all (·.oneCell')=true:=by simp [k8,Value.oneCell']
def LEnd (s:YL)(w:World)(e:Ending)(w':World):Prop:=e= .returned (.tuple #[.agg (k8 (lst s).1),.bool (lst s).2])/\YB w w'
theorem vK {s:YL}{w wr:World}{acc:List YL}{b:Bool}{tmps:Array Value}(h2:tmps.getD 2 undef= .pointer (some ⟨w.heap.size,0,none⟩))(h3:tmps.getD 3 undef= .bool b)
  (hg:wr.heap[w.heap.size]?=some (.cells (k8 []) 185)) (hbel:YB w wr) (hl:lst s=(acc,b)):
  bodyPost YP Tryz.f141 (LEnd s w) .ret ⟨tmps,[]⟩ (wr.setRow w.heap.size (k8 acc)):=by
 have hrow:=setRow_heap wr w.heap.size _ (k8 acc) _ _ hg
 have hr:=run_loadVar_row (P:=YP) (wr.setRow w.heap.size (k8 acc)) w.heap.size 185 185 (k8 acc) _ _ hrow Tryz.underlying185 rfl Kr
 have h2':tmps[2]?.getD undef= .pointer (some ⟨w.heap.size,0,none⟩):=by simpa using h2
 have h3':tmps[3]?.getD undef= .bool b:=by simpa using h3
 refine bodyPost_ret (v:= .tuple #[.agg (k8 acc),.bool b]) (by simp [results,Tryz.results141,asAddr,h2',h3',hr]) rfl ⟨by rw [hl],pO hbel (Nat.le_refl _) _⟩
theorem list_any0 (s:YL)(w:World)(hs:s.length<4294967281):
  YC 141 #[.string (mkS s)] w (LEnd s w):=by
 go_enter Tryz.func141,Tryz.ntmps141
 go_wp2
 go_step3
 go_wp2
 go_step3
 go_wp2
 go_loopg [0,5,6] 4 (λg s0 s5 s6 wr=>LRel s w g s0 s5 s6 wr)
 case atStart=>
  refine ⟨[],s,0,s.isEmpty,by omega,rfl, ?_,rfl,Nat.le_refl _, ?_, ?_, ?_, ?_, ?_⟩
  ·rw [Lib.toList_data];rfl
  ·rw [heap_old _ _ (by simp),bI];rfl
  ·exact heap_at _ _ _ (by simp)
  ·exact ((Below.refl _ _).alloc (Nat.le_refl _) _).alloc (by simp) _
  ·intro h;unfold lst;rw [if_pos h]
  ·intro h;unfold lst;rw [if_neg (by simp [h])];exact ⟨rfl,rfl⟩
 case round=>
  obtain ⟨acc,r,k,b,hkg,rfl,rfl,rfl,hrl,hB0,hB1,hbel,hT,hF⟩:=hrel
  have HB0:=Lib.hid hB0
  have HB1:=Lib.hid hB1
  clear hB0 hB1
  cases b with
  |true=>
   have HT:=Lib.hid (hT rfl)
   clear hT hF
   by_cases hk4:(k:Int)<4
   all_goals
    go_wp2_with (first
     |(refine wpList_load_row rfl 185 _ rfl (w.heap.size+1) rfl _ _ _ _ HB1.out Tryz.underlying185 rfl Kr ?_)
     |(refine wpList_store_row rfl 185 _ _ rfl w.heap.size (k8 acc) rfl rfl _ _ HB0.out Kr rfl (qL acc) ?_))
    exact vK rfl rfl HB0.out hbel HT.out
  |false=>
   have HKL:=Lib.hid (hF rfl).1
   have HL:=Lib.hid (hF rfl).2
   clear hT hF
   cases gk with
   |zero=>
    have hk4:¬ (k:Int)<4:=by omega
    go_wp2_with (first
     |(refine wpList_load_row rfl 185 _ rfl (w.heap.size+1) rfl _ _ _ _ HB1.out Tryz.underlying185 rfl Kr ?_)
     |(refine wpList_store_row rfl 185 _ _ rfl w.heap.size (k8 acc) rfl rfl _ _ HB0.out Kr rfl (qL acc) ?_))
    exact vK rfl rfl HB0.out hbel (by rw [HL.out,show 4-k=0 from by omega,gN,List.append_nil])
   |succ g=>
    have hk4:(k:Int)<4:=by omega
    obtain ⟨t,rest,more,hcut⟩:∃ t rest more,zA 46 r=(t,rest,more):=⟨_,_,_,rfl⟩
    have hle:=cutAt_le 46 r
    have cC:=cutb_any r 46 wr Om
    have hG:(∀ n,gN (n+1) r=if kK t then (if more then (t::(gN n rest).1,(gN n rest).2) else ([t],true)) else ([],false)):=by
     intro n;rw [gN,hcut]
    have HG:=Lib.hid hG
    clear hG
    rw [hcut] at cC hle
    dsimp only at cC hle
    have htz:(mkS t).size=t.length:=by unfold mkS;simp [ByteArray.size]
    have HC:=Lib.hid hcut
    clear hcut
    have hsz0:w.heap.size+1<wr.heap.size:=(Array.getElem?_eq_some_iff.1 HB1.out).1
    by_cases ht0:t=[]
    ·have hte:(mkS t).toList.isEmpty=true:=by rw [Lib.toList_data,ht0];rfl
     have hE:lst s=(acc,false):=by rw [HL.out,show 4-k=(3-k)+1 from by omega,HG.out,tagOk_short ht0];simp
     have HE:=Lib.hid hE
     clear hE
     clear ht0
     go_wp2_with (first
      |(go_at_call 132;refine cC.mono ?_;rintro e w2 ⟨rfl,hb2⟩;have HB02:=Lib.hid ((hb2.block w.heap.size Om).trans HB0.out);have HB12:=Lib.hid ((hb2.block (w.heap.size+1) hsz0).trans HB1.out))
      |(refine wpList_load_row rfl 185 _ rfl (w.heap.size+1) rfl _ _ _ _ HB12.out Tryz.underlying185 rfl Kr ?_)
      |(refine wpList_store_row rfl 185 _ _ rfl w.heap.size (k8 acc) rfl rfl _ _ HB02.out Kr rfl (qL acc) ?_))
     exact vK rfl rfl HB02.out (hbel.trans (hb2.mono hbel.size)) HE.out
    ·have htn:(mkS t).toList.isEmpty=false:=by
      rw [Lib.toList_data,mk_data];cases t with
      |nil=>exact absurd rfl ht0
      |cons _ _=>rfl
     by_cases h8:t.length<=8
     ·have h8i:¬ (8:Int)<(mkS t).size:=by omega
      have HA:=Lib.hid (tagOk_mid ht0 h8)
      clear ht0
      go_wp2_with (first
       |(go_at_call 132;refine cC.mono ?_;rintro e w2 ⟨rfl,hb2⟩;have HB02:=Lib.hid ((hb2.block w.heap.size Om).trans HB0.out);have HB12:=Lib.hid ((hb2.block (w.heap.size+1) hsz0).trans HB1.out)))
      go_loopg [11] ((mkS t).size+1) (λg2 s11 wi=>∃ pos:Nat,wi=w2.iter (mkS t) pos/\pos+g2=(mkS t).size+1/\pos<=(mkS t).size/\Hid ((t.drop pos).all jR=t.all jR))
      case atStart=>exact ⟨0,rfl,by omega,by omega,rfl⟩
      case round=>
       obtain ⟨pos,rfl,hpg,hple,HR⟩:=hrel
       have hs1:w.heap.size+1<w2.heap.size:=by have:=hb2.size;omega
       have hs0:w.heap.size<w2.heap.size:=by omega
       have hb0:w.heap.size<=w2.heap.size:=by omega
       by_cases hp:pos<(mkS t).size
       ·have hd0:=kB (mkS t) pos hp
        rw [mk_data] at hd0
        have HD:=Lib.hid hd0
        clear hd0
        by_cases ha:((mkS t)[pos]'hp).toNat<128
        ·have hnx:∀ ty,(Instr.next (.pointer (some ⟨w2.heap.size,0,none⟩)) true ty).run YP (w2.iter (mkS t) pos)=_:=λty=>run_next_ascii w2 (mkS t) pos ty hp ha
         by_cases hd:yH ((mkS t)[pos]'hp).toNat=true
         ·have HG1:=Lib.hid hd
          clear hd
          go_wp2_with (go_at_call 186;refine (gR _ true HG1.out _).mono ?_;rintro e w' ⟨rfl,rfl⟩)
          go_roundg (gk-1)
          case measure=>omega
          case rel=>exact ⟨pos+1,rfl,by omega,by omega,by rw [←HR.out,HD.out,all_ok _ _ (tagC_dig _ HG1.out)];rfl⟩
         ·have HG1:=Lib.hid (Bool.eq_false_iff.2 hd)
          clear hd
          by_cases hl:kM ((mkS t)[pos]'hp).toNat=true
          ·have hl2:(97:Int)<=((mkS t)[pos]'hp).toNat/\(((mkS t)[pos]'hp).toNat:Int)<=122:=by unfold kM at hl;simpa using hl
           obtain ⟨hla,hlb⟩:=hl2
           have HL1:=Lib.hid hl
           clear hl
           go_wp2_with (go_at_call 186;refine (gR _ false HG1.out _).mono ?_;rintro e w' ⟨rfl,rfl⟩)
           go_roundg (gk-1)
           case measure=>omega
           case rel=>exact ⟨pos+1,rfl,by omega,by omega,by rw [←HR.out,HD.out,all_ok _ _ (tagC_let _ HL1.out)];rfl⟩
          ·have HL1:=Lib.hid (Bool.eq_false_iff.2 hl)
           by_cases h3:(((mkS t)[pos]'hp).toNat:Int)=45
           ·have h3b:((((mkS t)[pos]'hp).toNat:Int) !=45)=false:=by simp [h3]
            have hla:(((mkS t)[pos]'hp).toNat:Int)<97:=by omega
            have H3:=Lib.hid h3
            clear h3 hl
            go_wp2_with (go_at_call 186;refine (gR _ false HG1.out _).mono ?_;rintro e w' ⟨rfl,rfl⟩)
            go_roundg (gk-1)
            case measure=>omega
            case rel=>exact ⟨pos+1,rfl,by omega,by omega,by rw [←HR.out,HD.out,all_ok _ _ (tagC_dash _ H3.out)];rfl⟩
           ·have h3b:((((mkS t)[pos]'hp).toNat:Int) !=45)=true:=by simpa using h3
            have hE:lst s=(acc,false):=by
             rw [HL.out,show 4-k=(3-k)+1 from by omega,HG.out,HA.out,←HR.out,HD.out,all_bad _ _ (tagC_bad _ HG1.out HL1.out h3)];simp
            have HE:=Lib.hid hE
            clear hE h3
            have hl3:(((mkS t)[pos]'hp).toNat:Int)<97\/(122:Int)<((mkS t)[pos]'hp).toNat:=by
             unfold kM at hl;simp at hl;omega
            clear hl
            rcases hl3 with hl3|hl3
            ·go_wp2_with (first
              |(go_at_call 186;refine (gR _ false HG1.out _).mono ?_;rintro e w' ⟨rfl,rfl⟩)
              |(refine wpList_load_row rfl 185 _ rfl (w.heap.size+1) rfl _ _ _ _ ((kI _ _ _ hs1).trans HB12.out) Tryz.underlying185 rfl Kr ?_)
              |(refine wpList_store_row rfl 185 _ _ rfl w.heap.size (k8 acc) rfl rfl _ _ ((kI _ _ _ hs0).trans HB02.out) Kr rfl (qL acc) ?_))
             exact vK rfl rfl ((kI _ _ _ hs0).trans HB02.out) ((hbel.trans (hb2.mono hbel.size)).trans ((zV _ _ _).mono hb0)) HE.out
            ·have hl4:(97:Int)<=((mkS t)[pos]'hp).toNat:=by omega
             have hl5:(!decide ((((mkS t)[pos]'hp).toNat:Int)<=122))=true:=by simp;omega
             go_wp2_with (first
              |(go_at_call 186;refine (gR _ false HG1.out _).mono ?_;rintro e w' ⟨rfl,rfl⟩)
              |(refine wpList_load_row rfl 185 _ rfl (w.heap.size+1) rfl _ _ _ _ ((kI _ _ _ hs1).trans HB12.out) Tryz.underlying185 rfl Kr ?_)
              |(refine wpList_store_row rfl 185 _ _ rfl w.heap.size (k8 acc) rfl rfl _ _ ((kI _ _ _ hs0).trans HB02.out) Kr rfl (qL acc) ?_))
             exact vK rfl rfl ((kI _ _ _ hs0).trans HB02.out) ((hbel.trans (hb2.mono hbel.size)).trans ((zV _ _ _).mono hb0)) HE.out
        ·have hnx:∀ ty,(Instr.next (.pointer (some ⟨w2.heap.size,0,none⟩)) true ty).run YP (w2.iter (mkS t) pos)=_:=λty=>run_next_any w2 (mkS t) pos ty hp
         have hhi:=(decode_high (mkS t) pos hp Om).1
         have HG1:=Lib.hid (fS _ hhi)
         have h3b:(((Utf8.decode (mkS t) pos).1:Int) !=45)=true:=by simp;omega
         have hl3:(122:Int)<(Utf8.decode (mkS t) pos).1:=by omega
         have hl4:(97:Int)<=(Utf8.decode (mkS t) pos).1:=by omega
         have hl5:(!decide (((Utf8.decode (mkS t) pos).1:Int)<=122))=true:=by simp;omega
         have hE:lst s=(acc,false):=by
          rw [HL.out,show 4-k=(3-k)+1 from by omega,HG.out,HA.out,←HR.out,HD.out,all_bad _ _ (tagC_bad _ (dZ _ Om) (letB_hi8 _ Om) Om)];simp
         have HE:=Lib.hid hE
         clear hE
         go_wp2_with (first
          |(go_at_call 186;refine (gR _ false HG1.out _).mono ?_;rintro e w' ⟨rfl,rfl⟩)
          |(refine wpList_load_row rfl 185 _ rfl (w.heap.size+1) rfl _ _ _ _ ((kI _ _ _ hs1).trans HB12.out) Tryz.underlying185 rfl Kr ?_)
          |(refine wpList_store_row rfl 185 _ _ rfl w.heap.size (k8 acc) rfl rfl _ _ ((kI _ _ _ hs0).trans HB02.out) Kr rfl (qL acc) ?_))
         exact vK rfl rfl ((kI _ _ _ hs0).trans HB02.out) ((hbel.trans (hb2.mono hbel.size)).trans ((zV _ _ _).mono hb0)) HE.out
       ·have hnx:∀ ty,(Instr.next (.pointer (some ⟨w2.heap.size,0,none⟩)) true ty).run YP (w2.iter (mkS t) pos)=_:=λty=>run_next_end w2 (mkS t) pos ty hp
        have hd0:=gM (mkS t) pos hp
        rw [mk_data] at hd0
        have hA:kK t=true:=by rw [HA.out,←HR.out,hd0];rfl
        have HAT:=Lib.hid hA
        clear hd0 hA
        obtain ⟨hcell,hfro⟩:=g8 (j:=k) ((kI w2 (mkS t) pos hs1).trans HB12.out) (by rw [lcells_size];omega)
        go_wp2
        have hg1:(w2.iter (mkS t) pos).heap[w.heap.size+1]?=some (.cells (k8 acc) 185):=(kI _ _ _ hs1).trans HB12.out
        have hg0:(w2.iter (mkS t) pos).heap[w.heap.size]?=some (.cells (k8 []) 185):=(kI _ _ _ hs0).trans HB02.out
        have hset:=setCell_eq_setRow _ _ k _ _ _ (.string (mkS t)) hg1
        rw [lcells_snoc acc t k HKL.out Om] at hset
        have hbw:Below w.heap.size w (w2.iter (mkS t) pos):=(hbel.trans (hb2.mono hbel.size)).trans ((zV _ _ _).mono hb0)
        rw [hset]
        go_roundg g
        case measure=>omega
        case rel=>
         refine ⟨acc++[t],rest,k+1, !more,by omega,rfl,rfl,by go_num,by omega, ?_,setRow_heap _ _ _ _ _ _ hg1,pO hbw (by omega) _, ?_, ?_⟩
         ·rw [←hg0];exact setRow_apart _ _ _ _ Om
         ·intro h
          have hm:more=false:=by simpa using h
          rw [HL.out,show 4-k=(3-k)+1 from by omega,HG.out,HAT.out,hm];simp
         ·intro h
          have hm:more=true:=by simpa using h
          refine ⟨by rw [List.length_append,HKL.out];rfl, ?_⟩
          rw [HL.out,show 4-k=(3-k)+1 from by omega,HG.out,HAT.out,hm,show 4-(k+1)=3-k from by omega];simp
     ·have h8i:(8:Int)<(mkS t).size:=by omega
      have hE:lst s=(acc,false):=by rw [HL.out,show 4-k=(3-k)+1 from by omega,HG.out,tagOk_long Om];simp
      have HE:=Lib.hid hE
      clear hE ht0
      go_wp2_with (first
       |(go_at_call 132;refine cC.mono ?_;rintro e w2 ⟨rfl,hb2⟩;have HB02:=Lib.hid ((hb2.block w.heap.size Om).trans HB0.out);have HB12:=Lib.hid ((hb2.block (w.heap.size+1) hsz0).trans HB1.out))
       |(refine wpList_load_row rfl 185 _ rfl (w.heap.size+1) rfl _ _ _ _ HB12.out Tryz.underlying185 rfl Kr ?_)
       |(refine wpList_store_row rfl 185 _ _ rfl w.heap.size (k8 acc) rfl rfl _ _ HB02.out Kr rfl (qL acc) ?_))
      exact vK rfl rfl HB02.out (hbel.trans (hb2.mono hbel.size)) HE.out
theorem list_any (s:YL)(w:World)(hs:s.length<4294967281):
  YC 141 #[.string (mkS s)] w (YR (.tuple #[.agg (k8 (lst s).1),.bool (lst s).2]) w):=list_any0 s w hs
end
section
theorem numV_mk (t:YL):numV (mkS t)=yZ t:=by unfold numV numB yZ;rw [mk_data]
theorem numOk_mk (t:YL):pA (mkS t)=gG t:=by unfold pA numB gG;rw [mk_data]
theorem bC (t:YL)(b:Bool)(hb:gG t=b)(w:World)(ht:t.length<=maxLen):
  YC 187 #[.string (mkS t)] w (YR (.tuple #[YI (yZ t),.bool b]) w):=by
 have:=number_any (mkS t) w (by rw [y4];exact ht)
 rw [numV_mk,numOk_mk,hb] at this
 exact this
theorem mW (t:YL)(b:Bool)(hb:yY t=b)(w:World)(ht:t.length<=maxLen):
  YC 188 #[.string (mkS t)] w (YR (.bool b) w):=by
 have:=vnumeric_any (mkS t) w (by rw [y4];exact ht)
 rw [mk_data,hb] at this
 exact this
theorem pD (s:YL)(w:World)(hs:s.length<4294967281):
  YC 141 #[.string (mkS s)] w (YR (.tuple #[.agg #[.string (mkS (tg (lst s).1 0)),.string (mkS (tg (lst s).1 1)),.string (mkS (tg (lst s).1 2)),.string (mkS (tg (lst s).1 3))],.bool (lst s).2]) w):=list_any s w hs
theorem ix_tag0 (a b c d:Value)(w:World):(Instr.index 185 (.agg #[a,b,c,d]) (YI 0)).run YP w= .ok a w:=by kernel_rfl
theorem ix_tag1 (a b c d:Value)(w:World):(Instr.index 185 (.agg #[a,b,c,d]) (YI 1)).run YP w= .ok b w:=by kernel_rfl
theorem ix_tag2 (a b c d:Value)(w:World):(Instr.index 185 (.agg #[a,b,c,d]) (YI 2)).run YP w= .ok c w:=by kernel_rfl
theorem ix_tag3 (a b c d:Value)(w:World):(Instr.index 185 (.agg #[a,b,c,d]) (YI 3)).run YP w= .ok d w:=by kernel_rfl
theorem ix_tag (l:List YL)(k:Nat)(hk:k<4)(w:World):
  (Instr.index 185 (.agg #[.string (mkS (tg l 0)),.string (mkS (tg l 1)),.string (mkS (tg l 2)),.string (mkS (tg l 3))]) (YI k)).run YP w= .ok (.string (mkS (tg l k))) w:=by
 match k,hk with
 |0,_=>exact ix_tag0 _ _ _ _ w
 |1,_=>exact ix_tag1 _ _ _ _ w
 |2,_=>exact ix_tag2 _ _ _ _ w
 |3,_=>exact ix_tag3 _ _ _ _ w
theorem all_four (l:List YL)(h4:l.length<=4)(h:∀ j,j<4->mQ (tg l j)=true):l.all mQ=true:=by
 rw [←tg_all preT_nil l h4,h 0 Om,h 1 Om,h 2 Om,h 3 Om];rfl
theorem not_four (l:List YL)(h4:l.length<=4)(j:Nat)(hj:j<4)(h:mQ (tg l j)=false):l.all mQ=false:=by
 rw [←tg_all preT_nil l h4]
 match j,hj with
 |0,_=>rw [h];rfl
 |1,_=>rw [h];simp
 |2,_=>rw [h];simp
 |3,_=>rw [h];simp
theorem mayPre_any (s:YL)(w:World)(hs:s.length<4294967281):
  YC 142 #[.string (mkS s)] w (YR (.bool (d9 s)) w):=by
 have hl4:=lst_len s
 have hl8:=tg_len s
 have hP:=preOk_lst s
 obtain ⟨L,hL⟩:∃ L,(lst s).1=L:=⟨_,rfl⟩
 obtain ⟨o,ho⟩:∃ o,(lst s).2=o:=⟨_,rfl⟩
 have cL:=pD s w hs
 rw [hL,ho] at cL
 rw [hL] at hl4 hl8 hP
 rw [ho] at hP
 have HP:=Lib.hid hP
 have H8:=Lib.hid hl8
 clear hP hl8 hL ho
 go_enter Tryz.func142,Tryz.ntmps142
 go_wp2_with (go_at_call 141;refine cL.mono ?_;rintro e w1 ⟨rfl,hb1⟩)
 go_loopw [15] (λv wr=>∃ k:Nat,k<=4/\v=YI k/\YB w wr/\Hid (∀ j,j<k->mQ (tg L j)=true)) (λv _=>4-(intOf v).toNat)
 case atStart=>exact ⟨0,by omega,rfl,hb1.alloc hb1.size _,λj hj=>by omega⟩
 case round=>
  obtain ⟨k,hk,rfl,hbel,HR⟩:=hrel
  by_cases hk4:k<4
  ·have hki:(k:Int)<4:=by omega
   have hix:∀ w,(Instr.index 185 (.agg #[.string (mkS (tg L 0)),.string (mkS (tg L 1)),.string (mkS (tg L 2)),.string (mkS (tg L 3))]) (YI k)).run YP w= .ok (.string (mkS (tg L k))) w:=ix_tag L k hk4
   have h8:(tg L k).length<=8:=H8.out k
   have hm:(tg L k).length<=maxLen:=by unfold maxLen;omega
   cases hi:gG (tg L k) with
   |true=>
    have HI:=Lib.hid hi
    clear hi
    cases hn:yY (tg L k)
    all_goals
     have HN:=Lib.hid hn
     clear hn
     go_wp2_with (first
      |(go_at_call 187;refine (bC _ true HI.out _ hm).mono ?_;rintro e w2 ⟨rfl,hb2⟩)
      |(go_at_call 188;refine (mW _ _ HN.out _ hm).mono ?_;rintro e w3 ⟨rfl,hb3⟩))
     go_roundw
     case rel=>exact ⟨k+1,by omega,by go_num,(hbel.trans (hb2.mono hbel.size)).trans (hb3.mono (by have:=hb2.size;have:=hbel.size;omega)),λj hj=>by
      by_cases h:j<k
      ·exact HR.out j h
      ·obtain rfl:j=k:=by omega
       unfold mQ;rw [HI.out];simp⟩
     case measure=>simp [intOf];omega
   |false=>
    have HI:=Lib.hid hi
    clear hi
    cases hn:yY (tg L k) with
    |true=>
     have HN:=Lib.hid hn
     clear hn
     go_wp2_with (first
      |(go_at_call 187;refine (bC _ false HI.out _ hm).mono ?_;rintro e w2 ⟨rfl,hb2⟩)
      |(go_at_call 188;refine (mW _ _ HN.out _ hm).mono ?_;rintro e w3 ⟨rfl,hb3⟩))
     go_ret
     exact ⟨zQ (by rw [HP.out,not_four L hl4 k hk4 (by unfold mQ;rw [HN.out,HI.out];rfl),Bool.and_false]),(hbel.trans (hb2.mono hbel.size)).trans (hb3.mono (by have:=hb2.size;have:=hbel.size;omega))⟩
    |false=>
     have HN:=Lib.hid hn
     clear hn
     go_wp2_with (first
      |(go_at_call 187;refine (bC _ false HI.out _ hm).mono ?_;rintro e w2 ⟨rfl,hb2⟩)
      |(go_at_call 188;refine (mW _ _ HN.out _ hm).mono ?_;rintro e w3 ⟨rfl,hb3⟩))
     go_roundw
     case rel=>exact ⟨k+1,by omega,by go_num,(hbel.trans (hb2.mono hbel.size)).trans (hb3.mono (by have:=hb2.size;have:=hbel.size;omega)),λj hj=>by
      by_cases h:j<k
      ·exact HR.out j h
      ·obtain rfl:j=k:=by omega
       unfold mQ;rw [HN.out];simp⟩
     case measure=>simp [intOf];omega
  ·have hki:¬ (k:Int)<4:=by omega
   go_wp2
   go_ret
   exact ⟨zQ (by rw [HP.out,all_four L hl4 (λj hj=>HR.out j Om),Bool.and_true]),hbel⟩
abbrev ZP (x:Ver):Array Value:= #[YI x.maj,YI x.min,YI x.pat,.string (mkS x.pre),.string (mkS x.build)]
def yB (v:Ver):Value:= .agg #[YI v.maj,YI v.min,YI v.pat,.string (mkS v.pre),.string (mkS v.build)]
theorem numbers_any (v:Ver)(w:World):
  YC 140 #[yB v] w (YR (.agg #[YI v.maj,YI v.min,YI v.pat]) w):=by
 obtain ⟨a,b,c,p,q⟩:=v
 unfold yB
 dsimp only
 go_enter Tryz.func140,Tryz.ntmps140
 go_wp2
 exact bodyPost_ret (v:= .agg #[YI a,YI b,YI c]) (by simp [results,Tryz.results140,go_sem]) rfl ⟨rfl,((Below.refl _ _).alloc (Nat.le_refl _) _).alloc (by simp) _⟩
theorem ix_num0 (a b c:Value)(w:World):(Instr.index 183 (.agg #[a,b,c]) (YI 0)).run YP w= .ok a w:=by kernel_rfl
theorem ix_num1 (a b c:Value)(w:World):(Instr.index 183 (.agg #[a,b,c]) (YI 1)).run YP w= .ok b w:=by kernel_rfl
theorem ix_num2 (a b c:Value)(w:World):(Instr.index 183 (.agg #[a,b,c]) (YI 2)).run YP w= .ok c w:=by kernel_rfl
def dE (a b c:Int)(k:Nat):Int:=if k=0 then a else if k=1 then b else c
theorem ix_num (a b c:Int)(k:Nat)(hk:k<3)(w:World):
  (Instr.index 183 (.agg #[YI a,YI b,YI c]) (YI k)).run YP w= .ok (YI (dE a b c k)) w:=by
 match k,hk with
 |0,_=>exact ix_num0 _ _ _ w
 |1,_=>exact ix_num1 _ _ _ w
 |2,_=>exact ix_num2 _ _ _ w
theorem nth3_all {a b c:Int}(h:∀ j,j<3->zR (dE a b c j)=true):(zR a && zR b && zR c)=true:=by
 have h0:=h 0 Om;have h1:=h 1 Om;have h2:=h 2 Om
 unfold dE at h0 h1 h2
 simp at h0 h1 h2
 rw [h0,h1,h2];rfl
theorem nth3_not {a b c:Int}(j:Nat)(hj:j<3)(h:zR (dE a b c j)=false):(zR a && zR b && zR c)=false:=by
 match j,hj with
 |0,_=>rw [show zR a=false from h];rfl
 |1,_=>rw [show zR b=false from h];simp
 |2,_=>rw [show zR c=false from h];simp
theorem may_eq (v:Ver):v.may=((zR v.maj && zR v.min && zR v.pat) && (d9 v.pre && qY v.build)):=by
 unfold Ver.may;rw [Bool.and_assoc]
theorem box_cells {w w1:World}{T:TypeId}{cs:Array Value}(hb:Below (w.alloc (.cells cs T)).heap.size (w.alloc (.cells cs T)) w1)(j:Nat)(hj:j<cs.size):w1.cell? ⟨w.heap.size,j,none⟩=some cs[j]/\w1.frozen? ⟨w.heap.size,j,none⟩=false:=by
 have h:w1.heap[w.heap.size]?=some (.cells cs T):=(hb.block _ (by simp)).trans (bI w _)
 exact g8 h hj
theorem nQ (w:World)(o:Obj):(w.alloc o).heap.size=w.heap.size+1:=by simp
theorem bT (v:Ver)(w:World)(hp:v.pre.length<4294967281)(hq:v.build.length<4294967281):
  YC 91 #[yB v] w (YR (.bool v.may) w):=by
 have hM:=may_eq v
 have cN:=λw'=>numbers_any v w'
 obtain ⟨a,b,c,p,q⟩:=v
 unfold yB at cN ⊢
 dsimp only at cN hM hp hq ⊢
 have HM:=Lib.hid hM
 clear hM
 go_enter Tryz.func91,Tryz.ntmps91
 go_wp2_with (go_at_call 140;refine (cN _).mono ?_;rintro e w1 ⟨rfl,hb1⟩)
 obtain ⟨c3,f3⟩:=box_cells hb1 3 (by simp)
 obtain ⟨c4,f4⟩:=box_cells hb1 4 (by simp)
 have hs1:w.heap.size<w1.heap.size:=by have:=hb1.size;rw [nQ] at this;omega
 have hbw:YB w w1:=((Below.refl _ _).alloc (Nat.le_refl _) _).trans (hb1.mono (by simp))
 simp only [List.getElem_toArray,List.getElem_cons_succ,List.getElem_cons_zero] at c3 c4
 go_loop [9] (λx=>∃ k:Nat,k<=3/\x=YI k/\Hid (∀ j,j<k->zR (dE a b c j)=true)) (λx=>3-(intOf x).toNat)
 case atStart=>exact ⟨0,by omega,rfl,λj hj=>by omega⟩
 case round=>
  obtain ⟨k,hk,rfl,HR⟩:=hrel
  by_cases hk3:k<3
  ·have hki:(k:Int)<3:=by omega
   have hix:∀ w,(Instr.index 183 (.agg #[YI a,YI b,YI c]) (YI k)).run YP w= .ok (YI (dE a b c k)) w:=ix_num a b c k hk3
   by_cases h0:dE a b c k<0
   ·have hbad:zR (dE a b c k)=false:=by unfold zR;simp;omega
    have HB:=Lib.hid hbad
    clear hbad
    go_wp2
    go_ret
    exact ⟨zQ (by rw [HM.out,nth3_not k hk3 HB.out];rfl),hbw⟩
   ·by_cases h9:9999<dE a b c k
    ·have hbad:zR (dE a b c k)=false:=by unfold zR;simp;omega
     have HB:=Lib.hid hbad
     clear hbad
     go_wp2
     go_ret
     exact ⟨zQ (by rw [HM.out,nth3_not k hk3 HB.out];rfl),hbw⟩
    ·have hok:zR (dE a b c k)=true:=by unfold zR;simp;omega
     have HB:=Lib.hid hok
     clear hok
     go_wp2
     go_round
     case rel=>exact ⟨k+1,by omega,by go_num,λj hj=>by
      by_cases h:j<k
      ·exact HR.out j h
      ·obtain rfl:j=k:=by omega
       exact HB.out⟩
     case measure=>simp [intOf];omega
  ·have hki:¬ (k:Int)<3:=by omega
   have h3:=Lib.hid (nth3_all λj hj=>HR.out j Om)
   have cL:=pD q w1 hq
   rw [lst_ok] at cL
   cases ho:qY q with
   |true=>
    rw [ho] at cL
    have HO:=Lib.hid ho
    clear ho
    go_wp2_with (first
     |(go_at_call 141;refine cL.mono ?_;rintro e w2 ⟨rfl,hb2⟩;have c32:=(hb2.cell (p:=⟨w.heap.size,3,none⟩) hs1).trans c3;have hs2:w.heap.size<w2.heap.size:=Nat.lt_of_lt_of_le hs1 hb2.size)
     |(go_at_call 142;refine (mayPre_any p _ hp).mono ?_;rintro e w3 ⟨rfl,hb3⟩))
    go_ret
    exact ⟨zQ (by rw [HM.out,h3.out,HO.out];simp),((hbw.trans (hb2.mono hbw.size)).alloc Om _).trans (hb3.mono (by simp;omega))⟩
   |false=>
    rw [ho] at cL
    have HO:=Lib.hid ho
    clear ho
    go_wp2_with (go_at_call 141;refine cL.mono ?_;rintro e w2 ⟨rfl,hb2⟩;have c32:=(hb2.cell (p:=⟨w.heap.size,3,none⟩) hs1).trans c3;have hs2:w.heap.size<w2.heap.size:=Nat.lt_of_lt_of_le hs1 hb2.size)
    go_ret
    exact ⟨zQ (by rw [HM.out,h3.out,HO.out];simp),(hbw.trans (hb2.mono hbw.size)).alloc Om _⟩
end
section
theorem ownsRow_iterAt {w:World}{B:Nat}{e:TypeId}{size:Nat}{v:Value}{n:Nat}{xs:List Value}(h:w.ownsRow B e size v n xs){k:Nat}{s:ByteArray}{pos:Nat}(hk:w.heap[k]?=some (.stringIter s pos))(pos':Nat):
  (w.iterAt k s pos').ownsRow B e size v n xs:=by
 obtain ⟨h1,h2⟩:=h
 refine ⟨h1, ?_⟩
 rcases h2 with h2|⟨g,cap,cur,hv,hg,hh,r⟩
 ·exact Or.inl h2
 ·refine Or.inr ⟨g,cap,cur,hv,hg, ?_,r⟩
  rw [Lib.iterAt_other _ _ _ _ _ (λe=>by subst e;rw [hk] at hh;cases hh)]
  exact hh
theorem ownsRow_ne {w:World}{B:Nat}{e:TypeId}{size:Nat}{v:Value}{n:Nat}{xs:List Value}(h:w.ownsRow B e size v n xs){k:Nat}{s:ByteArray}{pos:Nat}(hk:w.heap[k]?=some (.stringIter s pos)):some k≠v.ownBlock:=by
 obtain ⟨h1,h2⟩:=h
 rcases h2 with ⟨rfl,_⟩|⟨g,cap,cur,rfl,hg,hh,r⟩
 ·simp [Value.ownBlock]
 ·intro he
  have:k=g:=by simpa [Value.ownBlock] using he
  subst this
  rw [hk] at hh;cases hh
theorem wN {w w':World}{B:Nat}{e:TypeId}{size:Nat}{v:Value}{n:Nat}{xs:List Value}(h:w.ownsRow B e size v n xs)(hb:YB w w'):w'.ownsRow B e size v n xs:=by
 obtain ⟨h1,h2⟩:=h
 refine ⟨h1, ?_⟩
 rcases h2 with h2|⟨g,cap,cur,hv,hg,hh,r⟩
 ·exact Or.inl h2
 ·exact Or.inr ⟨g,cap,cur,hv,hg,by rw [hb.block g (Array.getElem?_eq_some_iff.1 hh).1];exact hh,r⟩
theorem iter_below {w w':World}{k:Nat}{s:ByteArray}{pos:Nat}(h:w.heap[k]?=some (.stringIter s pos))(hb:YB w w'):w'.heap[k]?=some (.stringIter s pos):=by
 rw [hb.block k (Array.getElem?_eq_some_iff.1 h).1];exact h
end
section
theorem pH (w:World)(a:Addr)(m:Nat):(w.freeze a m).drawn=w.drawn:=by unfold World.freeze;split<;>rfl
theorem wp_append_text {P:Program}{w:World}{ops:Array Oper}{rest:List Oper}{o:Oper}{a:Act}{Q:Exit->Act->World->Prop}(hgd:o.guard=none)(sl x:Operand)(t u:TypeId)
  (ho:o.op= .call {callee:= .builtin .append,args:= #[sl,x],argTypes:= #[t,u]})
  (B:Nat) (e:TypeId) (i:TypeInfo) (ht:P.underlying t=some (.slice e)) (hu:P.underlying u=some .string) (hi:P.info? e=some i) (hz:i.zero=some (.int .u8 0)) (h1:i.size=1) (h2:i.bytes=1)
  (v:Value) (n:Nat) (xs:List Value) (hs:a.eval sl=v) (hown:w.ownsRow B e 1 v n xs) (s:ByteArray) (hx:a.eval x= .string s) (h63:n+s.size<=maxLen) (hb:n+s.size<=140737488355328) (hB:B<=w.heap.size)
  (h:∀ v' w',w'.ownsRow B e 1 v' (n+s.size) (xs++Lib.strCells s)->GrownD w w' v.ownBlock->wpList P ops Q rest (a.put o.dst v') w'):wpList P ops Q (o::rest) a w:=
 wpList_plain hgd λK hK=>by
  obtain ⟨v',w',hr,k2,k3,_⟩:=Lib.run_append_own_string (P:=P) (w:=w) B t u o.type e i ht hu hi hz h1 h2 v n xs hown s h63 hb hB
  unfold Oper.wp execOp
  simp only [ho,resolve,invoke,builtin,Sem.run_bind,Sem.run_pure,Result.andThen_ok,List.map_toArray,List.map_cons,List.map_nil,hs,hx,hr]
  exact hK _ _ (h v' w' k2 ⟨k3,run_drawn P _ _ hr⟩)
theorem tV:(Tryz.prog.info? 75).map (·.size)=some 2:=by kernel_rfl
theorem liesBuilder:liesAt YP Tryz.prog.depth 75 (2/Tryz.prog.cellsOf 75) 0 75 1=true:=by kernel_rfl
theorem infoByte:(Tryz.prog.info? 5).map (λi=>(i.zero,i.size,i.bytes))=some (some (.int .u8 0),1,1):=by kernel_rfl
theorem f7 (b:Nat)(w:World)(h0:w.cell? ⟨b,0,none⟩=some (.pointer (some ⟨b,0,none⟩))):
  YC 71 #[.pointer (some ⟨b,0,none⟩)] w λe w'=>e= .returned (.tuple #[])/\w'=w:=by
 obtain ⟨j,hj,_⟩:=Option.map_eq_some_iff.1 tV
 go_enter Tryz.func71,Tryz.ntmps71
 go_wp2
 rw [Lib.run_neq_ptr_same w _ Tryz.underlying73 hj]
 go_wp2
 go_end0
 exact ⟨rfl,rfl⟩
theorem dC (b:Nat)(w:World)(h0:w.cell? ⟨b,0,none⟩=some (.pointer none))(hsh:w.shape? b=some (75,2))(hfz:w.frozen? ⟨b,0,none⟩=false):
  YC 71 #[.pointer (some ⟨b,0,none⟩)] w λe w'=>e= .returned (.tuple #[])/\w'=w.setCell ⟨b,0,none⟩ (.pointer (some ⟨b,0,none⟩)):=by
 obtain ⟨j,hj,hjs⟩:=Option.map_eq_some_iff.1 tV
 go_enter Tryz.func71,Tryz.ntmps71
 go_wp2
 rw [Lib.run_to_unsafe w ⟨b,0,none⟩ Tryz.underlying73 Tryz.underlying154 hj (by rw [hjs];decide) hsh (Nat.zero_lt_succ 1)]
 simp only [Result.andThen]
 rw [Oper.upon_value]
 go_wp2
 rw [run_callFunc_extern Tryz.func110 Kr Kr Kr (e:=Extern.AbiNoEscape.same) Kr]
 rw [Lib.run_noEscape]
 simp only [Result.andThen]
 rw [Oper.upon_value]
 go_wp2
 rw [Lib.run_from_unsafe w ⟨b,0,none⟩ Tryz.underlying154 Tryz.underlying73 hj hsh liesBuilder]
 simp only [Result.andThen]
 rw [Oper.upon_value]
 go_wp2
 go_end0
 exact ⟨rfl,rfl⟩
theorem mB (B b:Nat)(bs:List Value)(w:World)(h:Lib.IsBuilder 75 5 B b bs w):
  YC 71 #[.pointer (some ⟨b,0,none⟩)] w λe w'=>e= .returned (.tuple #[])/\(Lib.BuilderAt 75 5 B b (.pointer (some ⟨b,0,none⟩)) bs w'/\Below B w w'):=by
 rcases h with h|h
 ·refine (dC b w h.cell0 h.shape h.frozen0).mono ?_
  rintro e w' ⟨rfl,rfl⟩
  exact ⟨rfl,h.used _,(Below.refl B w).setCell (p:=⟨b,0,none⟩) h.1 _⟩
 ·refine (f7 b w h.cell0).mono ?_
  rintro e w' ⟨rfl,rfl⟩
  exact ⟨rfl,h,Below.refl B _⟩
theorem writeByte_any (B b:Nat)(bs:List Value)(c:Int)(w:World)(h:Lib.IsBuilder 75 5 B b bs w)(hlen:bs.length+1<=140737488355328)(hBw:B<=w.heap.size):
  YC 111 #[.pointer (some ⟨b,0,none⟩),.int .u8 c] w λe w'=>e= .returned .nilIface/\(Lib.BuilderAt 75 5 B b (.pointer (some ⟨b,0,none⟩)) (bs++[.int .u8 c]) w'/\Below B w w'):=by
 obtain ⟨i0,hi,hz0,hz1,hz2⟩:=info_parts infoByte
 go_enter Tryz.func111,Tryz.ntmps111
 go_wp2_with (go_at_call 71;refine (mB B b bs _ h).mono ?_)
 rintro e w1 ⟨rfl,h1,hb1⟩
 obtain ⟨hB,v,hbk,hown,hne⟩:=h1
 have c0:w1.cell? ⟨b,0,none⟩=some (.pointer (some ⟨b,0,none⟩)):=by rw [Lib.cell_of_heap hbk];rfl
 have c1:w1.cell? ⟨b,1,none⟩=some v:=by rw [Lib.cell_of_heap hbk];rfl
 go_wp2_with (at_builtin;refine xK _ rfl _ _ 36 rfl B 5 i0 (.int .u8 0) 1 1 Tryz.underlying36 hi hz0 hz1 hz2 rfl (by decide) _ _ _ rfl (hown.alloc _) ⟨w1.heap.size,0,none⟩ 1 1 [.int .u8 c] rfl rfl ?c1 ?c2 ?c3 ?c4 ?c5 ?_)
 case c1=>
  intro j u hj
  match j,hj with
  |0,hj=>simp at hj;subst hj;simp [Addr.add]
 case c2=>intro u hu;simp at hu;subst hu;rfl
 case c3=>unfold maxLen;omega
 case c4=>omega
 case c5=>have:=hb1.size;simp;omega
 intro v' w2 hown' hgrow _
 have hlt:b<w1.heap.size:=by
  rcases Nat.lt_or_ge b w1.heap.size with h'|h'
  ·exact h'
  ·simp [Array.getElem?_eq_none h'] at hbk
 have hb2:w2.heap[b]?=some (.cells #[.pointer (some ⟨b,0,none⟩),v] 75 (0,0)):=by
  rw [hgrow.old.block b (by simp;omega) (λe=>hne e.symm),Lib.alloc_old w1 _ b hlt]
  exact hbk
 have d0:w2.cell? ⟨b,0,none⟩=some (.pointer (some ⟨b,0,none⟩)):=by rw [Lib.cell_of_heap hb2];rfl
 have d1:w2.cell? ⟨b,1,none⟩=some v:=by rw [Lib.cell_of_heap hb2];rfl
 have f1:w2.frozen? ⟨b,1,none⟩=false:=Lib.frozen_of_heap hb2 1
 obtain ⟨g,cap,rfl⟩:∃ g cap,v'= .slice (some ⟨g,0,none⟩) (bs.length+1) cap:=by
  rcases hown'.2 with ⟨_,h0⟩|⟨g,cap,cur,hv,_⟩
  ·omega
  ·exact ⟨g,cap,hv⟩
 go_wp2
 go_ret
 refine ⟨rfl, ?_, ?_⟩
 ·exact Lib.BuilderAt.put (T:=75) (e:=5) hB hb2 (bs':=bs++[.int .u8 c]) (by simpa using hown') (by decide)
 ·exact ((hb1.alloc (by have:=hb1.size;omega) _).grown hgrow (by have:=hb1.size;simp;omega) (λk hk=>(hown.lt k hk).1)).setCell (p:=⟨b,1,none⟩) hB _
theorem kZ (B b:Nat)(bs:List Value)(s:ByteArray)(w:World)(h:Lib.IsBuilder 75 5 B b bs w)(hlen:bs.length+s.size<=140737488355328)(hBw:B<=w.heap.size):
  YC 35 #[.pointer (some ⟨b,0,none⟩),.string s] w λe w'=>e= .returned (.tuple #[YI s.size,.nilIface])/\(Lib.BuilderAt 75 5 B b (.pointer (some ⟨b,0,none⟩)) (bs++Lib.strCells s) w'/\Below B w w'):=by
 obtain ⟨i0,hi,hz0,hz1,hz2⟩:=info_parts infoByte
 go_enter Tryz.func35,Tryz.ntmps35
 go_wp2_with (go_at_call 71;refine (mB B b bs _ h).mono ?_)
 rintro e w1 ⟨rfl,h1,hb1⟩
 obtain ⟨hB,v,hbk,hown,hne⟩:=h1
 have c0:w1.cell? ⟨b,0,none⟩=some (.pointer (some ⟨b,0,none⟩)):=by rw [Lib.cell_of_heap hbk];rfl
 have c1:w1.cell? ⟨b,1,none⟩=some v:=by rw [Lib.cell_of_heap hbk];rfl
 go_wp2_with (at_builtin;refine wp_append_text rfl _ _ 36 9 rfl B 5 i0 Tryz.underlying36 Tryz.underlying9 hi hz0 hz1 hz2 _ _ _ rfl hown s rfl ?c3 ?c4 ?c5 ?_)
 case c3=>unfold maxLen;omega
 case c4=>omega
 case c5=>have:=hb1.size;omega
 intro v' w2 hown' hgrow
 have hlt:b<w1.heap.size:=by
  rcases Nat.lt_or_ge b w1.heap.size with h'|h'
  ·exact h'
  ·simp [Array.getElem?_eq_none h'] at hbk
 have hb2:w2.heap[b]?=some (.cells #[.pointer (some ⟨b,0,none⟩),v] 75 (0,0)):=by
  rw [hgrow.old.block b hlt (λe=>hne e.symm)]
  exact hbk
 have d0:w2.cell? ⟨b,0,none⟩=some (.pointer (some ⟨b,0,none⟩)):=by rw [Lib.cell_of_heap hb2];rfl
 have d1:w2.cell? ⟨b,1,none⟩=some v:=by rw [Lib.cell_of_heap hb2];rfl
 have f1:w2.frozen? ⟨b,1,none⟩=false:=Lib.frozen_of_heap hb2 1
 obtain ⟨ao,n',cap,rfl⟩:∃ ao n' cap,v'= .slice ao n' cap:=by
  rcases hown'.2 with ⟨hv,_⟩|⟨g,cap,cur,hv,_⟩
  ·exact ⟨_,_,_,hv⟩
  ·exact ⟨_,_,_,hv⟩
 go_wp2
 go_ret2
 refine ⟨rfl, ?_, ?_⟩
 ·exact Lib.BuilderAt.put (T:=75) (e:=5) hB hb2 (bs':=bs++Lib.strCells s) (by simpa [Lib.strCells_length] using hown') (by decide)
 ·exact (hb1.grown hgrow (by have:=hb1.size;omega) (λk hk=>(hown.lt k hk).1)).setCell (p:=⟨b,1,none⟩) hB _
theorem pM {l:YL}(h:l≠[]):(Lib.byteCells l).length≠0:=by
 rw [Lib.byteCells_length];exact λe=>h (List.eq_nil_of_length_eq_zero e)
theorem string_any (B b:Nat)(l:YL)(w:World)(h:Lib.IsBuilder 75 5 B b (Lib.byteCells l) w)(h0:l≠[]):
  YC 39 #[.pointer (some ⟨b,0,none⟩)] w λe w'=>e= .returned (.string ⟨l.toArray⟩)/\Below B w w':=by
 obtain ⟨p,hB,v,hbk,hown,hne⟩:∃ p,Lib.BuilderAt 75 5 B b p (Lib.byteCells l) w:=h.elim (λq=>⟨_,q⟩) (λq=>⟨_,q⟩)
 rcases hown.2 with ⟨_,hz⟩|⟨g,cap,cur,rfl,hbg,hg,hnc,hcm,hcs,htake⟩
 ·exact absurd hz (pM h0)
 rw [Lib.byteCells_length] at hown hnc hbk htake
 have hl0:l.length≠0:=λe=>h0 (List.eq_nil_of_length_eq_zero e)
 have hg':w.drew.heap[g]?=some (.cells cur 5 (0,0)):=hg
 have c1:w.drew.cell? ⟨b,1,none⟩=some (.slice (some ⟨g,0,none⟩) l.length cap):=by
  rw [Lib.cell_of_heap (show w.drew.heap[b]?=_ from hbk)];rfl
 have hSD:=Lib.run_unsafeSliceData_row (P:=YP) w.drew #[36] 122 ⟨g,0,none⟩ l.length cap Om
 have hUS:=Lib.run_unsafeString_row (P:=YP) w.drew 122 3 9 5 Tryz.underlying122 Kr g cur.size (by unfold World.shape?;rw [hg']) l h0 Om (by unfold maxLen at hcm;omega)
  (λj x hx=>hown.cells (g:=g) rfl j (.int .u8 x.toNat) (by simp [Lib.byteCells,hx]))
 go_enter Tryz.func39,Tryz.ntmps39
 go_wp2
 have mixed:Tryz.prog.follows .mixedOrders=true:=by kernel_rfl
 go_region_o
 all_goals
  go_wp2
  go_ret
  have hf:=Lib.below_freeze (Go.RowKit.Below.drew (Go.RowKit.Below.refl B w)) (p:=⟨g,0,none⟩) hbg l.length
  exact ⟨rfl,hf.os,hf.tape,hf.output,hf.size,by rw [pH];exact Nat.le_succ _,hf.block⟩
end
section
def HasTab (w : World) : Prop := Lib.TabBelow YP w.heap.size w "internal/strconv.uint64pow10" .u64 Lib.pow10Tab
theorem HasTab.on {w w':World}(h:HasTab w)(hb:YB w w'):HasTab w':=λw2 hb2=>h w2 (hb.old.trans (hb2.mono hb.size))
theorem below_growD (w:World)(k:Nat)(os:Array Obj):Below w.heap.size w (Go.Sort.grow (w.drewN k) os):=
 have h:=Lib.below_grow w.heap.size w (Nat.le_refl _) k os
 ⟨h.os,h.tape,h.output,h.size,(below_drewN (Below.refl w.heap.size w) k).drawn,h.block⟩
def digS (n:Int):ByteArray:=⟨(Lib.itoa n).toArray⟩
theorem digits_any (n:Int)(h0: -9223372036854775808<=n)(h1:n<=9223372036854775807)(w:World)(ht:HasTab w):
  YC 168 #[YI n] w (YR (.string (digS n)) w):=by
 have H:=Lib.hid ht
 clear ht
 go_enter Tryz.func168,Tryz.ntmps168
 go_wp2_with (go_at_call 215;refine (Tryz.strconv_Itoa n h0 h1 _ H.out.here).mono ?_;rintro e w' ⟨rfl,k,os,rfl⟩)
 go_ret
 exact ⟨rfl,below_growD _ _ _⟩
theorem qD {a b:ByteArray}(h:a=b):Ending.returned (.string a)= .returned (.string b):=by rw [h]
theorem of_list {t:ByteArray}{l:YL}(h:l=t.data.toList):t=⟨l.toArray⟩:=by subst h;rfl
def one (x:Int):ByteArray:=⟨#[UInt8.ofNat x.toNat]⟩
theorem one_list (n:Nat):(one (48+(n:Int) % 10)).data.toList=[UInt8.ofNat (48+n % 10)]:=by
 unfold one
 rw [show (48+(n:Int) % 10).toNat=48+n % 10 from by omega]
theorem conv1 (w:World)(x:Int):(convert 36 9 (.slice (some ⟨w.heap.size,0,none⟩) 1 1)).run YP (w.alloc (.cells #[.int .u8 x] 5))= .ok (.string (one x)) (w.alloc (.cells #[.int .u8 x] 5)):=by
 refine (run_convert_bytes_arg (P:=YP) _ 36 5 Tryz.underlying36 Tryz.underlying5 w.heap.size 0 1 1 [x] rfl ?_ 9 Tryz.underlying9).trans ?_
 ·intro i hi
  obtain rfl:i=0:=by omega
  simp
 ·rfl
theorem dec_start (n:Nat):Lib.decDigits n=(if n<10 then [] else Lib.decDigits (n/10))++[UInt8.ofNat (48+n % 10)]:=by
 rw [Lib.decDigits]
 by_cases h:n<10
 ·rw [dif_pos h,if_pos h,Nat.mod_eq_of_lt h];rfl
 ·rw [dif_neg h,if_neg h]
def decS (n:Nat):ByteArray:=⟨(Lib.decDigits n).toArray⟩
theorem whole_any (n:Nat)(hn:n<=18446744073709551615)(w:World):
  YC 239 #[.int .u64 n] w (YR (.string (decS n)) w):=by
 have hcv:=λ(w:World) (x:Int)=>conv1 w x
 go_enter Tryz.func239,Tryz.ntmps239
 go_wp2
 go_loopw [0,3] (λv s wr=>∃ (m:Nat) (t:ByteArray),v= .int .u64 m/\s= .string t/\m<=18446744073709551615/\YB w wr/\t.size<=20/\Hid (Lib.decDigits n=(if m<10 then [] else Lib.decDigits (m/10))++t.data.toList)) (λv _ _=>(intOf v).toNat)
 case atStart=>exact ⟨n,_,rfl,rfl,hn,(Below.refl _ w).alloc (Nat.le_refl _) _,by show 1<=20;omega,by show _=_;rw [one_list];exact dec_start n⟩
 case round=>
  obtain ⟨m,t,rfl,rfl,hm,hb,ht,HR⟩:=hrel
  have hsz:=hb.size
  by_cases h9:9<m
  ·have hos:(one (48+(m:Int)/10 % 10)).size<=1:=Nat.le_of_eq rfl
   go_wp2
   go_roundw
   case rel=>
    have HE:Lib.decDigits n=(if m/10<10 then [] else Lib.decDigits (m/10/10))++(one (48+((m/10:Nat):Int) % 10)++t).data.toList:=by
     rw [HR.out,if_neg Om,dec_start (m/10),ByteArray.data_append,Array.toList_append,one_list,List.append_assoc]
    rw [show ((m/10:Nat):Int)=(m:Int)/10 from by omega] at HE
    refine ⟨m/10,_,by go_num,rfl,by omega,hb.alloc hsz _, ?_,HE⟩
    have hl:=congrArg List.length HE
    rw [Lib.decDigits_length,List.length_append] at hl
    have:=Lib.nDigits_le20 n Om
    have hz:(one (48+(m:Int)/10 % 10)++t).data.toList.length=(one (48+(m:Int)/10 % 10)++t).size:=by simp
    omega
   case measure=>simp [intOf];omega
  ·go_wp2
   go_ret
   have HE:=HR.out
   rw [if_pos Om,List.nil_append] at HE
   exact ⟨qD (of_list HE),hb⟩
theorem rdigits_any (n:Int)(h0: -9223372036854775808<=n)(h1:n<=9223372036854775807)(w:World):
  YC 194 #[YI n] w (YR (.string (digS n)) w):=by
 by_cases hn:n<0
 ·obtain ⟨u,hu1,rfl⟩:∃ u:Nat,1<=u/\n= -(u:Int):=⟨n.natAbs,by omega,by omega⟩
  go_enter Tryz.func194,Tryz.ntmps194
  go_wp2_with fail
  rw [show (-(-(u:Int)+1)+1)=(u:Int) from by omega]
  refine (whole_any u Om _).mono ?_
  rintro e w' ⟨rfl,hb⟩
  have hl:(decS u).size<=20:=by
   show (Lib.decDigits u).toArray.size<=20
   rw [List.size_toArray,Lib.decDigits_length]
   exact Lib.nDigits_le20 u Om
  go_wp2
  go_ret
  exact ⟨qD (by unfold decS digS;rw [Lib.itoa_neg u Om];apply ByteArray.ext;simp),hb⟩
 ·obtain ⟨u,rfl⟩:∃ u:Nat,n=(u:Int):=⟨n.toNat,by omega⟩
  go_enter Tryz.func194,Tryz.ntmps194
  go_wp2_with (go_at_call 239;refine (whole_any u Om _).mono ?_;rintro e w' ⟨rfl,hb⟩)
  go_ret
  exact ⟨qD (by unfold decS digS;rw [Lib.itoa_nonneg]),hb⟩
end
section
theorem joinL_snoc (b:UInt8)(P:List YL)(x:YL):zE b (P++[x])=if P=[] then x else zE b P++b::x:=by
 induction P with
 |nil=>rfl
 |cons y r ih=>
  rw [if_neg (by simp)]
  cases r with
  |nil=>rfl
  |cons z r2=>
   rw [List.cons_append,List.cons_append,zE,←List.cons_append,ih,if_neg (by simp),zE,List.append_assoc];rfl
theorem mA (b:UInt8)(l:List YL):∀ k,(zE b (l.take k)).length<=(zE b l).length:=by
 intro k
 induction l generalizing k with
 |nil=>simp
 |cons y r ih=>
  cases k with
  |zero=>simp [zE]
  |succ k=>
   cases r with
   |nil=>simp
   |cons z r2=>
    cases k with
    |zero=>simp [zE]
    |succ k=>
     have:=ih (k+1)
     rw [List.take_succ_cons] at this ⊢
     rw [List.take_succ_cons,zE,zE]
     simp only [List.length_append,List.length_cons]
     omega
def ReadsT (w:World)(B:Nat)(v:Value)(l:List YL):Prop:=
 ∃ A cap,v= .slice A l.length cap/\(0<l.length→∃ ad:Addr,A=some ad/\ad.block<B∧∀ j (h:j<l.length),w.cell? (ad.add j)=some (.string (mkS l[j])))
theorem d6 (a:Addr)(n:Nat):(a.add n).block=a.block:=by unfold Addr.add;split<;>rfl
theorem ReadsT.of_own {w:World}{base:Nat}{e:TypeId}{v:Value}{l:List YL}(h:w.ownsRow base e 1 v l.length (vH l)):ReadsT w w.heap.size v l:=by
 rcases h.2 with ⟨rfl,h0⟩|⟨g,cap,cur,rfl,hg,hh,hn,_⟩
 ·exact ⟨none,0,by rw [h0],λhpos=>by omega⟩
 ·refine ⟨some ⟨g,0,none⟩,cap,rfl,λhpos=>⟨⟨g,0,none⟩,rfl,(Array.getElem?_eq_some_iff.1 hh).1,λj hj=> ?_⟩⟩
  exact h.cells (g:=g) rfl j _ (by unfold vH;rw [List.getElem?_map,List.getElem?_eq_getElem hj];rfl)
theorem one_mk (b:UInt8):one (b.toNat:Int)=mkS [b]:=by
 unfold one mkS
 simp
theorem take_snocL (l:List YL)(k:Nat)(h:k<l.length):l.take (k+1)=l.take k++[l[k]]:=by
 rw [List.take_succ_eq_append_getElem h]
theorem jH (l:List YL)(k:Nat)(h:k<l.length)(h0:0<k):l.take k≠[]:=by
 intro e;have:=congrArg List.length e;rw [List.length_take,List.length_nil] at this;omega
theorem byteCells_one (c:UInt8):Lib.byteCells [c]=[.int .u8 (c.toNat:Int)]:=rfl
theorem vW (l:YL):Lib.strCells (mkS l)=Lib.byteCells l:=rfl
theorem bc_join (x y:YL)(b:UInt8):Lib.byteCells (x++b::y)=Lib.byteCells x++[.int .u8 (b.toNat:Int)]++Lib.strCells (mkS y):=by
 rw [vW,←byteCells_one,←Lib.byteCells_append,←Lib.byteCells_append,List.append_assoc];rfl
theorem jW (v:Value)(l:List YL)(b:UInt8)(w:World)(hv:ReadsT w w.heap.size v l)(hl:(zE b l).length<=1000000000)(hn:l.length<=1000000000)(hne:zE b l≠[]):
  YC 72 #[v,.int .u8 b.toNat] w (YR (.string (mkS (zE b l))) w):=by
 obtain ⟨A,cap,rfl,hcell⟩:=hv
 go_enter Tryz.func72,Tryz.ntmps72
 go_wp2
 go_loopw [10] (λiv wr=>∃ (k:Nat),iv=YI k/\k<=l.length/\Lib.IsBuilder 75 5 w.heap.size w.heap.size (Lib.byteCells (zE b (l.take k))) wr/\YB w wr) (λiv _=>l.length-(intOf iv).toNat)
 case atStart=>exact ⟨0,rfl,Nat.zero_le _,Lib.fresh_isBuilder 75 5 w,(Below.refl _ _).alloc (Nat.le_refl _) _⟩
 case round=>
  obtain ⟨k,rfl,hk,hI,hb⟩:=hrel
  have hsz:=hb.size
  by_cases hp:k<l.length
  ·obtain ⟨ad,rfl,hlt,hc⟩:=hcell Om
   have hck:wr.cell? (ad.add k)=some (.string (mkS l[k])):=(hb.cell (by rw [d6];exact hlt)).trans (hc k hp)
   have hln:(zE b (l.take (k+1))).length<=1000000000:=Nat.le_trans (mA b l (k+1)) hl
   have HJ:=Lib.hid (joinL_snoc b (l.take k) l[k])
   rw [←take_snocL l k hp] at HJ
   clear hc hcell
   by_cases h0:k=0
   ·subst h0
    have hx2:(mkS l[0]).size<=1000000000:=by
     rw [qX];rw [HJ.out,if_pos List.take_zero] at hln;exact hln
    have hck0:wr.cell? ad=some (.string (mkS l[0])):=hck
    clear hck
    go_wp2_with (go_at_call 35;refine (kZ w.heap.size w.heap.size _ (mkS l[0]) _ hI ?_ hsz).mono ?_)
    ·rw [Lib.byteCells_length];simp [zE];omega
    rintro e w1 ⟨rfl,h1,hb1⟩
    go_wp2
    go_roundw
    case rel=>exact ⟨0+1,by go_num,by omega,by rw [HJ.out,if_pos List.take_zero];exact Or.inr h1,hb.trans hb1⟩
    case measure=>simp [intOf];omega
   ·have h0p:0<k:=by omega
    have hlen:(zE b (l.take k)).length+(l[k].length+1)<=1000000000:=by
     rw [HJ.out,if_neg (jH l k hp h0p),List.length_append,List.length_cons] at hln;exact hln
    go_wp2_with (go_at_call 111;refine (writeByte_any w.heap.size w.heap.size _ _ _ hI ?_ hsz).mono ?_)
    ·rw [Lib.byteCells_length];omega
    rintro e w1 ⟨rfl,h1,hb1⟩
    have hsz1:=(hb.trans hb1).size
    go_wp2_with (go_at_call 35;refine (kZ w.heap.size w.heap.size _ (mkS l[k]) _ (Or.inr h1) ?_ hsz1).mono ?_)
    ·rw [List.length_append,Lib.byteCells_length,qX];simp;omega
    rintro e w2 ⟨rfl,h2,hb2⟩
    go_wp2
    go_roundw
    case rel=>exact ⟨k+1,by go_num,by omega,by rw [HJ.out,if_neg (jH l k hp h0p),bc_join];exact Or.inr h2,(hb.trans hb1).trans hb2⟩
    case measure=>simp [intOf];omega
  ·obtain rfl:k=l.length:=by omega
   go_wp2_with (go_at_call 39;refine (string_any w.heap.size w.heap.size _ _ hI (by rw [List.take_length];exact hne)).mono ?_)
   rintro e w1 ⟨rfl,hb1⟩
   go_wp2
   go_ret
   exact ⟨qD rfl,hb.trans hb1⟩
theorem SlT.readsT {v:Value}{l:List YL}{ob L:List Blk}{M:List Nat}{W w:World}(h:SlT v l ob)(hO:Own M W w L)(hs:∀ x∈ob,x∈L):ReadsT w w.heap.size v l:=by
 obtain ⟨A,cap,rfl⟩:=h.form
 refine ⟨A,cap,rfl,λh0=> ?_⟩
 obtain ⟨b,off,e,hlt,hc⟩:=SlT.reads h rfl hO hs h0
 refine ⟨⟨b,off,none⟩,e,hlt,λj hj=> ?_⟩
 rw [yI]
 refine hc j _ ?_
 rw [←x5]
 unfold vH
 rw [List.getElem?_map,List.getElem?_eq_getElem hj];rfl
end
section
theorem rnumeric_any (s:ByteArray)(w:World)(hs:s.size<=maxLen):
  YC 207 #[.string s] w λe w'=>e= .returned (.bool (yY s.data.toList))/\w=w':=by
 unfold maxLen at hs
 go_enter Tryz.func207,Tryz.ntmps207
 go_wp2
 go_loop [3] (λi=>∃ k:Nat,k<=s.size/\i=YI k/\Hid (y6 (s.data.toList.drop k)=y6 s.data.toList)) (λi=>s.size-(intOf i).toNat)
 case atStart=>exact ⟨0,Nat.zero_le _,rfl,rfl⟩
 case round=>
  obtain ⟨k,hk,rfl,HR⟩:=hrel
  by_cases hp:k<s.size
  ·have HD:=Lib.hid (kB s k hp)
   by_cases h1:((s[k]'hp).toNat:Int)<48
   ·go_wp2
    go_ret
    exact ⟨zQ (by unfold yY;rw [←HR.out,HD.out,qG _ _ (by unfold yH;simp;omega),Bool.and_false]),rfl⟩
   ·by_cases h2:(57:Int)<(s[k]'hp).toNat
    ·go_wp2
     go_ret
     exact ⟨zQ (by unfold yY;rw [←HR.out,HD.out,qG _ _ (by unfold yH;simp;omega),Bool.and_false]),rfl⟩
    ·go_wp2
     go_round
     case rel=>exact ⟨k+1,by omega,by go_num,by rw [←HR.out,HD.out,fB _ _ (by unfold yH;simp;omega)];rfl⟩
     case measure=>simp [intOf];omega
  ·have HD:=Lib.hid (gM s k hp)
   have hl:s.data.toList.length=s.size:=q7 s
   by_cases h0:s.size=0
   ·have he:s.data.toList=[]:=List.eq_nil_of_length_eq_zero Om
    have h0i:¬ (0:Int)<s.size:=by omega
    have HE:=Lib.hid he
    clear he h0 hl
    go_wp2
    go_ret
    exact ⟨zQ (by unfold yY;rw [HE.out];simp;exact ByteArray.ext (Array.toList_inj.1 HE.out)),rfl⟩
   ·have he:s.data.toList.isEmpty=false:=by
     cases h:s.data.toList with
     |nil=>rw [h] at hl;simp at hl;omega
     |cons _ _=>rfl
    have h0i:(0:Int)<s.size:=by omega
    have HE:=Lib.hid he
    clear he h0 hl
    go_wp2
    go_ret
    exact ⟨zQ (by unfold yY;rw [HE.out,←HR.out,HD.out];simp [y6];omega),rfl⟩
theorem mN (t:YL)(w:World)(ht:t.length<=maxLen):
  YC 206 #[.string (mkS t)] w λe w'=>e= .returned (.tuple #[YI (yZ t),.bool (gG t)])/\w=w':=by
 have:=rnumber_any (mkS t) w (by rw [y4];exact ht)
 rw [numV_mk,numOk_mk] at this
 exact this
theorem tW (t:YL)(w:World)(ht:t.length<=maxLen):
  YC 207 #[.string (mkS t)] w λe w'=>e= .returned (.bool (yY t))/\w=w':=by
 have:=rnumeric_any (mkS t) w (by rw [y4];exact ht)
 rw [mk_data] at this
 exact this
theorem rsplit_mk (s:YL)(w:World)(hs:s.length<=1000000):
  YC 157 #[.string (mkS s),.int .u8 46] w λe w'=>∃ v,e= .returned v/\w'.ownsRow w.heap.size 9 1 v (pcs s).length (vH (pcs s))/\YB w w':=by
 have:=rsplit_any (mkS s) 46 w (by rw [y4];exact hs)
 unfold g0 at this
 rw [mk_data] at this
 exact this
theorem dR (s:YL):∀ x∈pcs s,x.length<=s.length:=by
 intro x hx
 have:=split_le 46 s [] x hx
 simpa using this
theorem pcs_len (s:YL):(pcs s).length<=s.length+1:=by
 unfold pcs;rw [split_len]
 have:=List.length_filter_le (λx:UInt8=>x==46) s
 omega
def wW (s:YL)(b:Bool):Bool:=s.isEmpty||(decide ((pcs s).length<=4) && (pcs s).all λt=>kK t && !(b && yY t && !gG t))
theorem all_both {α:Type}(p q r:α->Bool)(h:∀ x,r x=(p x && q x))(l:List α):l.all r=(l.all p && l.all q):=by
 induction l with
 |nil=>rfl
 |cons a l ih=>
  rw [List.all_cons,List.all_cons,List.all_cons,ih,h]
  cases p a<;>cases q a<;>simp
theorem tagsB_pre (s:YL):wW s true=d9 s:=by
 unfold wW d9 qY mQ
 cases s.isEmpty
 ·simp only [Bool.false_or,Bool.true_and,Bool.and_assoc]
  congr 1
  refine all_both _ _ _ (λt=> ?_) _
  cases kK t<;>cases yY t<;>cases gG t<;>rfl
 ·rfl
theorem tagsB_build (s:YL):wW s false=qY s:=by
 unfold wW qY
 simp
def tagF (b:Bool)(t:YL):Bool:=kK t && !(b && yY t && !gG t)
theorem tagsB_eq (s:YL)(b:Bool):wW s b=(s.isEmpty||(decide ((pcs s).length<=4) && (pcs s).all (tagF b))):=rfl
theorem all_cut {l:List YL}{p:YL->Bool}(k:Nat)(h:k<l.length)(hb:p l[k]=false):l.all p=false:=by
 rw [Bool.eq_false_iff];intro e
 have:=List.all_eq_true.1 e l[k] (List.getElem_mem h)
 rw [this] at hb;cases hb
end
section
theorem infoByte9:(Tryz.prog.info? 5).map (λi=>(i.zero.map (·.cells.size),i.size,i.bytes))=some (some 1,1,1):=by kernel_rfl
theorem byte_info:∃ i z,Tryz.prog.info? 5=some i/\i.zero=some z/\i.size=1/\z.cells.size=1/\i.bytes=1:=by
 have h:=infoByte9
 cases hi:Tryz.prog.info? 5 with
 |none=>rw [hi] at h;cases h
 |some i=>
  rw [hi] at h
  simp only [Option.map_some,Option.some.injEq,Prod.mk.injEq] at h
  cases hz:i.zero with
  |none=>rw [hz] at h;simp at h
  |some z=>rw [hz] at h;simp at h;exact ⟨i,z,rfl,hz,h.2.1,h.1,h.2.2⟩
theorem empty_of {s:ByteArray}(h:(s.size:Int)=0):s=⟨#[]⟩:=by
 have h2:s.data.size=0:=Int.ofNat.inj h
 exact ByteArray.ext (Array.eq_empty_of_size_eq_zero h2)
theorem sclone_any (s:ByteArray)(w:World)(hs:s.size<=281474976710656):
  YC 192 #[.string s] w (YR (.string s) w):=by
 refine Z2 (n:=18) Tryz.func192 rfl (ZO (Zv (.string ⟨#[]⟩) (ZN (qJ (ZO (Zv (.string s) (Zv (YI ((s).size)) ?_)))))))
 by_cases h1:((s).size:Int)=0
 ·refine Zg h1 (ZY (ZO (Zv (.string ⟨#[]⟩) (ZN (qK (vY (ZF (.string ⟨#[]⟩) Tryz.results192 ?_)))))))
  exact λw hO=>⟨by rw [empty_of (s:=s) (by assumption)],hO.below⟩
 refine Zh h1 (ZX (ZB (ZO (Zv (.string s) (Zv (YI ((s).size)) ?_)))))
 obtain ⟨i,z,e1,e2,e3,e4,e5⟩:=byte_info
 refine s_make (kl:= .i64) (kc:= .i64) (l:=(s.size:Int)) (c:=(s.size:Int)) Kr rfl Kr Kr Tryz.underlying36 e1 e2 Om Om (by rw [e5];omega) Om (λb=> ?_)
 rw [show ((s.size:Nat):Int).toNat=s.size from rfl]
 obtain ⟨cs,hcs⟩:∃ cs,cs=madeCells z.cells (s.size*i.size):=⟨_,rfl⟩
 have hcz:cs.size=s.size:=by rw [hcs,size_madeCells,e3];simp
 rw [←hcs]
 refine Zv (.slice (some ⟨b,0,none⟩) s.size s.size) (ZR (Zv (.slice (some ⟨b,0,none⟩) s.size s.size) (Zv (.string s) (s_copyS (b:=b) (cap:=s.size) (s:=s) (cs:=cs) Kr rfl Kr Kr Tryz.underlying36 Kr hcz (ZN (qJ (gT ?_)))))))
 exact Zv (.slice (some ⟨b,0,none⟩) s.size s.size) (kS (Zp b 0) Kr (ZV (b:=b) (off:=0) (n:=s.size) (c:=s.size) (k:= .i64) (j:=0) (e:=5) (sz:=1)) (Zv (.slice (some ⟨b,0,none⟩) s.size s.size) (Zv (YI (s.size:Int)) (s_ustr (s:=s) Kr rfl Kr Kr Tryz.underlying122 (by unfold Program.cellsOf;simp [e1,e3]) Om Om (Zv (.string s) (ZN (qK (ZF (.string s) Tryz.results192 (λw hO=>⟨rfl,hO.below⟩)))))))))
theorem fU (s:ByteArray)(w:World)(hs:s.size<=281474976710656):
  YC 147 #[.string s] w (YR (.string s) w):=by
 refine Z2 (n:=5) Tryz.func147 rfl (ZO (Zv (.string ⟨#[]⟩) (ZR (Zv (.string s) (Zc (k:=192) (args:= #[.string s]) (.string s) (λw _=>sclone_any s w hs) (Zv (.string s) (s_nil ?_)))))))
 exact jL (qK (ZF (.string s) Tryz.results147 (λw hO=>⟨rfl,hO.below⟩)))
end
section
def dY (a b c:Int):List YL:=[Lib.itoa a,Lib.itoa b,Lib.itoa c]
theorem digs_snoc (a b c:Int)(k:Nat)(hk:k<3):(dY a b c).take (k+1)=(dY a b c).take k++[Lib.itoa (dE a b c k)]:=by
 match k,hk with
 |0,_=>rfl
 |1,_=>rfl
 |2,_=>rfl
theorem bH (a b c:Int):zE 46 (dY a b c)=Lib.itoa a++46::(Lib.itoa b++46::Lib.itoa c):=rfl
theorem digits_mk (n:Int)(h0: -9223372036854775808<=n)(h1:n<=9223372036854775807)(w:World)(ht:HasTab w):
  YC 168 #[YI n] w (YR (.string (mkS (Lib.itoa n))) w):=digits_any n h0 h1 w ht
theorem dec_len (n:Nat)(h:n<=9999):(Lib.decDigits n).length<=4:=by
 rw [Lib.decDigits_length]
 unfold Lib.nDigits
 split
 ·omega
 ·unfold Lib.nDigits
  split
  ·omega
  ·unfold Lib.nDigits
   split
   ·omega
   ·rw [Lib.nDigits_small Om];omega
theorem jX {n:Int}(h:zR n=true):(Lib.itoa n).length<=4:=by
 rw [itoa_nat h]
 apply dec_len
 unfold zR at h;simp at h;omega
theorem nums_len {a b c:Int}(h1:zR a=true)(h2:zR b=true)(h3:zR c=true):(zE 46 (dY a b c)).length<=14:=by
 rw [bH]
 have:=jX h1;have:=jX h2;have:=jX h3
 simp;omega
theorem print_good (v:Ver)(w:World)(hp:v.pre.length<=1000000)(hq:v.build.length<=1000000)(hm:v.may=true)(ht:HasTab w):
  YC 117 #[yB v] w (YR (.string (mkS v.text)) w):=by
 obtain ⟨i0,hi,hz0,hz1,hz2⟩:=info_parts infoStr
 have cM:=λw'=>bT v w' Om Om
 have cN:=λw'=>numbers_any v w'
 obtain ⟨n1,n2,n3⟩:=bF hm
 have hT:v.text=zE 46 (dY v.maj v.min v.pat)++kD 45 v.pre++kD 43 v.build:=rfl
 obtain ⟨a,b,c,p,q⟩:=v
 rw [hm] at cM
 unfold yB at cN cM ⊢
 dsimp only at cN cM hp hq n1 n2 n3 hT ⊢
 have hjl:=nums_len n1 n2 n3
 have HT:=Lib.hid hT
 have H1:=Lib.hid n1
 have H2:=Lib.hid n2
 have H3:=Lib.hid n3
 clear hT hm n1 n2 n3
 go_enter Tryz.func117,Tryz.ntmps117
 go_wp2_with (first
  |(go_at_call 91;refine (cM _).mono ?_;rintro e w1 ⟨rfl,hb1⟩;have hg1:=Lib.hid ((hb1.block w.heap.size (by simp)).trans (bI w _)))
  |(refine wpList_load_row rfl 42 _ rfl w.heap.size rfl _ _ _ _ hg1.out Tryz.underlying42 rfl Kr ?_)
  |(go_at_call 140;refine (cN _).mono ?_;rintro e w2 ⟨rfl,hb2⟩))
 have hbw1:YB w w1:=((Below.refl _ _).alloc (Nat.le_refl _) _).trans (hb1.mono (by simp))
 have hsw:w.heap.size<w1.heap.size:=by have:=hb1.size;rw [nQ] at this;omega
 have hsw2:w.heap.size<w2.heap.size:=Nat.lt_of_lt_of_le hsw hb2.size
 have hg2:=Lib.hid ((hb2.block w.heap.size hsw).trans hg1.out)
 have ht2:HasTab w2:=(ht.on hbw1).on hb2
 go_loopw [3,12] (λv x wr=>∃ k:Nat,k<=3/\x=YI k/\wr.ownsRow w2.heap.size 9 1 v k (vH ((dY a b c).take k))/\YB w2 wr) (λ_ x _=>3-(intOf x).toNat)
 case atStart=>exact ⟨0,by omega,rfl,⟨rfl,Or.inl ⟨rfl,rfl⟩⟩,Below.refl _ _⟩
 case round=>
  obtain ⟨k,hk,rfl,hown,hbel⟩:=hrel
  have hsz:=hbel.size
  by_cases hk3:k<3
  ·have hki:(k:Int)<3:=by omega
   have hix:∀ w,(Instr.index 183 (.agg #[YI a,YI b,YI c]) (YI k)).run YP w= .ok (YI (dE a b c k)) w:=ix_num a b c k hk3
   have hnb:0<=dE a b c k/\dE a b c k<=9999:=by
    have h1:=H1.out;have h2:=H2.out;have h3:=H3.out
    unfold zR at h1 h2 h3;simp at h1 h2 h3
    unfold dE;split
    ·exact h1
    ·split
     ·exact h2
     ·exact h3
   obtain ⟨hn0,hn9⟩:=hnb
   go_wp2_with (first
    |(go_at_call 168;refine (digits_mk _ Om Om _ (ht2.on hbel)).mono ?_;rintro e w3 ⟨rfl,hb3⟩;have hown3:=wN hown hb3;have hsz3:=hb3.size)
    |(at_builtin;refine xK _ rfl _ _ 85 rfl w2.heap.size 9 i0 (.string ByteArray.empty) 1 16 Tryz.underlying85 hi hz0 hz1 hz2 rfl (by decide) _ _ _ rfl (hown3.alloc _) ⟨w3.heap.size,0,none⟩ 1 1 [.string (mkS (Lib.itoa (dE a b c k)))] rfl rfl ?c1 ?c2 ?c3 ?c4 ?c5 ?_))
   case c1=>
    intro j u hj
    match j,hj with
    |0,hj=>simp at hj;subst hj;simp [Addr.add]
   case c2=>intro u hu;simp at hu;subst hu;rfl
   case c3=>unfold maxLen;omega
   case c4=>omega
   case c5=>simp;omega
   intro v' w5 hown' hgrow _
   go_wp2
   go_roundw
   case rel=>
    refine ⟨k+1,by omega,by go_num, ?_,((hbel.trans (hb3.mono hsz)).alloc Om _).grown hgrow (by simp;omega) (λk hk=>(hown3.lt k hk).1)⟩
    rw [digs_snoc a b c k hk3,wX];exact hown'
   case measure=>simp [intOf];omega
  ·obtain rfl:k=3:=by omega
   have hki:¬ (((3:Nat):Int)<3):=by omega
   have hrd:=ReadsT.of_own (l:=dY a b c) hown
   have hg3:=Lib.hid ((hbel.block w.heap.size hsw2).trans hg2.out)
   have hbww:YB w w2:=hbw1.trans (hb2.mono Om)
   have hj0:(mkS (zE 46 (dY a b c))).size<=14:=by rw [y4];exact hjl
   have hp0:(mkS p).size<=1000000:=by rw [y4];exact hp
   have hq0:(mkS q).size<=1000000:=by rw [y4];exact hq
   have hp1:((⟨#[45]⟩:ByteArray)++mkS p).size<=1000001:=by rw [ByteArray.size_append];show 1+_<=_;omega
   have hq1:((⟨#[43]⟩:ByteArray)++mkS q).size<=1000001:=by rw [ByteArray.size_append];show 1+_<=_;omega
   have hjp:(mkS (zE 46 (dY a b c))++((⟨#[45]⟩:ByteArray)++mkS p)).size<=1000015:=by rw [ByteArray.size_append];omega
   by_cases hpe:p=[]
   ·have hpb:(mkS p).toList.isEmpty=true:=by rw [Lib.toList_data,mk_data,hpe];rfl
    have HPT:=Lib.hid (show kD 45 p=[] by rw [hpe];rfl)
    clear hpe
    by_cases hqe:q=[]
    ·have hqb:(mkS q).toList.isEmpty=true:=by rw [Lib.toList_data,mk_data,hqe];rfl
     have HQT:=Lib.hid (show kD 43 q=[] by rw [hqe];rfl)
     clear hqe
     go_wp2_with (go_at_call 72;refine (jW _ (dY a b c) 46 _ hrd Om (by simp [dY]) (by rw [bH];simp)).mono ?_;rintro e w4 ⟨rfl,hb4⟩;obtain ⟨c3,f3⟩:=g8 (j:=3) ((hb4.block w.heap.size Om).trans hg3.out) (by simp);obtain ⟨c4,f4⟩:=g8 (j:=4) ((hb4.block w.heap.size Om).trans hg3.out) (by simp);simp only [List.getElem_toArray,List.getElem_cons_succ,List.getElem_cons_zero] at c3 c4)
     go_ret
     exact ⟨qD (by rw [HT.out,HPT.out,HQT.out];simp),(hbww.trans (hbel.mono Om)).trans (hb4.mono Om)⟩
    ·have hqb:(mkS q).toList.isEmpty=false:=by rw [Lib.toList_data,mk_data];exact List.isEmpty_eq_false_iff.2 hqe
     have HQT:=Lib.hid (show kD 43 q=43::q by unfold kD;rw [if_neg (by simpa using hqe)])
     clear hqe
     go_wp2_with (go_at_call 72;refine (jW _ (dY a b c) 46 _ hrd Om (by simp [dY]) (by rw [bH];simp)).mono ?_;rintro e w4 ⟨rfl,hb4⟩;obtain ⟨c3,f3⟩:=g8 (j:=3) ((hb4.block w.heap.size Om).trans hg3.out) (by simp);obtain ⟨c4,f4⟩:=g8 (j:=4) ((hb4.block w.heap.size Om).trans hg3.out) (by simp);simp only [List.getElem_toArray,List.getElem_cons_succ,List.getElem_cons_zero] at c3 c4)
     go_ret
     exact ⟨qD (by rw [HT.out,HPT.out,HQT.out,show (⟨#[43]⟩:ByteArray)=mkS [43] from rfl,yJ,yJ];simp),(hbww.trans (hbel.mono Om)).trans (hb4.mono Om)⟩
   ·have hpb:(mkS p).toList.isEmpty=false:=by rw [Lib.toList_data,mk_data];exact List.isEmpty_eq_false_iff.2 hpe
    have HPT:=Lib.hid (show kD 45 p=45::p by unfold kD;rw [if_neg (by simpa using hpe)])
    clear hpe
    by_cases hqe:q=[]
    ·have hqb:(mkS q).toList.isEmpty=true:=by rw [Lib.toList_data,mk_data,hqe];rfl
     have HQT:=Lib.hid (show kD 43 q=[] by rw [hqe];rfl)
     clear hqe
     go_wp2_with (go_at_call 72;refine (jW _ (dY a b c) 46 _ hrd Om (by simp [dY]) (by rw [bH];simp)).mono ?_;rintro e w4 ⟨rfl,hb4⟩;obtain ⟨c3,f3⟩:=g8 (j:=3) ((hb4.block w.heap.size Om).trans hg3.out) (by simp);obtain ⟨c4,f4⟩:=g8 (j:=4) ((hb4.block w.heap.size Om).trans hg3.out) (by simp);simp only [List.getElem_toArray,List.getElem_cons_succ,List.getElem_cons_zero] at c3 c4)
     go_ret
     exact ⟨qD (by rw [HT.out,HPT.out,HQT.out,show (⟨#[45]⟩:ByteArray)=mkS [45] from rfl,yJ,yJ];simp),(hbww.trans (hbel.mono Om)).trans (hb4.mono Om)⟩
    ·have hqb:(mkS q).toList.isEmpty=false:=by rw [Lib.toList_data,mk_data];exact List.isEmpty_eq_false_iff.2 hqe
     have HQT:=Lib.hid (show kD 43 q=43::q by unfold kD;rw [if_neg (by simpa using hqe)])
     clear hqe
     go_wp2_with (go_at_call 72;refine (jW _ (dY a b c) 46 _ hrd Om (by simp [dY]) (by rw [bH];simp)).mono ?_;rintro e w4 ⟨rfl,hb4⟩;obtain ⟨c3,f3⟩:=g8 (j:=3) ((hb4.block w.heap.size Om).trans hg3.out) (by simp);obtain ⟨c4,f4⟩:=g8 (j:=4) ((hb4.block w.heap.size Om).trans hg3.out) (by simp);simp only [List.getElem_toArray,List.getElem_cons_succ,List.getElem_cons_zero] at c3 c4)
     go_ret
     exact ⟨qD (by rw [HT.out,HPT.out,HQT.out,show (⟨#[45]⟩:ByteArray)=mkS [45] from rfl,show (⟨#[43]⟩:ByteArray)=mkS [43] from rfl,yJ,yJ,yJ,yJ];simp),(hbww.trans (hbel.mono Om)).trans (hb4.mono Om)⟩
theorem print_none (v:Ver)(w:World)(hp:v.pre.length<=1000000)(hq:v.build.length<=1000000)(hm:v.may=false):
  YC 117 #[yB v] w (YR (.string (mkS [])) w):=by
 have cM:=λw'=>bT v w' Om Om
 rw [hm] at cM
 obtain ⟨a,b,c,p,q⟩:=v
 unfold yB at cM ⊢
 dsimp only at cM ⊢
 clear hm
 go_enter Tryz.func117,Tryz.ntmps117
 go_wp2_with (go_at_call 91;refine (cM _).mono ?_;rintro e w1 ⟨rfl,hb1⟩)
 go_ret
 exact ⟨rfl,((Below.refl _ _).alloc (Nat.le_refl _) _).trans (hb1.mono (by simp))⟩
theorem vprint_any (v:Ver)(w:World)(hp:v.pre.length<=1000000)(hq:v.build.length<=1000000)(ht:HasTab w):
  YC 117 #[yB v] w (YR (.string (mkS v.print)) w):=by
 cases hm:v.may with
 |true=>rw [print_eq hm];exact print_good v w hp hq hm ht
 |false=>rw [print_bad hm];exact print_none v w hp hq hm
end
section
def parV (s:YL):Ver:=(parseR s).getD Ver.zero
def parE (s:YL):Int:=if (parseR s).isSome then 0 else 5
def PEnd (s:YL)(w:World)(e:Ending)(w':World):Prop:=e= .returned (.tuple #[yB (parV s),YI (parE s)])/\YB w w'
end
section
def x4:List Nat->List Nat->Int
 | [],[]=>0
 | [],_::_=> -1
 |_::_,[]=>1
 |a::l,b::m=>if a<b then-1 else if b<a then 1 else x4 l m
theorem cmpL_cons (a b:Nat)(l m:List Nat):x4 (a::l) (b::m)=if a<b then-1 else if b<a then 1 else x4 l m:=rfl
theorem tL (a:List Nat):x4 a a=0:=by
 induction a with
 |nil=>rfl
 |cons x l ih=>rw [x4,if_neg Om,if_neg Om];exact ih
theorem cmpL_anti (a:List Nat):∀ b,x4 b a= -x4 a b:=by
 induction a with
 |nil=>intro b;cases b<;>rfl
 |cons x l ih=>
  intro b
  cases b with
  |nil=>rfl
  |cons y m=>
   rw [x4,x4]
   by_cases h1:x<y
   ·rw [if_neg Om,if_pos h1,if_pos h1];rfl
   ·by_cases h2:y<x
    ·rw [if_pos h2,if_neg h1,if_pos h2]
    ·rw [if_neg h2,if_neg h1,if_neg h1,if_neg h2];exact ih m
theorem cmpL_range (a:List Nat):∀ b,x4 a b= -1\/x4 a b=0\/x4 a b=1:=by
 induction a with
 |nil=>intro b;cases b<;>simp [x4]
 |cons x l ih=>
  intro b
  cases b with
  |nil=>simp [x4]
  |cons y m=>
   rw [x4]
   split
   ·simp
   ·split
    ·simp
    ·exact ih m
theorem fT (a:List Nat):∀ b,x4 a b=0->a=b:=by
 induction a with
 |nil=>intro b;cases b<;>simp [x4]
 |cons x l ih=>
  intro b
  cases b with
  |nil=>simp [x4]
  |cons y m=>
   rw [x4]
   split
   ·intro h;omega
   ·split
    ·intro h;omega
    ·intro h;rw [ih m h,show x=y from by omega]
theorem cmpL_trans (a:List Nat):∀ b c,x4 a b<=0->x4 b c<=0->x4 a c<=0/\(x4 a c=0->x4 a b=0/\x4 b c=0):=by
 induction a with
 |nil=>
  intro b c h1 h2
  cases b with
  |nil=>cases c<;>simp [x4]
  |cons y m=>
   cases c with
   |nil=>simp [x4] at h2
   |cons z n=>simp [x4]
 |cons x l ih=>
  intro b c h1 h2
  cases b with
  |nil=>simp [x4] at h1
  |cons y m=>
   cases c with
   |nil=>simp [x4] at h2
   |cons z n=>
    simp only [cmpL_cons] at h1 h2 ⊢
    by_cases a1:x<y
    ·simp only [if_pos a1] at h1 ⊢
     by_cases a2:y<z
     ·have:x<z:=by omega
      simp only [if_pos this];omega
     ·by_cases a3:z<y
      ·simp only [if_neg a2,if_pos a3] at h2;omega
      ·have:x<z:=by omega
       simp only [if_pos this];omega
    ·by_cases a1':y<x
     ·simp only [if_neg a1,if_pos a1'] at h1;omega
     ·simp only [if_neg a1,if_neg a1'] at h1 ⊢
      obtain rfl:x=y:=by omega
      by_cases a2:x<z
      ·simp only [if_pos a2];omega
      ·by_cases a3:z<x
       ·simp only [if_neg a2,if_pos a3] at h2;omega
       ·simp only [if_neg a2,if_neg a3] at h2 ⊢
        exact ih m n h1 h2
def p6 (a b:YL):Int:=
 if yY a && yY b then Lib.compareInt (yZ a) (yZ b) else if yY a then-1 else if yY b then 1 else Lib.compareBytes a b
def gY:List YL->List YL->Int
 | [],[]=>0
 | [],_::_=> -1
 |_::_,[]=>1
 |a::l,b::m=>if p6 a b≠0 then p6 a b else gY l m
def m7 (a b:YL):Int:=if a=b then 0 else if a=[] then 1 else if b=[] then-1 else gY (pcs a) (pcs b)
def mK (t:YL):List Nat:=if yY t then [1,(yZ t).toNat] else 2::(t.map (λc=>c.toNat+1)++[0])
def wF (l:List YL):List Nat:=l.flatMap mK++[0]
def preKey (p:YL):List Nat:=if p=[] then [3] else wF (pcs p)
def Ver.key (v:Ver):List Nat:=v.maj.toNat::v.min.toNat::v.pat.toNat::preKey v.pre
theorem numD_nat (t:YL):0<=yZ t:=by unfold yZ;omega
theorem cmpL_bytes (a:YL):∀ (b:YL) (x y:List Nat),x4 (a.map (λc=>c.toNat+1)++0::x) (b.map (λc=>c.toNat+1)++0::y)=if Lib.compareBytes a b≠0 then Lib.compareBytes a b else x4 x y:=by
 induction a with
 |nil=>
  intro b x y
  cases b with
  |nil=>simp [x4,Lib.compareBytes]
  |cons c r=>simp [x4,Lib.compareBytes]
 |cons c r ih=>
  intro b x y
  cases b with
  |nil=>simp [x4,Lib.compareBytes]
  |cons d q=>
   simp only [List.map_cons,List.cons_append,cmpL_cons]
   by_cases h1:c<d
   ·have h1':c.toNat<d.toNat:=UInt8.lt_iff_toNat_lt.1 h1
    have e:Lib.compareBytes (c::r) (d::q)= -1:=by rw [Lib.compareBytes,if_pos h1]
    rw [e,if_pos Om];rfl
   ·by_cases h2:d<c
    ·have h2':d.toNat<c.toNat:=UInt8.lt_iff_toNat_lt.1 h2
     have e:Lib.compareBytes (c::r) (d::q)=1:=by rw [Lib.compareBytes,if_neg h1,if_pos h2]
     rw [e,if_neg Om,if_pos Om];rfl
    ·have a1:¬ c.toNat<d.toNat:=λh=>h1 (UInt8.lt_iff_toNat_lt.2 h)
     have a2:¬ d.toNat<c.toNat:=λh=>h2 (UInt8.lt_iff_toNat_lt.2 h)
     have e:Lib.compareBytes (c::r) (d::q)=Lib.compareBytes r q:=by rw [Lib.compareBytes,if_neg h1,if_neg h2]
     rw [e,if_neg Om,if_neg Om]
     exact ih q x y
theorem cmpL_tag (a b:YL)(x y:List Nat):x4 (mK a++x) (mK b++y)=if p6 a b≠0 then p6 a b else x4 x y:=by
 unfold mK p6
 cases ha:yY a<;>cases hb:yY b
 ·have:=cmpL_bytes a b x y
  simpa [x4] using this
 ·simp [x4]
 ·simp [x4]
 ·have h1:=numD_nat a
  have h2:=numD_nat b
  simp only [Bool.and_true,if_true,List.cons_append,List.nil_append,x4,Lib.compareInt]
  by_cases h:yZ a<yZ b
  ·rw [if_pos h,if_pos (by omega:(yZ a).toNat<(yZ b).toNat)];rfl
  ·by_cases h':yZ b<yZ a
   ·rw [if_neg h,if_pos h',if_neg (by omega:¬ (yZ a).toNat<(yZ b).toNat),if_pos (by omega:(yZ b).toNat<(yZ a).toNat)];rfl
   ·rw [if_neg h,if_neg h',if_neg (by omega:¬ (yZ a).toNat<(yZ b).toNat),if_neg (by omega:¬ (yZ b).toNat<(yZ a).toNat)];rfl
theorem tag_cons (a:YL):∃ k r,mK a=k::r/\0<k/\k<3:=by
 unfold mK;split
 ·exact ⟨_,_,rfl,by omega,by omega⟩
 ·exact ⟨_,_,rfl,by omega,by omega⟩
theorem cmpL_tail (l:List YL):∀ m,x4 (wF l) (wF m)=gY l m:=by
 induction l with
 |nil=>
  intro m
  cases m with
  |nil=>rfl
  |cons b m=>
   obtain ⟨k,r,e,h,_⟩:=tag_cons b
   unfold wF
   rw [List.flatMap_cons,e]
   simp [x4,gY,h]
 |cons a l ih=>
  intro m
  cases m with
  |nil=>
   obtain ⟨k,r,e,h,_⟩:=tag_cons a
   unfold wF
   rw [List.flatMap_cons,e]
   simp [x4,gY,h]
  |cons b m=>
   have:=ih m
   unfold wF at this ⊢
   rw [List.flatMap_cons,List.flatMap_cons,List.append_assoc,List.append_assoc,cmpL_tag,this,gY]
theorem tail_small (l:List YL):∃ k r,wF l=k::r/\k<3:=by
 unfold wF
 cases l with
 |nil=>exact ⟨0,[],rfl,by omega⟩
 |cons a l=>
  obtain ⟨k,r,e,_,h⟩:=tag_cons a
  exact ⟨k,r++(l.flatMap mK++[0]),by rw [List.flatMap_cons,e];simp,h⟩
theorem presR_key (a b:YL):m7 a b=x4 (preKey a) (preKey b):=by
 unfold m7
 by_cases h:a=b
 ·rw [if_pos h,h,tL]
 ·rw [if_neg h]
  unfold preKey
  by_cases ha:a=[]
  ·have hb:b≠[]:=λe=>h (ha.trans e.symm)
   rw [if_pos ha,if_pos ha,if_neg hb]
   obtain ⟨k,r,e,hk⟩:=tail_small (pcs b)
   rw [e,x4,if_neg Om,if_pos hk]
  ·rw [if_neg ha,if_neg ha]
   by_cases hb:b=[]
   ·rw [if_pos hb,if_pos hb]
    obtain ⟨k,r,e,hk⟩:=tail_small (pcs a)
    rw [e,x4,if_pos hk]
   ·rw [if_neg hb,if_neg hb];exact (cmpL_tail _ _).symm
def cmpN (v w:Ver):Int:=
 if Lib.compareInt v.maj w.maj≠0 then Lib.compareInt v.maj w.maj
 else if Lib.compareInt v.min w.min≠0 then Lib.compareInt v.min w.min
 else Lib.compareInt v.pat w.pat
def zX (v w:Ver):Int:=if v.may && w.may then (if cmpN v w≠0 then cmpN v w else m7 v.pre w.pre) else 0
theorem may_nat {v:Ver}(h:v.may=true):(0<=v.maj/\v.maj<=9999)/\(0<=v.min/\v.min<=9999)/\(0<=v.pat/\v.pat<=9999):=by
 obtain ⟨h1,h2,h3⟩:=bF h
 unfold zR at h1 h2 h3;simp at h1 h2 h3
 exact ⟨h1,h2,h3⟩
theorem cmpL_num {a b:Int}(ha:0<=a)(hb:0<=b)(x y:List Nat):x4 (a.toNat::x) (b.toNat::y)=if Lib.compareInt a b≠0 then Lib.compareInt a b else x4 x y:=by
 rw [x4]
 unfold Lib.compareInt
 by_cases h:a<b
 ·rw [if_pos h,if_pos Om];rfl
 ·by_cases h':b<a
  ·rw [if_neg h,if_pos h',if_neg Om,if_pos Om];rfl
  ·rw [if_neg h,if_neg h',if_neg Om,if_neg Om];rfl
theorem gO {v w:Ver}(hv:v.may=true)(hw:w.may=true):zX v w=x4 v.key w.key:=by
 obtain ⟨v1,v2,v3⟩:=may_nat hv
 obtain ⟨w1,w2,w3⟩:=may_nat hw
 unfold zX
 rw [hv,hw,presR_key]
 unfold Ver.key
 rw [cmpL_num v1.1 w1.1,cmpL_num v2.1 w2.1,cmpL_num v3.1 w3.1]
 unfold cmpN
 simp only [Bool.and_true,if_true]
 by_cases h1:Lib.compareInt v.maj w.maj=0
 ·by_cases h2:Lib.compareInt v.min w.min=0
  ·simp [h1,h2]
  ·simp [h1,h2]
 ·simp [h1]
def mV (a b:YL):Int:=
 if gG a && gG b then Lib.compareInt (yZ a) (yZ b) else if gG a && !b.isEmpty then-1 else if gG b && !a.isEmpty then 1 else Lib.compareBytes a b
def pX:Nat->List YL->List YL->Int
 |0,_,_=>0
 |n+1,l,m=>if mV (tg l 0) (tg m 0)≠0 then mV (tg l 0) (tg m 0) else pX n l.tail m.tail
theorem numI_numer {t:YL}(h:mQ t=true):gG t=yY t:=by
 cases hi:gG t with
 |true=>
  unfold gG at hi
  obtain ⟨n,hn⟩:=Option.isSome_iff_exists.1 hi
  obtain ⟨e,_⟩:=numGo_back t n hn
  unfold yY
  have h1:=(dec_fold n).1
  rw [e,h1]
  cases hd:Lib.decDigits n with
  |nil=>have:=congrArg List.length hd;rw [Lib.decDigits_length] at this;have:=Lib.nDigits_pos n;simp at*;omega
  |cons _ _=>rfl
 |false=>unfold mQ at h;rw [hi,Bool.or_false] at h;simpa using h.symm
def fine (t:YL):Bool:=kK t && mQ t
theorem fine_ne {t:YL}(h:fine t=true):t≠[]:=by
 unfold fine at h;rw [Bool.and_eq_true] at h
 have:=(tagOk_len h.1).1
 intro e;subst e;simp at this
theorem oneP_one {a b:YL}(ha:fine a=true)(hb:fine b=true):mV a b=p6 a b:=by
 have n1:=fine_ne ha
 have n2:=fine_ne hb
 unfold fine at ha hb;rw [Bool.and_eq_true] at ha hb
 unfold mV p6
 rw [numI_numer ha.2,numI_numer hb.2]
 have e1:a.isEmpty=false:=by cases a<;>simp_all
 have e2:b.isEmpty=false:=by cases b<;>simp_all
 rw [e1,e2];simp
theorem oneP_nil:mV [] []=0:=by decide
theorem oneP_left {b:YL}(h:b≠[]):mV [] b= -1:=by
 unfold mV
 have e:gG []=false:=by decide
 rw [e]
 cases b with
 |nil=>exact absurd rfl h
 |cons c r=>simp [Lib.compareBytes]
theorem oneP_right {a:YL}(h:a≠[]):mV a []=1:=by
 unfold mV
 have e:gG []=false:=by decide
 rw [e]
 cases a with
 |nil=>exact absurd rfl h
 |cons c r=>simp [Lib.compareBytes]
theorem seqP_pres (n:Nat):∀ l m,l.length<=n->m.length<=n->l.all fine=true->m.all fine=true->pX n l m=gY l m:=by
 induction n with
 |zero=>
  intro l m hl hm _ _
  obtain rfl:l=[]:=List.eq_nil_of_length_eq_zero Om
  obtain rfl:m=[]:=List.eq_nil_of_length_eq_zero Om
  rfl
 |succ n ih=>
  intro l m hl hm fl fm
  unfold pX
  match l,m with
  | [],[]=>
   rw [show tg [] 0=[] from rfl,oneP_nil]
   simpa using ih [] [] (by simp) (by simp) rfl rfl
  | [],b::m=>
   rw [List.all_cons,Bool.and_eq_true] at fm
   rw [show tg [] 0=[] from rfl,show tg (b::m) 0=b from rfl,oneP_left (fine_ne fm.1)]
   rfl
  |a::l,[]=>
   rw [List.all_cons,Bool.and_eq_true] at fl
   rw [show tg [] 0=[] from rfl,show tg (a::l) 0=a from rfl,oneP_right (fine_ne fl.1)]
   rfl
  |a::l,b::m=>
   rw [List.all_cons,Bool.and_eq_true] at fl fm
   rw [show tg (a::l) 0=a from rfl,show tg (b::m) 0=b from rfl,oneP_one fl.1 fm.1,gY]
   simp at hl hm
   rw [show (a::l).tail=l from rfl,show (b::m).tail=m from rfl,ih l m hl hm fl.2 fm.2]
def cpre (a b:YL):Int:=if a=[] then 1 else if b=[] then-1 else pX 4 (lst a).1 (lst b).1
theorem pre_fine {p:YL}(h:d9 p=true)(hne:p≠[]):(lst p).1=pcs p/\(pcs p).all fine=true/\(pcs p).length<=4:=by
 have e:p.isEmpty=false:=by cases p<;>simp_all
 have hl:qY p=true:=by unfold d9 at h;rw [Bool.and_eq_true] at h;exact h.1
 have h1:=lst_all p hl
 rw [e] at h1
 have h1':(lst p).1=pcs p:=by simpa using h1
 refine ⟨h1', ?_, ?_⟩
 ·unfold d9 at h;rw [e,Bool.false_or,Bool.and_eq_true] at h
  unfold qY at hl;rw [e,Bool.false_or,Bool.and_eq_true] at hl
  rw [List.all_eq_true]
  intro x hx
  unfold fine
  rw [List.all_eq_true.1 hl.2 x hx,List.all_eq_true.1 h.2 x hx];rfl
 ·rw [←h1'];exact lst_len p
theorem cpre_pres {a b:YL}(ha:d9 a=true)(hb:d9 b=true)(hne:a≠b):cpre a b=m7 a b:=by
 unfold cpre m7
 rw [if_neg hne]
 by_cases h1:a=[]
 ·rw [if_pos h1,if_pos h1]
 ·rw [if_neg h1,if_neg h1]
  by_cases h2:b=[]
  ·rw [if_pos h2,if_pos h2]
  ·rw [if_neg h2,if_neg h2]
   obtain ⟨e1,f1,l1⟩:=pre_fine ha h1
   obtain ⟨e2,f2,l2⟩:=pre_fine hb h2
   rw [e1,e2]
   exact seqP_pres 4 _ _ l1 l2 f1 f2
theorem cmpR_bad {v w:Ver}(h:v.may=false\/w.may=false):zX v w=0:=by
 unfold zX
 rw [if_neg]
 rcases h with h|h<;>simp [h]
def kE (v:Ver):Ver:={v with build:=[]}
theorem dD (x:Int):Lib.compareInt x x=0:=by unfold Lib.compareInt;simp
theorem cmpR_core {v w:Ver}(h:kE v=kE w):zX v w=0:=by
 unfold kE at h
 simp only [Ver.mk.injEq,and_true] at h
 obtain ⟨h1,h2,h3,h4⟩:=h
 unfold zX cmpN m7
 rw [h1,h2,h3,h4]
 simp [dD]
theorem jA {a b:Int}(h:Lib.compareInt a b=0):a=b:=by
 unfold Lib.compareInt at h
 split at h
 ·omega
 ·split at h
  ·omega
  ·omega
theorem cmpR_go {v w:Ver}(hv:v.may=true)(hw:w.may=true)(hc:¬ kE v=kE w):zX v w=if cmpN v w≠0 then cmpN v w else cpre v.pre w.pre:=by
 unfold zX
 rw [hv,hw]
 simp only [Bool.and_true,if_true]
 by_cases h:cmpN v w=0
 ·rw [if_neg (by simpa using h),if_neg (by simpa using h)]
  refine (cpre_pres ?_ ?_ ?_).symm
  ·unfold Ver.may at hv;simp only [Bool.and_eq_true] at hv;exact hv.1.2
  ·unfold Ver.may at hw;simp only [Bool.and_eq_true] at hw;exact hw.1.2
  ·intro e
   apply hc
   unfold cmpN at h
   have h1:Lib.compareInt v.maj w.maj=0:=by
    by_cases g:Lib.compareInt v.maj w.maj=0
    ·exact g
    ·rw [if_pos g] at h;exact absurd h g
   rw [if_neg (by simpa using h1)] at h
   have h2:Lib.compareInt v.min w.min=0:=by
    by_cases g:Lib.compareInt v.min w.min=0
    ·exact g
    ·rw [if_pos g] at h;exact absurd h g
   rw [if_neg (by simpa using h2)] at h
   unfold kE
   rw [jA h1,jA h2,jA h,e]
 ·rw [if_pos h,if_pos h]
end
section
theorem wZ (a b:Int)(w:World):
  YC 106 #[YI a,YI b] w λe w'=>e= .returned (YI (Lib.compareInt a b))/\w=w':=by
 by_cases h1:a<b
 ·have HV:Hid (Lib.compareInt a b= -1):=by show _=_;unfold Lib.compareInt;rw [if_pos h1]
  go_enter Tryz.func106,Tryz.ntmps106
  go_wp2
  go_ret
  exact ⟨qV HV.out.symm,rfl⟩
 ·by_cases h2:b<a
  ·have HV:Hid (Lib.compareInt a b=1):=by show _=_;unfold Lib.compareInt;rw [if_neg h1,if_pos h2]
   go_enter Tryz.func106,Tryz.ntmps106
   go_wp2
   go_ret
   exact ⟨qV HV.out.symm,rfl⟩
  ·have HV:Hid (Lib.compareInt a b=0):=by show _=_;unfold Lib.compareInt;rw [if_neg h1,if_neg h2]
   go_enter Tryz.func106,Tryz.ntmps106
   go_wp2
   go_ret
   exact ⟨qV HV.out.symm,rfl⟩
theorem less_cmp (a:YL):∀ b,Op.bytesLess a b=decide (Lib.compareBytes a b= -1):=by
 induction a with
 |nil=>intro b;cases b<;>simp [Op.bytesLess,Lib.compareBytes]
 |cons x l ih=>
  intro b
  cases b with
  |nil=>simp [Op.bytesLess,Lib.compareBytes]
  |cons y m=>
   rw [Op.bytesLess,Lib.compareBytes,ih]
   by_cases h1:x<y
   ·simp [h1]
   ·by_cases h2:y<x
    ·simp [h1,h2]
     intro e;subst e;exact absurd h2 h1
    ·have e:x=y:=UInt8.le_antisymm (UInt8.not_lt.1 h2) (UInt8.not_lt.1 h1)
     simp [e]
theorem cmpB_zero (a:YL):∀ b,Lib.compareBytes a b=0↔a=b:=by
 induction a with
 |nil=>intro b;cases b<;>simp [Lib.compareBytes]
 |cons x l ih=>
  intro b
  cases b with
  |nil=>simp [Lib.compareBytes]
  |cons y m=>
   rw [Lib.compareBytes]
   by_cases h1:x<y
   ·simp [h1];intro e;subst e;exact absurd h1 (UInt8.lt_irrefl _)
   ·by_cases h2:y<x
    ·simp [h1,h2];intro e;subst e;exact absurd h2 (UInt8.lt_irrefl _)
    ·have e:x=y:=UInt8.le_antisymm (UInt8.not_lt.1 h2) (UInt8.not_lt.1 h1)
     simp [e,ih]
theorem cmpB_range (a:YL):∀ b,Lib.compareBytes a b= -1\/Lib.compareBytes a b=0\/Lib.compareBytes a b=1:=by
 induction a with
 |nil=>intro b;cases b<;>simp [Lib.compareBytes]
 |cons x l ih=>
  intro b
  cases b with
  |nil=>simp [Lib.compareBytes]
  |cons y m=>
   rw [Lib.compareBytes]
   split
   ·simp
   ·split
    ·simp
    ·exact ih m
theorem rtexts_any (a b:YL)(w:World):
  YC 208 #[.string (mkS a),.string (mkS b)] w λe w'=>e= .returned (YI (Lib.compareBytes a b))/\w=w':=by
 have hl:=less_cmp a b
 have ha:(mkS a).toList=a:=by rw [Lib.toList_data,mk_data]
 have hb:(mkS b).toList=b:=by rw [Lib.toList_data,mk_data]
 have he:(a==b)=decide (Lib.compareBytes a b=0):=by
  rw [Bool.eq_iff_iff];simp [cmpB_zero]
 have hr:=cmpB_range a b
 obtain ⟨x,hx⟩:∃ x,Lib.compareBytes a b=x:=⟨_,rfl⟩
 rw [hx] at hl he hr ⊢
 have hl2:Op.bytesLess (mkS a).toList (mkS b).toList=decide (x= -1):=by rw [ha,hb];exact hl
 have he2:((mkS a).toList==(mkS b).toList)=decide (x=0):=by rw [ha,hb];exact he
 clear ha hb hl he hx
 rcases hr with rfl|rfl|rfl
 ·have a1:Op.bytesLess (mkS a).toList (mkS b).toList=true:=hl2
  have a2:((mkS a).toList==(mkS b).toList)=false:=he2
  clear hl2 he2
  go_enter Tryz.func208,Tryz.ntmps208
  go_wp2
  go_ret
  exact ⟨rfl,rfl⟩
 ·have a1:Op.bytesLess (mkS a).toList (mkS b).toList=false:=hl2
  have a2:((mkS a).toList==(mkS b).toList)=true:=he2
  clear hl2 he2
  go_enter Tryz.func208,Tryz.ntmps208
  go_wp2
  go_ret
  exact ⟨rfl,rfl⟩
 ·have a1:Op.bytesLess (mkS a).toList (mkS b).toList=false:=hl2
  have a2:((mkS a).toList==(mkS b).toList)=false:=he2
  clear hl2 he2
  go_enter Tryz.func208,Tryz.ntmps208
  go_wp2
  go_ret
  exact ⟨rfl,rfl⟩
theorem rone_any (a b:YL)(w:World)(ha:a.length<=1000000)(hb:b.length<=1000000):
  YC 158 #[.string (mkS a),.string (mkS b)] w λe w'=>e= .returned (YI (p6 a b))/\w=w':=by
 have la:a.length<=maxLen:=by unfold maxLen;omega
 have lb:b.length<=maxLen:=by unfold maxLen;omega
 have HO:Hid (p6 a b=if yY a && yY b then Lib.compareInt (yZ a) (yZ b) else if yY a then-1 else if yY b then 1 else Lib.compareBytes a b):=rfl
 obtain ⟨o,ho⟩:∃ o,p6 a b=o:=⟨_,rfl⟩
 rw [ho] at HO ⊢
 clear ho
 have nA:=λw'=>tW a w' la
 have nB:=λw'=>tW b w' lb
 have vA:=λw'=>mN a w' la
 have vB:=λw'=>mN b w' lb
 have cI:=λw'=>wZ (yZ a) (yZ b) w'
 have cT:=λw'=>rtexts_any a b w'
 obtain ⟨g1,d1⟩:∃ g,yY a=g:=⟨_,rfl⟩
 obtain ⟨g2,d2⟩:∃ g,yY b=g:=⟨_,rfl⟩
 obtain ⟨x,dx⟩:∃ g,Lib.compareInt (yZ a) (yZ b)=g:=⟨_,rfl⟩
 obtain ⟨y,dy⟩:∃ g,Lib.compareBytes a b=g:=⟨_,rfl⟩
 rw [dx] at HO cI
 rw [dy] at HO cT
 rw [d1] at nA HO
 rw [d2] at nB HO
 obtain ⟨na,ea⟩:∃ n,yZ a=n:=⟨_,rfl⟩
 obtain ⟨nb,eb⟩:∃ n,yZ b=n:=⟨_,rfl⟩
 rw [ea] at vA cI
 rw [eb] at vB cI
 clear dx dy d1 d2 ea eb
 cases g1<;>cases g2
 all_goals
  go_enter Tryz.func158,Tryz.ntmps158
  go_wp2_with fail
  refine (nA _).mono ?_
  rintro e w1 ⟨rfl,rfl⟩
  go_wp2_with fail
  refine (nB _).mono ?_
  rintro e w1 ⟨rfl,rfl⟩
  go_wp2_with (first
   |(go_at_call 208;refine (cT _).mono ?_;rintro e w1 ⟨rfl,rfl⟩)
   |(go_at_call 206;with_reducible refine (vA _).mono ?_;rintro e w1 ⟨rfl,rfl⟩)
   |(go_at_call 206;with_reducible refine (vB _).mono ?_;rintro e w1 ⟨rfl,rfl⟩)
   |(go_at_call 106;refine (cI _).mono ?_;rintro e w1 ⟨rfl,rfl⟩))
  go_ret
  exact ⟨qV (by rw [HO.out];simp),rfl⟩
theorem presL_end (l m:List YL)(k:Nat)(hl:k<=l.length)(hm:k<=m.length)(h:¬ (k<l.length/\k<m.length)):gY (l.drop k) (m.drop k)=Lib.compareInt l.length m.length:=by
 unfold Lib.compareInt
 by_cases h1:k<l.length
 ·have h2:¬ k<m.length:=λh2=>h ⟨h1,h2⟩
  rw [List.drop_eq_nil_of_le (by omega:m.length<=k),List.drop_eq_getElem_cons h1,gY,if_neg Om,if_pos Om]
 ·by_cases h2:k<m.length
  ·rw [List.drop_eq_nil_of_le (by omega:l.length<=k),List.drop_eq_getElem_cons h2,gY,if_pos Om]
  ·rw [List.drop_eq_nil_of_le (by omega:m.length<=k),List.drop_eq_nil_of_le (by omega:l.length<=k),gY,if_neg Om,if_neg Om]
theorem presL_on (l m:List YL)(k:Nat)(h1:k<l.length)(h2:k<m.length)(h:p6 l[k] m[k]=0):gY (l.drop k) (m.drop k)=gY (l.drop (k+1)) (m.drop (k+1)):=by
 rw [List.drop_eq_getElem_cons h1,List.drop_eq_getElem_cons h2,gY,if_neg (by simpa using h)]
theorem presL_off (l m:List YL)(k:Nat)(h1:k<l.length)(h2:k<m.length)(h:¬ p6 l[k] m[k]=0):gY (l.drop k) (m.drop k)=p6 l[k] m[k]:=by
 rw [List.drop_eq_getElem_cons h1,List.drop_eq_getElem_cons h2,gY,if_pos h]
theorem cmpR_split (v u:Ver):zX v u=if v.may && u.may then (if Lib.compareInt v.maj u.maj≠0 then Lib.compareInt v.maj u.maj else if Lib.compareInt v.min u.min≠0 then Lib.compareInt v.min u.min else if Lib.compareInt v.pat u.pat≠0 then Lib.compareInt v.pat u.pat else m7 v.pre u.pre) else 0:=by
 unfold zX cmpN
 by_cases h:(v.may && u.may)=true
 ·rw [if_pos h,if_pos h]
  by_cases h1:Lib.compareInt v.maj u.maj=0
  ·by_cases h2:Lib.compareInt v.min u.min=0
   ·simp [h1,h2]
   ·simp [h1,h2]
  ·simp [h1]
 ·rw [if_neg h,if_neg h]
end
section
theorem fG (v:Value)(l:List YL)(b:UInt8)(w:World)(hv:ReadsT w w.heap.size v l)(hl:(zE b l).length<=1000000000)(hn:l.length<=1000000000):
  YC 128 #[v,.int .u8 b.toNat] w (YR (.string (mkS (zE b l))) w):=by
 have hcv:=λ(w:World) (x:Int)=>conv1 w x
 obtain ⟨A,cap,rfl,hcell⟩:=hv
 go_enter Tryz.func128,Tryz.ntmps128
 go_wp2
 go_loopw [5,6] (λsv iv wr=>∃ (k:Nat),iv=YI k/\k<=l.length/\sv= .string (mkS (zE b (l.take k)))/\YB w wr) (λ_ iv _=>l.length-(intOf iv).toNat)
 case atStart=>exact ⟨0,rfl,Nat.zero_le _,rfl,Below.refl _ _⟩
 case round=>
  obtain ⟨k,rfl,hk,rfl,hb⟩:=hrel
  have hsz:=hb.size
  by_cases hp:k<l.length
  ·obtain ⟨ad,rfl,hlt,hc⟩:=hcell Om
   have hck:wr.cell? (ad.add k)=some (.string (mkS l[k])):=(hb.cell (by rw [d6];exact hlt)).trans (hc k hp)
   have hln:(zE b (l.take (k+1))).length<=1000000000:=Nat.le_trans (mA b l (k+1)) hl
   have HJ:=Lib.hid (joinL_snoc b (l.take k) l[k])
   rw [←take_snocL l k hp] at HJ
   clear hc hcell
   by_cases h0:k=0
   ·subst h0
    have hx1:(mkS (zE b [])).size<=0:=by rw [qX];simp [zE]
    have hx2:(mkS l[0]).size<=1000000000:=by
     rw [qX];rw [HJ.out,if_pos List.take_zero] at hln;exact hln
    have hck0:wr.cell? ad=some (.string (mkS l[0])):=hck
    clear hck
    go_wp2
    go_roundw
    case rel=>exact ⟨0+1,by go_num,by omega,by rw [HJ.out,if_pos List.take_zero,yJ];rfl,hb⟩
    case measure=>simp [intOf];omega
   ·have h0p:0<k:=by omega
    have hlen:(zE b (l.take k)).length+(l[k].length+1)<=1000000000:=by
     rw [HJ.out,if_neg (jH l k hp h0p),List.length_append,List.length_cons] at hln;exact hln
    have hx1:(mkS (zE b (l.take k))).size+((mkS l[k]).size+1)<=1000000000:=by rw [qX,qX];exact hlen
    have hx2:(one (b.toNat:Int)).size<=1:=Nat.le_refl _
    have hx3:(mkS (zE b (l.take k))++one (b.toNat:Int)).size<=(mkS (zE b (l.take k))).size+1:=by rw [ByteArray.size_append];omega
    clear hlen
    have hck2:=λo=>(World.cell?_alloc_lt wr o (ad.add k) (by rw [d6];omega)).trans hck
    clear hck
    go_wp2
    go_roundw
    case rel=>exact ⟨k+1,by go_num,by omega,by rw [HJ.out,if_neg (jH l k hp h0p),one_mk,yJ,yJ,List.append_assoc];rfl,hb.alloc hsz _⟩
    case measure=>simp [intOf];omega
  ·obtain rfl:k=l.length:=by omega
   go_wp2
   go_ret
   exact ⟨qD (by rw [List.take_length]),hb⟩
end
section
theorem mM (s:YL)(W:World)(hs:s.length<=1000000):
  YC 157 #[.string (mkS s),.int .u8 46] W λe w'=>∃ v' ob',e= .returned v'/\SlT v' (pcs s) ob'/\Own [] W w' ob':=
 (rsplit_mk s W hs).mono λe w' ⟨v,h1,h2,h3⟩=>by
  obtain ⟨ob,k1,k2⟩:=Own.row h2 h3
  exact ⟨v,ob,h1,k1,k2⟩
end
section
theorem rsplitB_own (s:YL)(b:UInt8)(W:World)(hs:s.length<=1000000):
  YC 157 #[.string (mkS s),.int .u8 (b.toNat:Int)] W λe w'=>∃ v' ob',e= .returned v'/\SlT v' (zJ b [] s) ob'/\Own [] W w' ob':=
 (rsplit_any (mkS s) b W (by rw [y4];exact hs)).mono λe w' ⟨v,h1,h2,h3⟩=>by
  obtain ⟨ob,k1,k2⟩:=Own.row h2 h3
  unfold g0 at k1
  rw [mk_data] at k1
  exact ⟨v,ob,h1,k1,k2⟩
end
section
def leafB (n:Nd):Bool:=decide (n.op=1) && decide (0<=n.key) && decide (n.key<3) && wdL n.text && decide (n.a=0) && decide (n.b=0)
def bareB (n:Nd):Bool:=decide (n.key=0) && decide (n.text=[])
def isNot (st:List (Nat×Tr))(n:Nd):Bool:=match st with
 |p::_=>decide (n.op=2) && bareB n && decide (n.a=(p.1:Int)) && decide (n.b=0)
 | []=>false
def isBin (st:List (Nat×Tr))(n:Nd):Bool:=match st with
 |p::q::_=>(decide (n.op=3)||decide (n.op=4)) && bareB n && decide (n.a=(q.1:Int)) && decide (n.b=(p.1:Int))
 |_=>false
def stp (i:Nat)(st:List (Nat×Tr))(n:Nd):Option (List (Nat×Tr)):=
 if leafB n then some ((i,.is n.key.toNat n.text)::st)
 else if isNot st n then (match st with|p::r=>some ((i,.no p.2)::r)| []=>none)
 else if isBin st n then (match st with|p::q::r=>some ((i,if n.op=3 then .both q.2 p.2 else .one q.2 p.2)::r)|_=>none)
 else none
def runT:Nat->List (Nat×Tr)->List Nd->Option (List (Nat×Tr))
 |_,st,[]=>some st
 |i,st,n::r=>match stp i st n with|some s=>runT (i+1) s r|none=>none
def pV (l:List Nd):Option Tr:=match runT 0 [] l with
 |some [p]=>some p.2
 |_=>none
def Lies:List (Nat×Tr)->List Nd->Prop
 | [],l=>l=[]
 |p::r,l=>∃ l0,Lies r l0/\p.2.ok=true/\p.1=l0.length+p.2.sz-1/\l=l0++p.2.enc l0.length
def mayM (l:List Nd):Bool:=match pV l with
 |some t=>decide (t.sz<=15) && decide (t.text.length<=96)
 |none=>decide (l=[])
abbrev Pf:=Nat->YL
def evT (e:Pf):Tr->Int
 | .is k t=>if e k=[] then 1 else if e k=t then 2 else 0
 | .no x=>2-evT e x
 | .both x y=>min (evT e x) (evT e y)
 | .one x y=>max (evT e x) (evT e y)
def vlT (e:Pf):Tr->List Int
 | .is k t=>[evT e (.is k t)]
 | .no x=>vlT e x++[evT e (.no x)]
 | .both x y=>vlT e x++vlT e y++[evT e (.both x y)]
 | .one x y=>vlT e x++vlT e y++[evT e (.one x y)]
def Ext (e g:Pf):Prop:=∀ k,e k≠[]->g k=e k
def m9 (e:Pf):Tr->Tr
 | .is k t=> .is k t
 | .no x=> .no (m9 e x)
 | .both x y=>if evT e y≠1 then m9 e x else if evT e x≠1 then m9 e y else .both (m9 e x) (m9 e y)
 | .one x y=>if evT e y≠1 then m9 e x else if evT e x≠1 then m9 e y else .one (m9 e x) (m9 e y)
def Asks (p:Nat->Prop):Tr->Prop
 | .is k _=>p k
 | .no x=>Asks p x
 | .both x y=>Asks p x/\Asks p y
 | .one x y=>Asks p x/\Asks p y
def truthT (e:Pf):Tr->Bool
 | .is k t=>decide (e k=t)
 | .no x=> !truthT e x
 | .both x y=>truthT e x && truthT e y
 | .one x y=>truthT e x||truthT e y
end
section
def tl:List Tok->Nat
 | []=>0
 |x::r=>x.length+1+tl r
def Tr.w (t:Tr):Nat:=tl t.tok
def Tr.w1 (t:Tr):Nat:=t.w+if t.isOne then 4 else 0
def Tr.w2 (t:Tr):Nat:=t.w+if t.isBin then 4 else 0
def printM (l:List Nd):YL:=if mayM l then (match pV l with|some t=>t.text|none=>[]) else []
def wordsM (s:YL):List Tok:=zJ 32 [] s
def Tr.fit (t:Tr):Bool:=decide (t.sz<=15) && decide (t.text.length<=96)
def readM (s:YL):Option Tr:=match pOr (wordsM s).length (wordsM s) with
 |some (t,[])=>if t.fit then some t else none
 |_=>none
def errM (s:YL):Int:=if 96<s.length then 3 else if s=[] then 0 else match readM s with|some _=>0|none=>7
def nodM (s:YL):List Nd:=if 96<s.length then [] else if s=[] then [] else match readM s with|some t=>t.enc 0|none=>[]
def pfOk (e:Pf):Bool:=(decide (e 0=[])||wdL (e 0)) && (decide (e 1=[])||wdL (e 1)) && (decide (e 2=[])||wdL (e 2))
def evalM (l:List Nd)(e:Pf):Int:=if mayM l && pfOk e then (match pV l with|some t=>evT e t|none=>2) else 0
def underM (l:List Nd)(e:Pf):List Nd:=if evalM l e=1 then (match pV l with|some t=>(m9 e t).enc 0|none=>[]) else []
theorem wordGo_no {b:UInt8}(hb:wdB b.toNat=false):∀ (l:YL),kF l=true->b∉l
 | [],_=>by simp
 |c::r,h=>by
  have hc:wdB c.toNat=true:=by
   unfold kF at h
   unfold wdB
   rw [Bool.and_eq_true] at h;exact h.1
  rw [vF c r hc] at h
  intro hm
  rcases List.mem_cons.1 hm with e|hm
  ·subst e;rw [hb] at hc;cases hc
  ·exact wordGo_no hb r h hm
theorem wdL_no {s:YL}{b:UInt8}(hb:wdB b.toNat=false)(h:wdL s=true):b∉s:=by
 unfold wdL at h
 rw [Bool.and_eq_true] at h;exact wordGo_no hb s h.2
def Oks (part:List Tok->Option (Tr×List Tok)):Prop:=∀ ts t r,part ts=some (t,r)->t.ok=true
end
section
def nC (n:Nd):List Value:=[YI n.op,YI n.a,YI n.b,YI n.key,.string (mkS n.text)]
def zC (z:Int):List Value:=[YI z]
def SlN (v:Value)(l:List Nd)(ob:List Blk):Prop:=Sl 305 5 v l.length (l.flatMap nC) ob
def SlZ (v:Value)(l:List Int)(ob:List Blk):Prop:=Sl 3 1 v l.length (l.flatMap zC) ob
def ndV (n:Nd):Value:= .agg #[YI n.op,YI n.a,YI n.b,YI n.key,.string (mkS n.text)]
def pfV (e:Pf):Value:= .agg #[.string (mkS (e 0)),.string (mkS (e 1)),.string (mkS (e 2))]
theorem Sl.at0 {T:TypeId}{sz n m cap:Nat}{A:Option Addr}{xs:List Value}{ob:List Blk}(h:Sl T sz (.slice A n cap) m xs ob)(h0:0<m):∃ g,A=some ⟨g,0,none⟩/\m<=cap:=by
 rcases h.2 with ⟨_,h2,_⟩|⟨q,c,cur,h1,h2,h3,_⟩
 ·omega
 ·injection h1 with e1 e2 e3
  exact ⟨q,e1,by omega⟩
structure PfS (e:Pf):Prop where
 h0:(e 0).length<=1000000
 h1:(e 1).length<=1000000
 h2:(e 2).length<=1000000
end
section
set_option linter.unnecessarySimpa false
theorem wdB_or {c:Int}:wdB c=(kM c||yH c||decide (c=95)):=rfl
theorem r1low_any (c:UInt8)(W:World):YC 120 #[.int .u8 (c.toNat:Int)] W (YR (.bool (kM (c.toNat:Int))) W):=by
 refine z8 Tryz.func120 ?_
 by_cases h1:(97:Int)<=(c.toNat:Int)
 ·refine zD 4 [] ((97:Int)<=(c.toNat:Int)) (λ_=> ?_) (λhq=>absurd (h1) hq)
  by_cases h2:(c.toNat:Int)<=122
  ·refine zD 7 [] ((c.toNat:Int)<=122) (λ_=> ?_) (λhq=>absurd (h2) hq)
   exact z7 [] Z4 (λw hO=>⟨by rw [show kM (c.toNat:Int)=true from by unfold kM;simp;try omega],hO.below⟩)
  exact zD 7 [] ((c.toNat:Int)<=122) (λhq=>absurd hq (h2)) (λ_=>z7 [] Z5 (λw hO=>⟨by rw [show kM (c.toNat:Int)=false from by unfold kM;simp;try omega],hO.below⟩))
 exact zD 4 [] ((97:Int)<=(c.toNat:Int)) (λhq=>absurd hq (h1)) (λ_=>z7 [] Z5 (λw hO=>⟨by rw [show kM (c.toNat:Int)=false from by unfold kM;simp;try omega],hO.below⟩))
theorem r1digit_any (c:UInt8)(W:World):YC 121 #[.int .u8 (c.toNat:Int)] W (YR (.bool (yH (c.toNat:Int))) W):=by
 refine z8 Tryz.func121 ?_
 by_cases h1:(48:Int)<=(c.toNat:Int)
 ·refine zD 4 [] ((48:Int)<=(c.toNat:Int)) (λ_=> ?_) (λhq=>absurd (h1) hq)
  by_cases h2:(c.toNat:Int)<=57
  ·refine zD 7 [] ((c.toNat:Int)<=57) (λ_=> ?_) (λhq=>absurd (h2) hq)
   exact z7 [] Z4 (λw hO=>⟨by rw [show yH (c.toNat:Int)=true from by unfold yH;simp;try omega],hO.below⟩)
  exact zD 7 [] ((c.toNat:Int)<=57) (λhq=>absurd hq (h2)) (λ_=>z7 [] Z5 (λw hO=>⟨by rw [show yH (c.toNat:Int)=false from by unfold yH;simp;try omega],hO.below⟩))
 exact zD 4 [] ((48:Int)<=(c.toNat:Int)) (λhq=>absurd hq (h1)) (λ_=>z7 [] Z5 (λw hO=>⟨by rw [show yH (c.toNat:Int)=false from by unfold yH;simp;try omega],hO.below⟩))
theorem vJ (s:YL)(W:World)(hs:s.length<=1000000):YC 218 #[.string (mkS s)] W (YR (.bool (wdL s)) W):=by
 have hsz:=y4 s
 refine z8 Tryz.func218 ?_
 by_cases h1:((mkS s).size:Int)<1
 ·refine zD 6 [] (((mkS s).size:Int)<1) (λ_=> ?_) (λhq=>absurd (h1) hq)
  exact z7 [] Z5 (λw hO=>⟨by rw [show wdL s=false from by unfold wdL;rw [decide_eq_false Om];rfl],hO.below⟩)
 refine zD 6 [] (((mkS s).size:Int)<1) (λhq=>absurd hq (h1)) (λ_=> ?_)
 by_cases h2:(12:Int)<(mkS s).size
 ·refine zD 10 [] ((12:Int)<(mkS s).size) (λ_=> ?_) (λhq=>absurd (h2) hq)
  exact z7 [] Z5 (λw hO=>⟨by rw [show wdL s=false from by unfold wdL;rw [decide_eq_false Om];rfl],hO.below⟩)
 refine zD 10 [] ((12:Int)<(mkS s).size) (λhq=>absurd hq (h2)) (λ_=>zO (α:=Nat) (λi=>[(0,.string (mkS s)),(3,YI (i:Int))]) (λi=>[]) (λi m=>(i<=s.length/\kF (s.drop i)=kF s)/\m=s.length-i) (0) (s.length-0) [] ⟨⟨Nat.zero_le _,by rw [List.drop_zero]⟩,rfl⟩ ?_)
 rintro i m g kk ⟨hrel,hmm⟩ nx hkk
 subst hkk
 have hi6:=hrel.1
 by_cases h3:(i:Int)<(mkS s).size
 ·have hi:i<s.length:=by omega
  obtain ⟨c,hc⟩:∃ c,s[i]=c:=⟨_,rfl⟩
  have hdr:s.drop i=c::s.drop (i+1):=by rw [←hc];exact List.drop_eq_getElem_cons hi
  refine zD 15 [] ((i:Int)<(mkS s).size) (λ_=> ?_) (λhq=>absurd (h3) hq)
  refine mD 20 [] s i Om c hc (z6 (k:=120) (args:= #[.int .u8 (c.toNat:Int)]) (v:= .bool (kM (c.toNat:Int))) [] (λw _=>r1low_any c w) ?_)
  cases h4:kM (c.toNat:Int) with
  |true=>
   refine x_i 17 [] (((i+1:Nat):Int)) ?_
   have hnext:kF (s.drop (i+1))=kF s:=by rw [←hrel.2,hdr];refine (vF c _ ?_).symm;rw [wdB_or];simp [h1,h2,h3,h4]
   exact nx (i+1) (s.length-(i+1)) [] Om ⟨⟨by omega,hnext⟩,rfl⟩ Kr Kr
  |false=>
   refine mD 26 [] s i Om c hc (z6 (k:=121) (args:= #[.int .u8 (c.toNat:Int)]) (v:= .bool (yH (c.toNat:Int))) [] (λw _=>r1digit_any c w) ?_)
   cases h5:yH (c.toNat:Int) with
   |true=>
    refine x_i 17 [] (((i+1:Nat):Int)) ?_
    have hnext:kF (s.drop (i+1))=kF s:=by rw [←hrel.2,hdr];refine (vF c _ ?_).symm;rw [wdB_or];simp [h1,h2,h3,h4,h5]
    exact nx (i+1) (s.length-(i+1)) [] Om ⟨⟨by omega,hnext⟩,rfl⟩ Kr Kr
   |false=>
    refine mD 33 [] s i Om c hc ?_
    by_cases h6:(c.toNat:Int)=95
    ·refine kT 34 [] ((c.toNat:Int)=95) (λ_=> ?_) (λhq=>absurd (h6) hq)
     refine x_i 17 [] (((i+1:Nat):Int)) ?_
     have hnext:kF (s.drop (i+1))=kF s:=by rw [←hrel.2,hdr];refine (vF c _ ?_).symm;rw [wdB_or];simp [h1,h2,h3,h4,h5,h6]
     exact nx (i+1) (s.length-(i+1)) [] Om ⟨⟨by omega,hnext⟩,rfl⟩ Kr Kr
    exact kT 34 [] ((c.toNat:Int)=95) (λhq=>absurd hq (h6)) (λ_=>z7 [] Z5 (λw hO=>⟨by rw [show wdL s=false from by unfold wdL;rw [←hrel.2,hdr,mG c _ (by rw [wdB_or];simp [h1,h2,h3,h4,h5,h6];try omega)];simp],hO.below⟩))
 exact zD 15 [] ((i:Int)<(mkS s).size) (λhq=>absurd hq (h3)) (λ_=>z7 [] Z4 (λw hO=>⟨by rw [show wdL s=true from by unfold wdL;rw [←hrel.2,List.drop_of_length_le Om];simp [kF];omega],hO.below⟩))
def wrapB (c:Bool)(s:YL):YL:=if c then [40,32]++s++[32,41] else s
end
section
theorem kH (r:Int)(b:Bool)(hb:kM r=b)(w:World):
  YC 108 #[.int .i32 r] w λe w'=>e= .returned (.bool b)/\w=w':=by
 subst hb
 unfold kM
 go_enter Tryz.func108,Tryz.ntmps108
 go_wp2
 all_goals go_ret
 all_goals exact ⟨zQ (by simp;try omega),rfl⟩
theorem name_any (s:ByteArray)(w:World)(hs:s.size<=maxLen):
  YC 69 #[.string s] w (YR (.bool (jV s)) w):=by
 unfold maxLen at hs
 by_cases h16:s.size<=16
 ·go_enter Tryz.func69,Tryz.ntmps69
  go_wp2
  go_loopw [3] (λv wr=>∃ (pos:Nat) (l:Int),wr=w.iter s pos/\pos<=s.size/\v= .int .i32 l/\Hid (xY (decide (pos=0)) l (s.data.toList.drop pos)=xY true 45 s.data.toList)) (λ_ wr=>s.size-wr.iterPos w.heap.size)
  case atStart=>exact ⟨0,45,rfl,Nat.zero_le _,rfl,rfl⟩
  case round=>
   obtain ⟨pos,l,rfl,hple,rfl,HR⟩:=hrel
   by_cases hp:pos<s.size
   ·have HD:=Lib.hid (kB s pos hp)
    by_cases ha:(s[pos]'hp).toNat<128
    ·have hnx:∀ ty,(Instr.next (.pointer (some ⟨w.heap.size,0,none⟩)) true ty).run YP (w.iter s pos)=_:=λty=>run_next_ascii w s pos ty hp ha
     by_cases hl:kM (s[pos]'hp).toNat=true
     ·have HL:=Lib.hid hl
      clear hl
      go_wp2_with (go_at_call 108;refine (kH _ true HL.out _).mono ?_;rintro e w' ⟨rfl,rfl⟩)
      go_roundw
      case rel=>exact ⟨pos+1,_,rfl,by omega,rfl,by rw [←HR.out,HD.out,nameGo_let _ _ _ _ HL.out];rfl⟩
      case measure=>simp;omega
     ·have HL:=Lib.hid (Bool.eq_false_iff.2 hl)
      clear hl
      by_cases hd:yH (s[pos]'hp).toNat=true
      ·have HG:=Lib.hid hd
       clear hd
       by_cases h0:pos=0
       ·subst h0
        go_wp2_with (first|(go_at_call 108;refine (kH _ false HL.out _).mono ?_;rintro e w' ⟨rfl,rfl⟩)|(go_at_call 109;refine (xG _ true HG.out _).mono ?_;rintro e w' ⟨rfl,rfl⟩))
        go_ret
        exact ⟨zQ (by unfold jV;rw [←HR.out,HD.out,nameGo_dig _ _ _ _ HL.out HG.out];simp),zV _ _ _⟩
       ·have hpi:((pos:Int)==0)=false:=by simp;omega
        go_wp2_with (first|(go_at_call 108;refine (kH _ false HL.out _).mono ?_;rintro e w' ⟨rfl,rfl⟩)|(go_at_call 109;refine (xG _ true HG.out _).mono ?_;rintro e w' ⟨rfl,rfl⟩))
        go_roundw
        case rel=>exact ⟨pos+1,_,rfl,by omega,rfl,by rw [←HR.out,HD.out,nameGo_dig _ _ _ _ HL.out HG.out];simp [h0,Hid]⟩
        case measure=>simp;omega
      ·have HG:=Lib.hid (Bool.eq_false_iff.2 hd)
       clear hd
       by_cases h3:((s[pos]'hp).toNat:Int)=45
       ·have H3:=Lib.hid h3
        have h3b:(((s[pos]'hp).toNat:Int)==45)=true:=by simp [h3]
        clear h3
        by_cases h4:l=45
        ·have h4b:(l==45)=true:=by simp [h4]
         have H4:=Lib.hid h4
         clear h4
         go_wp2_with (first|(go_at_call 108;refine (kH _ false HL.out _).mono ?_;rintro e w' ⟨rfl,rfl⟩)|(go_at_call 109;refine (xG _ false HG.out _).mono ?_;rintro e w' ⟨rfl,rfl⟩))
         go_ret
         exact ⟨zQ (by unfold jV;rw [←HR.out,HD.out,nameGo_dash _ _ _ _ HL.out HG.out H3.out,if_pos H4.out];simp),zV _ _ _⟩
        ·have h4b:(l==45)=false:=by simp [h4]
         go_wp2_with (first|(go_at_call 108;refine (kH _ false HL.out _).mono ?_;rintro e w' ⟨rfl,rfl⟩)|(go_at_call 109;refine (xG _ false HG.out _).mono ?_;rintro e w' ⟨rfl,rfl⟩))
         go_roundw
         case rel=>exact ⟨pos+1,_,rfl,by omega,rfl,by rw [←HR.out,HD.out,nameGo_dash _ _ _ _ HL.out HG.out H3.out,if_neg h4];rfl⟩
         case measure=>simp;omega
       ·have h3b:(((s[pos]'hp).toNat:Int)==45)=false:=by simpa using h3
        go_wp2_with (first|(go_at_call 108;refine (kH _ false HL.out _).mono ?_;rintro e w' ⟨rfl,rfl⟩)|(go_at_call 109;refine (xG _ false HG.out _).mono ?_;rintro e w' ⟨rfl,rfl⟩))
        go_ret
        exact ⟨zQ (by unfold jV;rw [←HR.out,HD.out,nameGo_else _ _ _ _ HL.out HG.out h3];simp),zV _ _ _⟩
    ·have hnx:∀ ty,(Instr.next (.pointer (some ⟨w.heap.size,0,none⟩)) true ty).run YP (w.iter s pos)=_:=λty=>run_next_any w s pos ty hp
     have hhi:=(decode_high s pos hp Om).1
     have HL:=Lib.hid (letB_hi _ hhi)
     have HG:=Lib.hid (fS _ hhi)
     have h3b:(((Utf8.decode s pos).1:Int)==45)=false:=by simp;omega
     go_wp2_with (first|(go_at_call 108;refine (kH _ false HL.out _).mono ?_;rintro e w' ⟨rfl,rfl⟩)|(go_at_call 109;refine (xG _ false HG.out _).mono ?_;rintro e w' ⟨rfl,rfl⟩))
     go_ret
     exact ⟨zQ (by unfold jV;rw [←HR.out,HD.out,nameGo_hi _ _ _ _ Om];simp),zV _ _ _⟩
   ·have hnx:∀ ty,(Instr.next (.pointer (some ⟨w.heap.size,0,none⟩)) true ty).run YP (w.iter s pos)=_:=λty=>run_next_end w s pos ty hp
    have HD:=Lib.hid (gM s pos hp)
    go_wp2
    go_ret
    exact ⟨zQ (by unfold jV;rw [←HR.out,HD.out,xY];by_cases hq:l=45<;>simp [h16,hq]),zV _ _ _⟩
 ·go_enter Tryz.func69,Tryz.ntmps69
  go_wp2
  go_ret
  exact ⟨zQ (by unfold jV;simp [h16]),Below.refl _ _⟩
theorem word_any (s:ByteArray)(w:World)(hs:s.size<=maxLen):
  YC 162 #[.string s] w (YR (.bool (tR s)) w):=by
 unfold maxLen at hs
 by_cases h0:s.size=0
 ·have H0:=Lib.hid h0
  have hz:((s.size:Int)==0)=true:=by simp [h0]
  clear h0
  go_enter Tryz.func162,Tryz.ntmps162
  go_wp2
  go_ret
  exact ⟨zQ (by unfold tR;simp [H0.out]),Below.refl _ _⟩
 ·have hz:((s.size:Int)==0)=false:=qA Om
  by_cases h12:s.size<=12
  ·go_enter Tryz.func162,Tryz.ntmps162
   go_wp2
   go_loopw [] (λwr=>∃ (pos:Nat),wr=w.iter s pos/\pos<=s.size/\Hid (kF (s.data.toList.drop pos)=kF s.data.toList)) (λwr=>s.size-wr.iterPos w.heap.size)
   case atStart=>exact ⟨0,rfl,Nat.zero_le _,rfl⟩
   case round=>
    obtain ⟨pos,rfl,hple,HR⟩:=hrel
    by_cases hp:pos<s.size
    ·have HD:=Lib.hid (kB s pos hp)
     by_cases ha:(s[pos]'hp).toNat<128
     ·have hnx:∀ ty,(Instr.next (.pointer (some ⟨w.heap.size,0,none⟩)) true ty).run YP (w.iter s pos)=_:=λty=>run_next_ascii w s pos ty hp ha
      by_cases hl:kM (s[pos]'hp).toNat=true
      ·have HL:=Lib.hid hl
       clear hl
       go_wp2_with (go_at_call 108;refine (kH _ true HL.out _).mono ?_;rintro e w' ⟨rfl,rfl⟩)
       go_roundw
       case rel=>exact ⟨pos+1,rfl,by omega,by rw [←HR.out,HD.out,vF _ _ (by unfold wdB;rw [HL.out];rfl)];rfl⟩
       case measure=>simp;omega
      ·have HL:=Lib.hid (Bool.eq_false_iff.2 hl)
       clear hl
       by_cases hd:yH (s[pos]'hp).toNat=true
       ·have HG:=Lib.hid hd
        clear hd
        go_wp2_with (first|(go_at_call 108;refine (kH _ false HL.out _).mono ?_;rintro e w' ⟨rfl,rfl⟩)|(go_at_call 109;refine (xG _ true HG.out _).mono ?_;rintro e w' ⟨rfl,rfl⟩))
        go_roundw
        case rel=>exact ⟨pos+1,rfl,by omega,by rw [←HR.out,HD.out,vF _ _ (by unfold wdB;rw [HL.out,HG.out];rfl)];rfl⟩
        case measure=>simp;omega
       ·have HG:=Lib.hid (Bool.eq_false_iff.2 hd)
        clear hd
        by_cases h3:((s[pos]'hp).toNat:Int)=95
        ·have H3:=Lib.hid h3
         have h3b:(((s[pos]'hp).toNat:Int) !=95)=false:=by simp [h3]
         clear h3
         go_wp2_with (first|(go_at_call 108;refine (kH _ false HL.out _).mono ?_;rintro e w' ⟨rfl,rfl⟩)|(go_at_call 109;refine (xG _ false HG.out _).mono ?_;rintro e w' ⟨rfl,rfl⟩))
         go_roundw
         case rel=>exact ⟨pos+1,rfl,by omega,by rw [←HR.out,HD.out,vF _ _ (by unfold wdB;rw [HL.out,HG.out,H3.out];rfl)];rfl⟩
         case measure=>simp;omega
        ·have h3b:(((s[pos]'hp).toNat:Int) !=95)=true:=by simpa using h3
         go_wp2_with (first|(go_at_call 108;refine (kH _ false HL.out _).mono ?_;rintro e w' ⟨rfl,rfl⟩)|(go_at_call 109;refine (xG _ false HG.out _).mono ?_;rintro e w' ⟨rfl,rfl⟩))
         go_ret
         exact ⟨zQ (by unfold tR;rw [←HR.out,HD.out,mG _ _ (by unfold wdB;rw [HL.out,HG.out];simpa using h3)];simp),zV _ _ _⟩
     ·have hnx:∀ ty,(Instr.next (.pointer (some ⟨w.heap.size,0,none⟩)) true ty).run YP (w.iter s pos)=_:=λty=>run_next_any w s pos ty hp
      have hhi:=(decode_high s pos hp Om).1
      have HL:=Lib.hid (letB_hi _ hhi)
      have HG:=Lib.hid (fS _ hhi)
      have h3b:(((Utf8.decode s pos).1:Int) !=95)=true:=by simp;omega
      go_wp2_with (first|(go_at_call 108;refine (kH _ false HL.out _).mono ?_;rintro e w' ⟨rfl,rfl⟩)|(go_at_call 109;refine (xG _ false HG.out _).mono ?_;rintro e w' ⟨rfl,rfl⟩))
      go_ret
      exact ⟨zQ (by unfold tR;rw [←HR.out,HD.out,mG _ _ (by unfold wdB;rw [letB_hi8 _ Om,dZ _ Om];simp;omega)];simp),zV _ _ _⟩
    ·have hnx:∀ ty,(Instr.next (.pointer (some ⟨w.heap.size,0,none⟩)) true ty).run YP (w.iter s pos)=_:=λty=>run_next_end w s pos ty hp
     have HD:=Lib.hid (gM s pos hp)
     go_wp2
     go_ret
     exact ⟨zQ (by unfold tR;rw [←HR.out,HD.out,kF];simp;omega),zV _ _ _⟩
  ·go_enter Tryz.func162,Tryz.ntmps162
   go_wp2
   go_ret
   exact ⟨zQ (by unfold tR;simp [h12]),Below.refl _ _⟩
end
section
theorem dW (r:Int)(b:Bool)(hb:kM r=b)(w:World):
  YC 120 #[.int .u8 r] w λe w'=>e= .returned (.bool b)/\w=w':=by
 subst hb
 unfold kM
 go_enter Tryz.func120,Tryz.ntmps120
 go_wp2
 all_goals go_ret
 all_goals exact ⟨zQ (by simp;try omega),rfl⟩
end
section
theorem nameB_short (s:ByteArray)(h:s.size<1):jV s=false:=by
 have:s.data.toList=[]:=by have:=gM s 0 Om;simpa using this
 unfold jV;rw [this];simp [xY]
theorem rname_any (s:ByteArray)(w:World)(hs:s.size<=maxLen):
  YC 76 #[.string s] w λe w'=>e= .returned (.bool (jV s))/\w=w':=by
 unfold maxLen at hs
 by_cases h0:s.size<1
 ·go_enter Tryz.func76,Tryz.ntmps76
  go_wp2
  go_ret
  exact ⟨zQ (by rw [nameB_short s h0]),rfl⟩
 ·have hp0:0<s.size:=by omega
  by_cases h16:s.size<=16
  ·have HB:=Lib.hid (nameB_ref s hp0 h16)
   by_cases hl:kM s[0].toNat=true
   ·have HL:=Lib.hid hl
    clear hl
    by_cases h45:(s[s.size-1].toNat:Int)=45
    ·have H45:=Lib.hid h45
     have h45b:((s[s.size-1].toNat:Int)==45)=true:=by simp [h45]
     clear h45
     go_enter Tryz.func76,Tryz.ntmps76
     go_wp2_with (go_at_call 120;refine (dW _ true HL.out _).mono ?_;rintro e w' ⟨rfl,rfl⟩)
     go_ret
     exact ⟨zQ (by rw [HB.out,HL.out,H45.out];rfl),rfl⟩
    ·have h45b:((s[s.size-1].toNat:Int)==45)=false:=by simpa using h45
     go_enter Tryz.func76,Tryz.ntmps76
     go_wp2_with (go_at_call 120;refine (dW _ true HL.out _).mono ?_;rintro e w' ⟨rfl,rfl⟩)
     go_loop [3] (λi=>∃ (k:Nat) (hk:k<s.size),i=YI (k+1:Nat)/\Hid (kX s[k].toNat (s.data.toList.drop (k+1))=kX s[0].toNat (s.data.toList.drop 1))) (λi=>s.size-(intOf i).toNat)
     case atStart=>exact ⟨0,hp0,rfl,rfl⟩
     case round=>
      obtain ⟨k,hk,rfl,HR⟩:=hrel
      by_cases hp:k+1<s.size
      ·have HD:=Lib.hid (kB s (k+1) hp)
       by_cases hl2:kM s[k+1].toNat=true
       ·have HL2:=Lib.hid hl2
        have hne:¬ (s[k+1].toNat:Int)=45:=by unfold kM at hl2;simp at hl2;omega
        have hcb:((s[k+1].toNat:Int)==45)=false:=by simpa using hne
        have HN:=Lib.hid hne
        clear hl2 hne
        go_wp2_with (go_at_call 120;refine (dW _ true HL2.out _).mono ?_;rintro e w' ⟨rfl,rfl⟩)
        go_round
        case rel=>exact ⟨k+1,hp,by go_num,by rw [←HR.out,HD.out,n8 _ _ _ (by rw [HL2.out];rfl) (by simp [HN.out])];rfl⟩
        case measure=>simp [intOf];omega
       ·have HL2:=Lib.hid (Bool.eq_false_iff.2 hl2)
        clear hl2
        by_cases hd2:yH s[k+1].toNat=true
        ·have HG2:=Lib.hid hd2
         have hne:¬ (s[k+1].toNat:Int)=45:=by unfold yH at hd2;simp at hd2;omega
         have hcb:((s[k+1].toNat:Int)==45)=false:=by simpa using hne
         have HN:=Lib.hid hne
         clear hd2 hne
         go_wp2_with (first|(go_at_call 120;refine (dW _ false HL2.out _).mono ?_;rintro e w' ⟨rfl,rfl⟩)|(go_at_call 121;refine (qO _ true HG2.out _).mono ?_;rintro e w' ⟨rfl,rfl⟩))
         go_round
         case rel=>exact ⟨k+1,hp,by go_num,by rw [←HR.out,HD.out,n8 _ _ _ (by rw [HL2.out,HG2.out];rfl) (by simp [HN.out])];rfl⟩
         case measure=>simp [intOf];omega
        ·have HG2:=Lib.hid (Bool.eq_false_iff.2 hd2)
         clear hd2
         by_cases h3:(s[k+1].toNat:Int)=45
         ·have H3:=Lib.hid h3
          have hcb:((s[k+1].toNat:Int)==45)=true:=by simp [h3]
          have hcn:((s[k+1].toNat:Int) !=45)=false:=by simp [h3]
          clear h3
          by_cases h4:(s[k].toNat:Int)=45
          ·have H4:=Lib.hid h4
           have hpb:((s[k].toNat:Int)==45)=true:=by simp [h4]
           clear h4
           go_wp2_with (first|(go_at_call 120;refine (dW _ false HL2.out _).mono ?_;rintro e w' ⟨rfl,rfl⟩)|(go_at_call 121;refine (qO _ false HG2.out _).mono ?_;rintro e w' ⟨rfl,rfl⟩))
           go_ret
           exact ⟨zQ (by rw [HB.out,←HR.out,HD.out,nameRef_two _ _ _ H3.out H4.out];simp),rfl⟩
          ·have hpb:((s[k].toNat:Int)==45)=false:=by simpa using h4
           go_wp2_with (first|(go_at_call 120;refine (dW _ false HL2.out _).mono ?_;rintro e w' ⟨rfl,rfl⟩)|(go_at_call 121;refine (qO _ false HG2.out _).mono ?_;rintro e w' ⟨rfl,rfl⟩))
           go_round
           case rel=>exact ⟨k+1,hp,by go_num,by rw [←HR.out,HD.out,n8 _ _ _ (by rw [H3.out];simp) (by simp [h4])];rfl⟩
           case measure=>simp [intOf];omega
         ·have hcn:((s[k+1].toNat:Int) !=45)=true:=by simpa using h3
          go_wp2_with (first|(go_at_call 120;refine (dW _ false HL2.out _).mono ?_;rintro e w' ⟨rfl,rfl⟩)|(go_at_call 121;refine (qO _ false HG2.out _).mono ?_;rintro e w' ⟨rfl,rfl⟩))
          go_ret
          exact ⟨zQ (by rw [HB.out,←HR.out,HD.out,nameRef_bad _ _ _ (by rw [HL2.out,HG2.out];simpa using h3)];simp),rfl⟩
      ·have HD:=Lib.hid (gM s (k+1) hp)
       go_wp2
       go_ret
       exact ⟨zQ (by rw [HB.out,←HR.out,HD.out,HL.out,kX];simp [h45]),rfl⟩
   ·have HL:=Lib.hid (Bool.eq_false_iff.2 hl)
    clear hl
    go_enter Tryz.func76,Tryz.ntmps76
    go_wp2_with (go_at_call 120;refine (dW _ false HL.out _).mono ?_;rintro e w' ⟨rfl,rfl⟩)
    go_ret
    exact ⟨zQ (by rw [HB.out,HL.out];rfl),rfl⟩
  ·go_enter Tryz.func76,Tryz.ntmps76
   go_wp2
   go_ret
   exact ⟨zQ (by unfold jV;simp [h16]),rfl⟩
end
section
set_option linter.unnecessarySimpa false
theorem qH (s:YL)(W:World)(hs:s.length<=1000000):YC 76 #[.string (mkS s)] W (YR (.bool (nmL s)) W):=
 (rname_any (mkS s) W (by rw [y4];unfold maxLen;omega)).mono λe w' ⟨h,e2⟩=>⟨h,e2▸Below.refl _ _⟩
theorem kind_w {s:YL}(h:wdL s=true):zI s=(1,s,[]):=by unfold zI;rw [if_pos h]
theorem kind_o {s:YL}{c:UInt8}(h:wdL s=false)(h0:s.head?=some c)(hc:(c.toNat:Int)=63)(h2:wdL (s.drop 1)=true):zI s=(2,s.drop 1,[]):=by
 have:c=63:=UInt8.toNat_inj.1 (by simp;omega)
 unfold zI
 rw [if_neg (by rw [h];simp),if_pos (by rw [h0,this,h2];rfl)]
theorem kind_two' {s a b:YL}(h:wdL s=false)(hno:¬ (s.head?=some 63/\wdL (s.drop 1)=true))(hl:zJ 47 [] s=[a,b]):zI s=if nmL a && wdL b then (3,a,b) else (0,[],[]):=by
 unfold zI
 rw [if_neg (by rw [h];simp),if_neg (by rw [Bool.and_eq_true,decide_eq_true_eq];exact hno),hl]
theorem kind_not {s:YL}(h:wdL s=false)(hno:¬ (s.head?=some 63/\wdL (s.drop 1)=true))(hl:¬ (zJ 47 [] s).length=2):zI s=(0,[],[]):=by
 unfold zI
 rw [if_neg (by rw [h];simp),if_neg (by rw [Bool.and_eq_true,decide_eq_true_eq];exact hno)]
 split
 ·rename_i a b e;rw [e] at hl;exact absurd rfl hl
 ·rfl
theorem two11_of {l:List YL}(h:l.length=2):∃ a b,l=[a,b]:=by
 match l,h with
 | [a,b],_=>exact ⟨a,b,rfl⟩
theorem r11Item_any (s:YL)(W:World)(hs:s.length<=1000000):YC 221 #[.string (mkS s)] W (YR (.tuple #[YI (zI s).1,.string (mkS (zI s).2.1),.string (mkS (zI s).2.2)]) W):=by
 have hK:=λ{z:Int} {a b:YL} (h:zI s=(z,a,b)) (w:World) (hb:YB W w)=>show Ending.returned (.tuple #[YI z,.string (mkS a),.string (mkS b)])= .returned (.tuple #[YI (zI s).1,.string (mkS (zI s).2.1),.string (mkS (zI s).2.2)])/\YB W w from ⟨by rw [h],hb⟩
 refine z8 Tryz.func221 (z6 (k:=218) (args:= #[.string (mkS s)]) (v:= .bool (wdL s)) [] (λw _=>vJ s w hs) ?_)
 cases h1:wdL s with
 |true=>exact gA [] (.int .i64 1) (.string (mkS s)) (.string (mkS [])) λw hO=>hK (kind_w h1) w hO.below
 |false=>
  refine x_joinF (.s (.s (.s (.s (.s (.s (.s .z))))))) (α:=Bool) (λd=>[(0,.string (mkS s)),(21,.bool d)]) (λ_=>[]) (λd=>d=(decide (s.head?=some 63) && wdL (s.drop 1))) [] (λnj=> ?_) (λd g hd=> ?_)
  ·refine zD 11 [] ((0:Int)<(s.length:Int)) (λh2=> ?_) (λh2=>nj false [] (by rw [List.eq_nil_of_length_eq_zero (by omega:s.length=0)];rfl) Kr)
   have h0s:0<s.length:=by omega
   have hhd:s.head?=some s[0]:=by rw [List.head?_eq_getElem?,List.getElem?_eq_getElem h0s]
   exact mD 14 [] s 0 h0s s[0] rfl (zD 15 [] ((s[0].toNat:Int)=63) (λh3=>x_slo 19 [] s 1 Om Om (.string (mkS (s.drop 1))) rfl (z6 (k:=218) (args:= #[.string (mkS (s.drop 1))]) (v:= .bool (wdL (s.drop 1))) [] (λw _=>vJ (s.drop 1) w (by rw [List.length_drop];omega)) (nj (wdL (s.drop 1)) [] (by rw [hhd,show s[0]=63 from UInt8.toNat_inj.1 (by simp;omega)];simp) Kr))) (λh3=>nj false [] (by rw [hhd,decide_eq_false (λq=>h3 (by rw [Option.some.inj q];rfl))];rfl) Kr))
  cases d with
  |true=>
   have hy:=hd.symm
   rw [Bool.and_eq_true,decide_eq_true_eq] at hy
   exact x_slo 23 [] s 1 Om (by cases s with|nil=>cases hy.1|cons a r=>simp;omega) (.string (mkS (s.drop 1))) rfl (gA [] (YI 2) (.string (mkS (s.drop 1))) (.string (mkS [])) λw hO=>hK (kind_o h1 hy.1 (by decide) hy.2) w hO.below)
  |false=>
   have hno:¬ (s.head?=some 63/\wdL (s.drop 1)=true):=λq=>by rw [q.1,q.2] at hd;cases hd
   refine xH (R:=λv' ob'=>SlT v' (zJ 47 [] s) ob') [] (λw hO=>rsplitB_own s 47 w hs) ?_
   intro vw ow hsw
   obtain ⟨AW,cw,rfl⟩:=hsw.form
   refine zD 28 [] (((zJ 47 [] s).length:Int)=2) (λh5=> ?_) (λh5=>gA [] (YI 0) (.string (mkS [])) (.string (mkS [])) λw hO=>hK (kind_not h1 hno Om) w hO.below)
   obtain ⟨x,y,hxy⟩:=two11_of (l:=(zJ 47 [] s)) Om
   obtain ⟨gb,hgb,hcb⟩:=Sl.at0 hsw Om
   have hxl:x.length<=1000000:=Nat.le_trans (split_le 47 s [] x (by rw [hxy];simp)) (by simpa using hs)
   have hyl:y.length<=1000000:=Nat.le_trans (split_le 47 s [] y (by rw [hxy];simp)) (by simpa using hs)
   have hl0:∀ w,Own [] W w ow->(loadVar 9 ⟨gb,0+0*1,none⟩).run YP w= .ok (.string (mkS x)) w:=λw hO=>Reads.load zW (SlT.reads hsw rfl hO (λx hx=>hx)) hgb 0 0 (by rw [hxy];show 0<2;omega) rfl _ (by simp only [hxy];kernel_rfl)
   have hl1:∀ w,Own [] W w ow->(loadVar 9 ⟨gb,0+1*1,none⟩).run YP w= .ok (.string (mkS y)) w:=λw hO=>Reads.load zW (SlT.reads hsw rfl hO (λx hx=>hx)) hgb 1 0 (by rw [hxy];show 1<2;omega) rfl _ (by simp only [hxy];kernel_rfl)
   have hk:=kind_two' h1 hno hxy
   refine zK 31 [] hgb (zJ 47 [] s).length cw 0 1 Om (zH 32 [] 9 gb (0+0*1) (.string (mkS x)) (λw hO=>hl0 w (hO.past 0 ow)) (z6 (k:=76) (args:= #[.string (mkS x)]) (v:= .bool (nmL x)) [] (λw _=>qH x w hxl) ?_))
   cases h6:nmL x with
   |false=>exact gA [] (.int .i64 0) (.string (mkS [])) (.string (mkS [])) λw hO=>hK (by rw [hk,if_neg (by simp [h6])]) w hO.below
   |true=>
    refine zK 37 [] hgb (zJ 47 [] s).length cw 1 1 Om (zH 38 [] 9 gb (0+1*1) (.string (mkS y)) (λw hO=>hl1 w (hO.past 0 ow)) (z6 (k:=218) (args:= #[.string (mkS y)]) (v:= .bool (wdL y)) [] (λw _=>vJ y w hyl) ?_))
    cases h7:wdL y with
    |false=>exact gA [] (.int .i64 0) (.string (mkS [])) (.string (mkS [])) λw hO=>hK (by rw [hk,if_neg (by simp [h7])]) w hO.below
    |true=>exact zK 42 [] hgb (zJ 47 [] s).length cw 0 1 Om (zH 43 [] 9 gb (0+0*1) (.string (mkS x)) (λw hO=>hl0 w (hO.past 0 ow)) (zK 45 [] hgb (zJ 47 [] s).length cw 1 1 Om (zH 46 [] 9 gb (0+1*1) (.string (mkS y)) (λw hO=>hl1 w (hO.past 0 ow)) (gA [] (.int .i64 3) (.string (mkS x)) (.string (mkS y)) λw hO=>hK (by rw [hk,if_pos (by rw [h6,h7];rfl)]) w hO.below))))
end
end Go.Proofs.YtflhcaljcoekpaaGreatDoor
