/-
 What the statement's proof leans on: the ways of walking, plain mathematics, and what the program's functions return; each theorem says on what conditions.
-/
import Derived.LoopN
import Derived.Lib.AppendStr
import Derived.WalkKit
import Derived.Lib.Hide
import Derived.Deep.RegionHeld3
import Derived.Outline
import Derived.Test.YteghandhpbmpgaaGreatDoorRC2
set_option maxRecDepth 1000000
set_option maxHeartbeats 8000000
set_option linter.unusedVariables false
set_option linter.unusedSimpArgs false
set_option linter.unnecessarySimpa false
namespace Go.Proofs.YteghandhpbmpgaaGreatDoor
open Go.RowKit

section
inductive XTop where
 |ops (a:Array Oper) (r:List Oper)
 |qps (a:Array Oper) (r:List Oper)
 |hps (a:Array Oper) (s:Array Bool) (u:Nat) (L0:List Blk)
 |hst (a:Array Oper) (s:Array Bool) (u:Nat) (L0:List Blk) (i:Nat)
 |code (c:Code)
 |fin (e:Exit)
inductive XIt where
 |code (c:Code)
 |blk (id:Nat)
 |lp (I:List Blk->(Nat->Value)->Nat->Prop) (m:Nat)
 |tl (a:Array Oper) (r:List Oper)
 |rd (c:Code) (m:Nat)
structure Xc where
 top:XTop
 k:List XIt
 L:List Blk
 f:Nat->Value
def KQ (M:List Nat)(P:Program)(n:Nat)(W:World)(Q:Exit->Act->World->Prop):List XIt->Exit->Act->World->Prop
 | []=>Q
 | .code c::k=>Exit.then (Code.wp P c (KQ M P n W Q k)) (KQ M P n W Q k)
 | .blk id::k=>Exit.inBlock id (KQ M P n W Q k)
 | .lp I m::k=>Round M n W I m (KQ M P n W Q k)
 | .tl a r::k=>Exit.then (wpList P a (KQ M P n W Q k) r) (KQ M P n W Q k)
 | .rd c m::k=>Exit.then (Code.rounds P c (KQ M P n W Q k) m) (KQ M P n W Q k)
theorem pq_KQ {M:List Nat}{P:Program}{n:Nat}{W:World}{Q:Exit->Act->World->Prop}(h:PQ Q):∀ k:List XIt,PQ (KQ M P n W Q k)
 | []=>h
 | .code _::k=>pq_seq (pq_KQ h k)
 | .blk _::k=>tK (pq_KQ h k)
 | .lp _ _::k=>pq_round (pq_KQ h k)
 | .tl _ _::k=>pq_seq (pq_KQ h k)
 | .rd _ _::k=>pq_seq (pq_KQ h k)
structure zF (M:List Nat)(P:Program)(n:Nat)(W:World)(Q:Exit->Act->World->Prop)(c:Xc):Prop where
 go:PQ Q->match c.top with
  | .ops a r=>Seg M P n a W (KQ M P n W Q c.k) r c.L c.f
  | .qps a r=>mJ M P n a W (Fin M n W (KQ M P n W Q c.k) .normal) r c.L c.f
  | .hps a s u L0=>(∀ w,Own M W w c.L->Own M W w L0)->p6 M P n a W L0 (KQ M P n W Q c.k) u s c.L c.f
  | .hst a s u L0 i=>(∀ w,Own M W w c.L->Own M W w L0)->tA M P n a W L0 (KQ M P n W Q c.k) u s i c.L c.f
  | .code x=>Ok M P n W (KQ M P n W Q c.k) x c.L c.f
  | .fin e=>Fin M n W (KQ M P n W Q c.k) e c.L c.f
def xPure:Op->Bool
 | .move _| .assign _| .pick _ _ _| .build _ _| .binOp _ _ _ _ _| .unOp _ _ _| .convert _ _ _| .fieldAddr _ _ _| .field _ _ _| .indexAddr _ _ _| .index _ _ _| .extract _ _| .slice _ _ _ _ _| .nilCheck _=>true
 | .call c=>match c.callee with
  | .builtin .len| .builtin .cap| .builtin .max| .builtin .min=>true
  |_=>false
 |_=>false
def xQuiet (o:Oper):Bool:=
 match o.op with
 | .load _ _=>true
 | .call c=>match c.callee with
  | .builtin .append=>false
  |_=>true
 |op=>xPure op
abbrev XR:Type:=World->Result Next
inductive XK where
 |no
 |r (g:XR)
 |ld (p:Value) (x:Option Blk) (v:Option Value)
 |st (p:Value) (x:Option Blk) (a:Option Bool) (b:Bool)
 |h (a b:Bool) (k:XK)
def xVal (P:Program)(n:Nat)(f:Nat->Value)(o:Oper):Value:=
 match (execOp (ev n f) o).run P default with
 | .ok (.value v) _=>v
 |_=>undef
def xOff:Value->Nat
 | .pointer (some a)=>a.off
 |_=>0
def vC (L:List Blk)(i:Nat):Blk:=L.getD i ⟨0, #[],0⟩
structure XS where
 go:Bool
 c:Xc
 h:List Nat
 l:XK
 r:XK
def xhd (h:List Nat):Nat:=h.headD 0
def xop (P:Program)(n:Nat)(q:Bool)(a:Array Oper)(o:Oper)(r:List Oper)(c:Xc)(h:List Nat):XS:=
 let nx (L:List Blk) (f:Nat->Value):Xc:=⟨bif q then .qps a r else .ops a r,c.k,L,f⟩
 match zS a n c.f o with
 |false=>⟨true,nx c.L (upd c.f o.dst undef),h,.no,.no⟩
 |true=>
  match o.op with
  | .load ty p=>
   let x:=vC c.L (xhd h)
   let v:=yY P ty x.cs (xOff (ev n c.f p))
   ⟨true,nx c.L (upd c.f o.dst (v.getD undef)),h.tail,.ld (ev n c.f p) (c.L[xhd h]?) v,.ld (.pointer (some ⟨x.b,xOff (ev n c.f p),none⟩)) (some x) (some (v.getD undef))⟩
  | .store T p y=>
   match q,o.dst with
   |false,none=>
    let x:=vC c.L (xhd h)
    let v:=ev n c.f y
    ⟨true,nx (c.L.set (xhd h) ⟨x.b,zR x.cs (xOff (ev n c.f p)) v.cells,x.ty⟩) c.f,h.tail,.st (ev n c.f p) (c.L[xhd h]?) ((P.info? T).map λt=>Nat.beq v.cells.size t.size && Nat.ble (xOff (ev n c.f p)+t.size) x.cs.size) (v.cells.toList.all λu=>u.oneCell'),
     .st (.pointer (some ⟨x.b,xOff (ev n c.f p),none⟩)) (some x) (some true) true⟩
   |_,_=>⟨false,c,h,.no,.no⟩
  |op=>
   match xPure op with
   |true=>⟨true,nx c.L (upd c.f o.dst (xVal P n c.f o)),h,.r (λw=>(execOp (ev n c.f) o).run P w),.r (λw=> .ok (.value (xVal P n c.f o)) w)⟩
   |false=>⟨false,c,h,.no,.no⟩
def xTak (n:Nat)(a:Array Oper)(f:Nat->Value)(i:Nat):Bool:=
 match a[i]? with
 |none=>false
 |some o=>
  match zS a n f o with
  |false=>true
  |true=>
   match o.op with
   | .load _ _=>true
   |op=>xPure op
def xhp (P:Program)(n:Nat)(a:Array Oper)(s:Array Bool)(u:Nat)(L0:List Blk)(i:Nat)(o:Oper)(c:Xc)(h:List Nat):XS:=
 let nx (f:Nat->Value):Xc:=⟨.hps a (s.setIfInBounds i true) u L0,c.k,c.L,f⟩
 let fr:Bool:=Region.noSelect a && Region.free .any a s i && (Region.ready .any a s).contains i
 match zS a n c.f o with
 |false=>⟨true,nx (upd c.f o.dst undef),h,.h fr true .no,.h true true .no⟩
 |true=>
  match o.op with
  | .load ty p=>
   let x:=vC L0 (xhd h)
   let v:=yY P ty x.cs (xOff (ev n c.f p))
   ⟨true,nx (upd c.f o.dst (v.getD undef)),h.tail,.h fr true (.ld (ev n c.f p) (L0[xhd h]?) v),.h true true (.ld (.pointer (some ⟨x.b,xOff (ev n c.f p),none⟩)) (some x) (some (v.getD undef)))⟩
  |op=>⟨true,nx (upd c.f o.dst (xVal P n c.f o)),h,.h fr true (.r (λw=>(execOp (ev n c.f) o).run P w)),.h true true (.r (λw=> .ok (.value (xVal P n c.f o)) w))⟩
def xhs (P:Program)(n:Nat)(a:Array Oper)(s:Array Bool)(u:Nat)(L0:List Blk)(c:Xc)(h:List Nat):XS:=
 match Region.ready .any a s with
 | []=>⟨true,{c with top:= .fin .normal},h,.no,.no⟩
 |_=>
  match u,(Region.ready .any a s).find? (xTak n a c.f) with
  |u'+1,some i=>
   match a[i]? with
   |some o=>xhp P n a s u' L0 i o c h
   |none=>⟨false,c,h,.no,.no⟩
  |_,_=>⟨false,c,h,.no,.no⟩
def xcode (P:Program)(n:Nat)(x:Code)(c:Xc):Bool×Xc:=
 match x with
 | .skip=>(true,{c with top:= .fin .normal})
 | .region _ a false=>(true,{c with top:= .ops a a.toList})
 | .region _ a true=>bif P.follows .mixedOrders && Region.lexB .any a && a.toList.all xQuiet then (true,{c with top:= .qps a a.toList}) else (false,c)
 | .seq a b=>(true,{c with top:= .code a,k:= .code b::c.k})
 | .block id b=>(true,{c with top:= .code b,k:= .blk id::c.k})
 | .exit id=>(true,{c with top:= .fin (.exit id)})
 | .ret=>(true,{c with top:= .fin .ret})
 | .cond o a b=>
  match ev n c.f o with
  | .bool true=>(true,{c with top:= .code a})
  | .bool false=>(true,{c with top:= .code b})
  |_=>(false,c)
 |_=>(false,c)
def xfin (e:Exit)(c:Xc):Bool×Xc:=
 match c.k,e with
 | .code b::k,.normal=>(true,{c with top:= .code b,k:=k})
 | .code _::k,.exit id=>(true,{c with top:= .fin (.exit id),k:=k})
 | .code _::k,.ret=>(true,{c with top:= .fin .ret,k:=k})
 | .blk _::k,.normal=>(true,{c with top:= .fin .normal,k:=k})
 | .blk id::k,.exit id'=>(true,{c with top:= .fin (bif Nat.beq id' id then .normal else .exit id'),k:=k})
 | .blk _::k,.ret=>(true,{c with top:= .fin .ret,k:=k})
 | .lp _ _::k,.exit id=>(true,{c with top:= .fin (.exit id),k:=k})
 | .lp _ _::k,.ret=>(true,{c with top:= .fin .ret,k:=k})
 | .tl a r::k,.normal=>(true,{c with top:= .ops a r,k:=k})
 | .rd b (m+1)::k,.normal=>(true,{c with top:= .code b,k:= .rd b m::k})
 | .rd _ _::k,.exit id=>(true,{c with top:= .fin (.exit id),k:=k})
 | .rd _ _::k,.ret=>(true,{c with top:= .fin .ret,k:=k})
 |_,_=>(false,c)
def fL (P:Program)(n:Nat)(c:Xc)(h:List Nat):XS:=
 match c.top with
 | .ops _ []=>⟨true,{c with top:= .fin .normal},h,.no,.no⟩
 | .ops a (o::r)=>xop P n false a o r c h
 | .qps _ []=>⟨true,{c with top:= .fin .normal},h,.no,.no⟩
 | .qps a (o::r)=>xop P n true a o r c h
 | .hps a s u L0=>xhs P n a s u L0 c h
 | .hst _ _ _ _ _=>⟨false,c,h,.no,.no⟩
 | .code x=>⟨(xcode P n x c).1,(xcode P n x c).2,h,.no,.no⟩
 | .fin e=>⟨(xfin e c).1,(xfin e c).2,h,.no,.no⟩
def xdst (n:Nat)(c:Xc):Option Tmp:=
 match c.top with
 | .ops _ (o::_)=>o.dst
 | .qps _ (o::_)=>o.dst
 | .hps a s _ _=>
  match (Region.ready .any a s).find? (xTak n a c.f) with
  |some i=>(a.getD i default).dst
  |none=>none
 |_=>none
def xisd (d:Option Tmp)(t:Nat):Bool:=match d with
 |some d=>Nat.beq d t
 |none=>false
def xhit (n t:Nat)(c:Xc):Bool:=xisd (xdst n c) t
def xlen:List XIt->Nat
 | []=>0
 |_::k=>xlen k+1
def xAt (m:Nat):Nat:=Nat.add m 90000
def xCt (d:Nat):Nat:=Nat.add d 70000
def xend (t:Nat)(c:Xc):Bool:=
 match c.top with
 | .fin .normal=>Nat.beq (xAt (xlen c.k)) t
 |_=>false
def xcnd (t:Nat)(c:Xc):Bool:=
 match c.top with
 | .code (.cond (.tmp d) _ _)=>Nat.beq d t
 |_=>false
noncomputable def xpre (n t:Nat)(c:Xc):Bool:= @Bool.rec (λ_=>Bool) false (@Bool.rec (λ_=>Bool) (@Bool.rec (λ_=>Bool) (xisd (xdst n c) (t-50000)) (xcnd (t-70000) c) (Nat.ble 70000 t)) (xend t c) (Nat.ble 90000 t)) (Nat.ble 50000 t)
inductive Fuel1 where
 |z
 |s (m:Fuel1)
def fuel5 (m:Fuel1):Fuel1:= .s (.s (.s (.s (.s m))))
def fuel25 (m:Fuel1):Fuel1:=fuel5 (fuel5 (fuel5 (fuel5 (fuel5 m))))
def fuel125 (m:Fuel1):Fuel1:=fuel25 (fuel25 (fuel25 (fuel25 (fuel25 m))))
def fuelA:Fuel1:=fuel125 (fuel125 (fuel125 .z))
inductive Fuel2 where
 |z
 |s (m:Fuel2)
def tS:Fuel1->Fuel2
 | .z=> .z
 | .s m=> .s (tS m)
def fuelB:Fuel2:=tS fuelA
noncomputable def x6 (P:Program)(n t:Nat):Fuel1->List Nat->Xc->Xc
 | .z,_,c=>c
 | .s m,h,c=> @Bool.rec (λ_=>Xc) (@Bool.rec (λ_=>Xc) (fL P n c h).c (x6 P n t m (fL P n c h).h (fL P n c h).c) ((fL P n c h).go && !xhit n t c)) c (xpre n t c)
noncomputable def xl (P:Program)(n t:Nat):Fuel1->List Nat->Xc->List XK
 | .z,_,_=>[]
 | .s m,h,c=> @Bool.rec (λ_=>List XK) ((fL P n c h).l:: @Bool.rec (λ_=>List XK) [] (xl P n t m (fL P n c h).h (fL P n c h).c) ((fL P n c h).go && !xhit n t c)) [] (xpre n t c)
noncomputable def xr (P:Program)(n t:Nat):Fuel2->List Nat->Xc->List XK
 | .z,_,_=>[]
 | .s m,h,c=> @Bool.rec (λ_=>List XK) ((fL P n c h).r:: @Bool.rec (λ_=>List XK) [] (xr P n t m (fL P n c h).h (fL P n c h).c) ((fL P n c h).go && !xhit n t c)) [] (xpre n t c)
section
variable {M:List Nat}{P:Program}{n:Nat}{W:World}{Q:Exit->Act->World->Prop}
theorem xop_ok {a:Array Oper}{o:Oper}{r:List Oper}{k:List XIt}{L:List Blk}{f:Nat->Value}{h:List Nat}(hk:(xop P n false a o r ⟨.ops a (o::r),k,L,f⟩ h).l=(xop P n false a o r ⟨.ops a (o::r),k,L,f⟩ h).r)
  (hg:zF M P n W Q (xop P n false a o r ⟨.ops a (o::r),k,L,f⟩ h).c):zF M P n W Q ⟨.ops a (o::r),k,L,f⟩:=by
 unfold xop at hk hg
 cases hw:zS a n f o with
 |false=>rw [hw] at hk hg;exact ⟨λhq=>s_skip hw (hg.go hq)⟩
 |true=>
  rw [hw] at hk hg
  cases ho:o.op with
  |load ty p=>
   rw [ho] at hk hg
   simp only [XK.ld.injEq] at hk
   exact ⟨λhq=>s_load (xhd h) _ _ hw ho hk.2.1 hk.1 hk.2.2 (hg.go hq)⟩
  |store T p y=>
   rw [ho] at hk hg
   cases hd:o.dst with
   |some d=>rw [hd] at hg;exact hg
   |none=>
    rw [hd] at hk hg
    simp only [XK.st.injEq] at hk
    exact ⟨λhq=>s_store_at (xhd h) _ (ev n f y) hw ho hd hk.2.1 hk.1 rfl hk.2.2.1 hk.2.2.2 (hg.go hq)⟩
  |_=>
   rw [ho] at hk hg
   dsimp only at hk hg
   split at hk
   ·rename_i hp
    rw [hp] at hg
    exact ⟨λhq=>kC _ hw (λw=>congrFun (XK.r.inj hk) w) (hg.go hq)⟩
   ·rename_i hp
    rw [hp] at hg
    exact hg
theorem xqp_ok {a:Array Oper}{o:Oper}{r:List Oper}{k:List XIt}{L:List Blk}{f:Nat->Value}{h:List Nat}(hk:(xop P n true a o r ⟨.qps a (o::r),k,L,f⟩ h).l=(xop P n true a o r ⟨.qps a (o::r),k,L,f⟩ h).r)
  (hg:zF M P n W Q (xop P n true a o r ⟨.qps a (o::r),k,L,f⟩ h).c):zF M P n W Q ⟨.qps a (o::r),k,L,f⟩:=by
 unfold xop at hk hg
 cases hw:zS a n f o with
 |false=>rw [hw] at hk hg;exact ⟨λhq=>q_skip hw (hg.go hq)⟩
 |true=>
  rw [hw] at hk hg
  cases ho:o.op with
  |load ty p=>
   rw [ho] at hk hg
   simp only [XK.ld.injEq] at hk
   exact ⟨λhq=>q_load (xhd h) _ _ hw ho hk.2.1 hk.1 hk.2.2 (hg.go hq)⟩
  |store T p y=>rw [ho] at hk hg;exact hg
  |_=>
   rw [ho] at hk hg
   dsimp only at hk hg
   split at hk
   ·rename_i hp
    rw [hp] at hg
    exact ⟨λhq=>q_val _ hw (λw=>congrFun (XK.r.inj hk) w) (hg.go hq)⟩
   ·rename_i hp
    rw [hp] at hg
    exact hg
theorem ok_drawA {id:Nat}{a:Array Oper}{L:List Blk}{f:Nat->Value}{Q:Exit->Act->World->Prop}(hm:P.follows .mixedOrders=true)(hB:Region.lexB .any a=true)(h:mJ M P n a W (Fin M n W Q .normal) a.toList L f):Ok M P n W Q (.region id a true) L f:=by
 obtain ⟨l,rfl⟩:∃ l:List Oper,a=l.toArray:=⟨a.toList,by simp⟩
 exact ok_draw hm hB (by simpa using h)
theorem ok_regA {id:Nat}{a:Array Oper}{L:List Blk}{f:Nat->Value}{Q:Exit->Act->World->Prop}(h:Seg M P n a W Q a.toList L f):Ok M P n W Q (.region id a false) L f:=by
 obtain ⟨l,rfl⟩:∃ l:List Oper,a=l.toArray:=⟨a.toList,by simp⟩
 exact yS (by simpa using h)
theorem xcode_ok {x:Code}{k:List XIt}{L:List Blk}{f:Nat->Value}(hg:zF M P n W Q (xcode P n x ⟨.code x,k,L,f⟩).2):zF M P n W Q ⟨.code x,k,L,f⟩:=by
 cases x with
 |skip=>exact ⟨λhq=>ok_skip (hg.go hq)⟩
 |region id a d=>
  cases d with
  |false=>exact ⟨λhq=>ok_regA (hg.go hq)⟩
  |true=>
   unfold xcode at hg
   dsimp only at hg
   revert hg
   cases hb:(P.follows .mixedOrders && Region.lexB .any a && a.toList.all xQuiet) with
   |false=>exact λhg=>hg
   |true=>
    intro hg
    rw [Bool.and_eq_true,Bool.and_eq_true] at hb
    exact ⟨λhq=>ok_drawA hb.1.1 hb.1.2 (hg.go hq)⟩
 |seq a b=>exact ⟨λhq=>yP (hg.go hq)⟩
 |cond o a b=>
  unfold xcode at hg
  dsimp only at hg
  split at hg
  ·rename_i e;exact ⟨λhq=>ok_true e (hg.go hq)⟩
  ·rename_i e;exact ⟨λhq=>ok_false e (hg.go hq)⟩
  ·exact hg
 |block id b=>exact ⟨λhq=>jB (hg.go hq)⟩
 |exit id=>exact ⟨λhq=>ok_exit (hg.go hq)⟩
 |ret=>exact ⟨λhq=>kG (hg.go hq)⟩
 |_=>exact hg
theorem xfin_ok {e:Exit}{k:List XIt}{L:List Blk}{f:Nat->Value}(hg:zF M P n W Q (xfin e ⟨.fin e,k,L,f⟩).2):zF M P n W Q ⟨.fin e,k,L,f⟩:=by
 cases k with
 |nil=>exact hg
 |cons i k=>
  cases i with
  |code b=>cases e with
   |normal=>exact ⟨λhq=>g7 (hg.go hq)⟩
   |exit id=>exact ⟨λhq=>qC (hg.go hq)⟩
   |ret=>exact ⟨λhq=>yE (hg.go hq)⟩
   |_=>exact hg
  |blk id=>cases e with
   |normal=>exact ⟨λhq=>fV (hg.go hq)⟩
   |exit id'=>
    cases hb:Nat.beq id' id with
    |true=>
     obtain rfl:=Nat.eq_of_beq_eq_true hb
     have hg':=hg.go
     simp only [xfin,hb,cond_true] at hg'
     exact ⟨λhq=>qY (hg' hq)⟩
    |false=>
     have hne:id'≠id:=λe=>by rw [e,Nat.beq_refl] at hb;cases hb
     have hg':=hg.go
     simp only [xfin,hb,cond_false] at hg'
     exact ⟨λhq=>fin_block_other hne (hg' hq)⟩
   |ret=>exact ⟨λhq=>qJ (hg.go hq)⟩
   |_=>exact hg
  |lp I m=>cases e with
   |exit id=>exact ⟨λhq=>qX (hg.go hq)⟩
   |ret=>exact ⟨λhq=>dE (hg.go hq)⟩
   |_=>exact hg
  |tl a r=>cases e with
   |normal=>exact ⟨λhq=>⟨(hg.go hq).go⟩⟩
   |_=>exact hg
  |rd b m=>cases m with
   |zero=>cases e with
    |exit id=>exact ⟨λhq=>qC (hg.go hq)⟩
    |ret=>exact ⟨λhq=>yE (hg.go hq)⟩
    |_=>exact hg
   |succ m=>cases e with
    |normal=>exact ⟨λhq=>⟨(hg.go hq).go⟩⟩
    |exit id=>exact ⟨λhq=>qC (hg.go hq)⟩
    |ret=>exact ⟨λhq=>yE (hg.go hq)⟩
    |_=>exact hg
theorem xhs_ok {a:Array Oper}{s:Array Bool}{u:Nat}{L0:List Blk}{k:List XIt}{L:List Blk}{f:Nat->Value}{h:List Nat}(hk:(xhs P n a s u L0 ⟨.hps a s u L0,k,L,f⟩ h).l=(xhs P n a s u L0 ⟨.hps a s u L0,k,L,f⟩ h).r)
  (hg:zF M P n W Q (xhs P n a s u L0 ⟨.hps a s u L0,k,L,f⟩ h).c):zF M P n W Q ⟨.hps a s u L0,k,L,f⟩:=by
 unfold xhs at hk hg
 split at hk
 ·rename_i hr
  rw [hr] at hg
  exact ⟨λhq hs=>h_done hr (hg.go hq)⟩
 ·rename_i hr
  split at hg
  ·rename_i e;exact absurd e hr
  split at hk
  ·rename_i u' i hf
   rw [hf] at hg
   dsimp only at hg
   have ht:=List.find?_some hf
   unfold xTak at ht
   cases ho:a[i]? with
   |none=>rw [ho] at hg;exact hg
   |some o=>
    rw [ho] at hk hg ht
    dsimp only at hk hg ht
    unfold xhp at hk hg
    have fin3:∀ {b1 b2 b3:Bool},(b1 && b2 && b3)=true->b1=true/\b2=true/\b3=true:=λ{b1 b2 b3} h=>by cases b1<;>cases b2<;>cases b3<;>simp_all
    cases hw:zS a n f o with
    |false=>
     rw [hw] at hk hg
     simp only [XK.h.injEq] at hk
     obtain ⟨e1,e2,e3⟩:=fin3 hk.1
     exact ⟨λhq hs=>hl_skip i o ho e1 e2 e3 (pq_KQ hq k) hs hw (hg.go hq hs)⟩
    |true=>
     rw [hw] at hk hg ht
     dsimp only at ht
     cases hop:o.op with
     |load ty p=>
      rw [hop] at hk hg
      simp only [XK.h.injEq,XK.ld.injEq] at hk
      obtain ⟨e1,e2,e3⟩:=fin3 hk.1
      exact ⟨λhq hs=>hl_load i o (xhd h) _ _ ho e1 e2 e3 (pq_KQ hq k) hs hw hop hk.2.2.2.1 hk.2.2.1 hk.2.2.2.2 (hg.go hq hs)⟩
     |_=>
      rw [hop] at hk hg
      dsimp only at hk hg
      have e0:=XK.h.inj hk
      obtain ⟨e1,e2,e3⟩:=fin3 e0.1
      exact ⟨λhq hs=>hl_take i o _ ho e1 e2 e3 (pq_KQ hq k) hs hw (λw _=>congrFun (XK.r.inj e0.2.2) w) (hg.go hq hs)⟩
  ·rename_i hno
   split at hg
   ·rename_i u' i hf;exact absurd hf (hno u' i rfl)
   ·exact hg
theorem xstep_ok {c:Xc}{h:List Nat}(hk:(fL P n c h).l=(fL P n c h).r)(hg:zF M P n W Q (fL P n c h).c):zF M P n W Q c:=by
 obtain ⟨top,k,L,f⟩:=c
 cases top with
 |ops a r=>cases r with
  |nil=>exact ⟨λhq=>dN (hg.go hq)⟩
  |cons o r=>exact xop_ok hk hg
 |qps a r=>cases r with
  |nil=>exact ⟨λhq=>q_nil (hg.go hq)⟩
  |cons o r=>exact xqp_ok hk hg
 |hps a s u L0=>
  change (xhs P n a s u L0 ⟨.hps a s u L0,k,L,f⟩ h).l=(xhs P n a s u L0 ⟨.hps a s u L0,k,L,f⟩ h).r at hk
  change zF M P n W Q (xhs P n a s u L0 ⟨.hps a s u L0,k,L,f⟩ h).c at hg
  exact xhs_ok hk hg
 |hst a s u L0 i=>exact hg
 |code x=>exact xcode_ok hg
 |fin e=>exact xfin_ok hg
theorem xrun_ok {t:Nat}:∀ (m:Fuel1) (h:List Nat) (c:Xc),xl P n t m h c=xr P n t (tS m) h c->zF M P n W Q (x6 P n t m h c)->zF M P n W Q c
 | .z,_,_,_,hg=>hg
 | .s m,h,c,hk,hg=>by
  unfold xl tS xr at hk
  unfold x6 at hg
  cases hp:xpre n t c with
  |true=>simp only [hp] at hg;exact hg
  |false=>
   simp only [hp] at hk hg
   cases hb:(fL P n c h).go && !xhit n t c with
   |true=>
    simp only [hb] at hk hg
    have h2:=List.cons.inj hk
    exact xstep_ok h2.1 (xrun_ok m _ _ h2.2 hg)
   |false=>
    simp only [hb] at hk hg
    exact xstep_ok (List.cons.inj hk).1 hg
end
end
section
abbrev nS:Nat:=40000
noncomputable def xgo (P:Program)(n t:Nat)(h:List Nat)(c:Xc):Xc:=x6 P n t fuelA h c
noncomputable def xgl (P:Program)(n t:Nat)(h:List Nat)(c:Xc):List XK:=xl P n t fuelA h c
noncomputable def xgr (P:Program)(n t:Nat)(h:List Nat)(c:Xc):List XK:=xr P n t fuelB h c
theorem zK {M:List Nat}{P:Program}{n t:Nat}{W:World}{Q:Exit->Act->World->Prop}(h:List Nat)(c:Xc)(hk:xgl P n t h c=xgr P n t h c)(hg:zF M P n W Q (xgo P n t h c)):zF M P n W Q c:=xrun_ok fuelA h c hk hg
def xA (c:Xc):Array Oper:=match c.top with
 | .ops a _=>a
 | .qps a _=>a
 | .hps a _ _ _=>a
 | .hst a _ _ _ _=>a
 |_=> #[]
def xL (c:Xc):List Oper:=match c.top with
 | .ops _ r=>r
 | .qps _ r=>r
 |_=>[]
def xO (c:Xc):Oper:=match c.top with
 | .hst a _ _ _ i=>a.getD i default
 |_=>(xL c).headD default
def xT (c:Xc):List Oper:=(xL c).tail
def xC (c:Xc):Code:=match c.top with
 | .code x=>x
 |_=> .skip
def pX (c:Xc):Code:=match xC c with
 | .loop b=>b
 |_=> .skip
def xTy (o:Oper):TypeId:=match o.op with
 | .alloc T=>T
 | .box T _=>T
 |_=>0
def xZ (P:Program)(o:Oper):Value:=((P.info? (xTy o)).bind (·.zero)).getD undef
def xX (n:Nat)(f:Nat->Value)(o:Oper):Value:=match o.op with
 | .box _ x=>ev n f x
 |_=>undef
def xBx (o:Oper):Operand:=match o.op with
 | .box _ x=>x
 |_=> .tmp 0
def Xc.st (c:Xc)(t:Nat)(v:Value):Xc:={c with f:=upd c.f (some t) v}
def Xc.put (c:Xc)(v:Value):Xc:=match c.top with
 | .ops a (o::r)=>⟨.ops a r,c.k,c.L,upd c.f o.dst v⟩
 | .qps a (o::r)=>⟨.qps a r,c.k,c.L,upd c.f o.dst v⟩
 | .hst a s u L0 i=>⟨.hps a (s.setIfInBounds i true) u L0,c.k,c.L,upd c.f (a.getD i default).dst v⟩
 |_=>c
def mW (P:Program)(n:Nat)(c:Xc):XR:=match c.top with
 | .ops a (o::_)=>bif zS a n c.f o then (λw=>(execOp (ev n c.f) o).run P w) else λw=> .ok .skip w
 | .qps a (o::_)=>bif zS a n c.f o then (λw=>(execOp (ev n c.f) o).run P w) else λw=> .ok .skip w
 | .hst a _ _ _ i=>bif zS a n c.f (a.getD i default) then (λw=>(execOp (ev n c.f) (a.getD i default)).run P w) else λw=> .ok .skip w
 |_=>λw=> .ok .skip w
def xNew (c:Xc)(x:Blk):Xc:=⟨.ops (xA c) (xT c),c.k,x::c.L,upd c.f (xO c).dst (.pointer (some ⟨x.b,0,none⟩))⟩
def xQ (c:Xc):Bool:=match c.top with
 | .qps _ _=>true
 | .hps _ _ _ _=>true
 | .hst _ _ _ _ _=>true
 |_=>false
def xAdd (c:Xc)(ob:List Blk):Xc:={c with L:=c.L++ob}
section
variable {M:List Nat}{P:Program}{n:Nat}{W:World}{Q:Exit->Act->World->Prop}{c:Xc}
theorem ent_ne {k:FuncId}{args:Array Value}(h:(λw:World=>(Result.ok Next.skip w))=λw=> .ok (.enter k args) w):False:=by
 have:=congrFun h default
 simp at this
theorem no_ent {P:Program}{n:Nat}{f:Nat->Value}{k:FuncId}{args:Array Value}(h:(λw:World=>(execOp (ev n f) (default:Oper)).run P w)=λw=> .ok (.enter k args) w):False:=by
 have:=congrFun h default
 unfold execOp at this
 simp [default,instInhabitedOper.default,instInhabitedOp.default] at this
theorem xput_call {k:FuncId}{args:Array Value}{v:Value}(hc:∀ w,Own M W w c.L->Calls P k args w (YR v w))(hg:zF M P n W Q (c.put v))
  (he:mW P n c=λw=> .ok (.enter k args) w):zF M P n W Q c:=by
 obtain ⟨top,kk,L,f⟩:=c
 unfold mW at he
 unfold Xc.put at hg
 dsimp only at he hg hc
 cases top with
 |ops a r=>cases r with
  |nil=>exact (ent_ne he).elim
  |cons o r=>
   dsimp only at he hg
   cases hw:zS a n f o with
   |false=>rw [hw] at he;exact (ent_ne he).elim
   |true=>rw [hw] at he;exact ⟨λhq=>s_call v hw (λw=>congrFun he w) hc (hg.go hq)⟩
 |qps a r=>cases r with
  |nil=>exact (ent_ne he).elim
  |cons o r=>
   dsimp only at he hg
   cases hw:zS a n f o with
   |false=>rw [hw] at he;exact (ent_ne he).elim
   |true=>rw [hw] at he;exact ⟨λhq=>q_call v hw (λw=>congrFun he w) hc (hg.go hq)⟩
 |hst a s u L0 i=>
  dsimp only at he hg
  cases hw:zS a n f (a.getD i default) with
  |false=>rw [hw] at he;exact (ent_ne he).elim
  |true=>
   rw [hw] at he
   cases ha:a[i]? with
   |none=>
    have hd:a.getD i default=default:=by rw [Array.getD_eq_getD_getElem?,ha];rfl
    rw [hd] at he
    exact (no_ent (P:=P) (n:=n) he).elim
   |some o=>
    have hd:a.getD i default=o:=by rw [Array.getD_eq_getD_getElem?,ha];rfl
    rw [hd] at he hg hw
    exact ⟨λhq hs=>hl_call o v ha hw hs (λw=>congrFun he w) hc (hg.go hq hs)⟩
 |_=>exact (ent_ne he).elim
theorem z8 {k:FuncId}{args:Array Value}{v:Value}(h:List Nat)(hc:∀ w,Own M W w (xgo P n nS h c).L->Calls P k args w (YR v w))(hg:zF M P n W Q ((xgo P n nS h c).put v))
  (hkt:(xgl P n nS h c,mW P n (xgo P n nS h c))=(xgr P n nS h c,(λw=> .ok (.enter k args) w)):=by kernel_rfl):zF M P n W Q c:=by
 obtain ⟨hk,he⟩:=Prod.mk.inj hkt
 exact zK h c hk (xput_call hc hg he)
theorem kP {k:FuncId}{args:Array Value}{R:Value->List Blk->Prop}(h:List Nat)(hc:∀ w,Own M W w (xgo P n nS h c).L->Calls P k args w λe w'=>∃ v ob,e= .returned v/\R v ob/\Own [] w w' ob)
  (hg:∀ v ob,R v ob->zF M P n W Q (xAdd ((xgo P n nS h c).put v) ob)) (hkt:(xgl P n nS h c,((xgo P n nS h c).top,zS (xA (xgo P n nS h c)) n (xgo P n nS h c).f (xO (xgo P n nS h c))))=(xgr P n nS h c,(.ops (xA (xgo P n nS h c)) (xO (xgo P n nS h c)::xT (xgo P n nS h c)),true)):=by kernel_rfl)
  (he:mW P n (xgo P n nS h c)=(λw=> .ok (.enter k args) w):=by kernel_rfl):zF M P n W Q c:=by
 obtain ⟨hk,ht⟩:=Prod.mk.inj hkt
 refine zK h c hk ?_
 generalize xgo P n nS h c=d at hc hg ht he ⊢
 obtain ⟨top,kk,L,f⟩:=d
 generalize hA:xA ⟨top,kk,L,f⟩=a at ht
 generalize hO:xO ⟨top,kk,L,f⟩=o at ht
 generalize hT:xT ⟨top,kk,L,f⟩=r at ht
 simp only [Prod.mk.injEq] at ht
 obtain ⟨rfl,hw⟩:=ht
 have hg':∀ v ob,R v ob->zF M P n W Q ⟨.ops a r,kk,L++ob,upd f o.dst v⟩:=hg
 simp only [mW,hw,cond_true] at he
 refine ⟨λhq=>s_callx (λv L'=>∃ ob,L'=L++ob/\R v ob) hw (λw=>congrFun he w) (λw hO=>((hc w hO).mono λe w' ⟨v,ob,e1,e2,e3⟩=>⟨v,L++ob,e1,⟨ob,rfl,e2⟩,(Own.joinN hO e3).perm List.perm_append_comm⟩)) ?_⟩
 rintro v L' ⟨ob,rfl,hR⟩
 exact (hg' v ob hR).go hq
def xW0 (n:Nat)(c:Xc):Bool:=match c.top with
 | .ops a (o::_)=>zS a n c.f o
 | .hst a _ _ _ i=>zS a n c.f (a.getD i default) && decide (i<a.size)
 |_=>false
theorem x_callE {k:FuncId}{args:Array Value}{R:Value->Prop}(h:List Nat)(hc:∀ w,Own M W w (xgo P n nS h c).L->Calls P k args w λe w'=>∃ v,e= .returned v/\R v/\Below w.heap.size w w')(hg:∀ v,R v->zF M P n W Q ((xgo P n nS h c).put v))
  (hkt:(xgl P n nS h c,xW0 n (xgo P n nS h c),mW P n (xgo P n nS h c))=(xgr P n nS h c,true,λw=> .ok (.enter k args) w):=by kernel_rfl):zF M P n W Q c:=by
 simp only [Prod.mk.injEq] at hkt
 obtain ⟨hk,e1,e2⟩:=hkt
 refine zK h c hk ?_
 generalize xgo P n nS h c=d at*
 obtain ⟨top,kk,L,f⟩:=d
 unfold xW0 at e1
 unfold mW at e2
 cases top with
 |ops a r=>cases r with
  |nil=>cases e1
  |cons o r=>
   dsimp only at e1 e2
   rw [e1] at e2
   have hg':∀ v,R v->zF M P n W Q ⟨.ops a r,kk,L,upd f o.dst v⟩:=hg
   refine ⟨λhq=>s_callx (λv L'=>L'=L/\R v) e1 (λw=>congrFun e2 w) (λw hO=>(hc w hO).mono λe w' ⟨v,q1,q2,q3⟩=>⟨v,L,q1,⟨rfl,q2⟩,hO.on q3⟩) ?_⟩
   rintro v L' ⟨rfl,hR⟩
   exact (hg' v hR).go hq
 |hst a s u L0 i=>
  dsimp only at e1 e2
  rw [Bool.and_eq_true] at e1
  obtain ⟨hw,hi⟩:=e1
  have hi':i<a.size:=of_decide_eq_true hi
  rw [hw] at e2
  have hd:a[i]?=some (a.getD i default):=by rw [Array.getElem?_eq_getElem hi'];simp [Array.getD,hi']
  have hg':∀ v,R v->zF M P n W Q ⟨.hps a (s.setIfInBounds i true) u L0,kk,L,upd f (a.getD i default).dst v⟩:=hg
  refine ⟨λhq hs=>hl_callx (a.getD i default) (λv L'=>L'=L/\R v) hd hw (λw=>congrFun e2 w) (λw hO=>(hc w hO).mono λe w' ⟨v,q1,q2,q3⟩=>⟨v,L,q1,⟨rfl,q2⟩,hO.on q3⟩) (λv L' ⟨e,_⟩ w hO=>by subst e;exact hs w hO) ?_⟩
  rintro v L' ⟨rfl,hR⟩
  exact (hg' v hR).go hq hs
 |_=>cases e1
theorem x_set (t:Nat)(h:List Nat)(v:Value)(hv:(xgo P n t h c).f t=v)(hg:zF M P n W Q ((xgo P n t h c).st t v))(hk:xgl P n t h c=xgr P n t h c:=by kernel_rfl):zF M P n W Q c:=by
 refine zK h c hk ?_
 unfold Xc.st at hg
 rw [←nE hv] at hg
 exact hg
theorem zB (t:Nat)(h:List Nat)(p:Prop)[Decidable p](h1:p->zF M P n W Q ((xgo P n t h c).st t (.bool true)))(h2:¬ p->zF M P n W Q ((xgo P n t h c).st t (.bool false)))
  (hkt:(xgl P n t h c,(xgo P n t h c).f t)=(xgr P n t h c,.bool (decide p)):=by kernel_rfl):zF M P n W Q c:=by
 obtain ⟨hk,hv⟩:=Prod.mk.inj hkt
 by_cases hp:p
 ·exact x_set t h _ (hv.trans (by rw [decide_eq_true hp])) (h1 hp) hk
 ·exact x_set t h _ (hv.trans (by rw [decide_eq_false hp])) (h2 hp) hk
theorem jW (t:Nat)(h:List Nat)(p:Prop)[Decidable p](h1:p->zF M P n W Q ((xgo P n t h c).st t (.bool false)))(h2:¬ p->zF M P n W Q ((xgo P n t h c).st t (.bool true)))
  (hkt:(xgl P n t h c,(xgo P n t h c).f t)=(xgr P n t h c,.bool (!decide p)):=by kernel_rfl):zF M P n W Q c:=by
 obtain ⟨hk,hv⟩:=Prod.mk.inj hkt
 by_cases hp:p
 ·exact x_set t h _ (hv.trans (by rw [decide_eq_true hp];rfl)) (h1 hp) hk
 ·exact x_set t h _ (hv.trans (by rw [decide_eq_false hp];rfl)) (h2 hp) hk
theorem x_bb (t:Nat)(h:List Nat)(b:Bool)(h1:b=true->zF M P n W Q ((xgo P n t h c).st t (.bool true)))(h2:b=false->zF M P n W Q ((xgo P n t h c).st t (.bool false)))
  (hkt:(xgl P n t h c,(xgo P n t h c).f t)=(xgr P n t h c,.bool b):=by kernel_rfl):zF M P n W Q c:=by
 obtain ⟨hk,hv⟩:=Prod.mk.inj hkt
 cases b with
 |true=>exact x_set t h _ hv (h1 rfl) hk
 |false=>exact x_set t h _ hv (h2 rfl) hk
theorem x_sum {k:IntKind}(t:Nat)(h:List Nat)(z:Int)(hz:k.wrap z=z)(hg:zF M P n W Q ((xgo P n t h c).st t (.int k z)))
  (hkt:(xgl P n t h c,(xgo P n t h c).f t)=(xgr P n t h c,.int k (k.wrap z)):=by kernel_rfl):zF M P n W Q c:=by
 obtain ⟨hk,hv⟩:=Prod.mk.inj hkt
 exact x_set t h _ (hv.trans (by rw [hz])) hg hk
theorem yT (h:List Nat)(L':List Blk)(hs:∀ w,Own M W w (xgo P n nS h c).L->Own M W w L')(hg:zF M P n W Q {xgo P n nS h c with L:=L'})(hk:xgl P n nS h c=xgr P n nS h c:=by kernel_rfl)(hqq:xQ (xgo P n nS h c)=false:=by kernel_rfl):zF M P n W Q c:=by
 refine zK h c hk ?_
 generalize xgo P n nS h c=d at hs hg hqq ⊢
 obtain ⟨top,kk,L,f⟩:=d
 cases top with
 |ops a r=>exact ⟨λhq=>m4 hs (hg.go hq)⟩
 |code x=>exact ⟨λhq=>ok_take hs (hg.go hq)⟩
 |fin e=>exact ⟨λhq=>fin_take hs (hg.go hq)⟩
 |_=>cases hqq
theorem zL (h:List Nat)(hg:∀ b,zF M P n W Q (xNew (xgo P n nS h c) ⟨b,(xZ P (xO (xgo P n nS h c))).cells,xTy (xO (xgo P n nS h c))⟩))(hkt:(xgl P n nS h c,((xgo P n nS h c).top,zS (xA (xgo P n nS h c)) n (xgo P n nS h c).f (xO (xgo P n nS h c)),(xO (xgo P n nS h c)).op,(P.info? (xTy (xO (xgo P n nS h c)))).map (·.zero)))=(xgr P n nS h c,(.ops (xA (xgo P n nS h c)) (xO (xgo P n nS h c)::xT (xgo P n nS h c)),true,.alloc (xTy (xO (xgo P n nS h c))),some (some (xZ P (xO (xgo P n nS h c)))))):=by kernel_rfl):zF M P n W Q c:=by
 obtain ⟨hk,ht⟩:=Prod.mk.inj hkt
 refine zK h c hk ?_
 generalize xgo P n nS h c=d at hg ht ⊢
 simp only [Prod.mk.injEq] at ht
 obtain ⟨e1,e2,e3,e4⟩:=ht
 have key:=λhq=>s_alloc_at (M:=M) (W:=W) (Q:=KQ M P n W Q d.k) (rest:=xT d) (L:=d.L) _ e2 e3 e4 λb=>(hg b).go hq
 have:d=⟨.ops (xA d) (xO d::xT d),d.k,d.L,d.f⟩:=by rw [←e1]
 rw [this]
 exact ⟨key⟩
theorem yN (h:List Nat)(hg:∀ b,zF M P n W Q (xNew (xgo P n nS h c) ⟨b,(xX n (xgo P n nS h c).f (xO (xgo P n nS h c))).cells,xTy (xO (xgo P n nS h c))⟩))
  (hkt:(xgl P n nS h c,(xgo P n nS h c).top,zS (xA (xgo P n nS h c)) n (xgo P n nS h c).f (xO (xgo P n nS h c)),(xO (xgo P n nS h c)).op)
   =(xgr P n nS h c,.ops (xA (xgo P n nS h c)) (xO (xgo P n nS h c)::xT (xgo P n nS h c)),true,.box (xTy (xO (xgo P n nS h c))) (xBx (xO (xgo P n nS h c)))):=by kernel_rfl):zF M P n W Q c:=by
 simp only [Prod.mk.injEq] at hkt
 obtain ⟨hk,e1,e2,e3⟩:=hkt
 refine zK h c hk ?_
 generalize xgo P n nS h c=d at*
 have hx:xX n d.f (xO d)=ev n d.f (xBx (xO d)):=by unfold xX;rw [e3]
 rw [hx] at hg
 have key:=λhq=>s_box (M:=M) (W:=W) (Q:=KQ M P n W Q d.k) (rest:=xT d) (L:=d.L) (ev n d.f (xBx (xO d))) e2 e3 rfl λb=>(hg b).go hq
 have:d=⟨.ops (xA d) (xO d::xT d),d.k,d.L,d.f⟩:=by rw [←e1]
 rw [this]
 exact ⟨key⟩
def xDr (c:Xc):Array Oper:=match xC c with
 | .region _ a true=>a
 |_=> #[]
def xId (c:Xc):Nat:=match xC c with
 | .region i _ _=>i
 |_=>0
theorem x_draw (m:Nat)(h:List Nat)(hg:zF M P n W Q ⟨.hps ((xDr (xgo P n nS h c)).toList.take m).toArray (Array.replicate m false) m (xgo P n nS h c).L,.tl (xDr (xgo P n nS h c)) ((xDr (xgo P n nS h c)).toList.drop m)::(xgo P n nS h c).k,(xgo P n nS h c).L,(xgo P n nS h c).f⟩)
  (hkt:(xgl P n nS h c,(xgo P n nS h c).top,P.follows .mixedOrders,preB .any (xDr (xgo P n nS h c)).toList m)=(xgr P n nS h c,.code (.region (xId (xgo P n nS h c)) (xDr (xgo P n nS h c)) true),true,true):=by kernel_rfl):zF M P n W Q c:=by
 simp only [Prod.mk.injEq] at hkt
 obtain ⟨hk,e1,e2,e3⟩:=hkt
 refine zK h c hk ?_
 generalize xgo P n nS h c=d at hg e1 e3 ⊢
 generalize xDr d=a at hg e1 e3
 obtain ⟨l,rfl⟩:∃ l:List Oper,a=l.toArray:=⟨a.toList,by simp⟩
 have:d=⟨.code (.region (xId d) l.toArray true),d.k,d.L,d.f⟩:=by rw [←e1]
 rw [this]
 have hg':zF M P n W Q ⟨.hps (l.take m).toArray (Array.replicate m false) m d.L,.tl l.toArray (l.drop m)::d.k,d.L,d.f⟩:=by simpa using hg
 exact ⟨λhq=>ok_drawh m d.L e2 (by simpa using e3) (hg'.go hq λ_ h=>h)⟩
theorem gY (m:Nat)(h:List Nat)(L0:List Blk)(hs:∀ w,Own M W w (xgo P n nS h c).L->Own M W w L0)(hg:zF M P n W Q ⟨.hps ((xDr (xgo P n nS h c)).toList.take m).toArray (Array.replicate m false) m L0,.tl (xDr (xgo P n nS h c)) ((xDr (xgo P n nS h c)).toList.drop m)::(xgo P n nS h c).k,(xgo P n nS h c).L,(xgo P n nS h c).f⟩)
  (hkt:(xgl P n nS h c,(xgo P n nS h c).top,P.follows .mixedOrders,preB .any (xDr (xgo P n nS h c)).toList m)=(xgr P n nS h c,.code (.region (xId (xgo P n nS h c)) (xDr (xgo P n nS h c)) true),true,true):=by kernel_rfl):zF M P n W Q c:=by
 simp only [Prod.mk.injEq] at hkt
 obtain ⟨hk,e1,e2,e3⟩:=hkt
 refine zK h c hk ?_
 generalize xgo P n nS h c=d at hs hg e1 e3 ⊢
 generalize xDr d=a at hg e1 e3
 obtain ⟨l,rfl⟩:∃ l:List Oper,a=l.toArray:=⟨a.toList,by simp⟩
 have:d=⟨.code (.region (xId d) l.toArray true),d.k,d.L,d.f⟩:=by rw [←e1]
 rw [this]
 have hg':zF M P n W Q ⟨.hps (l.take m).toArray (Array.replicate m false) m L0,.tl l.toArray (l.drop m)::d.k,d.L,d.f⟩:=by simpa using hg
 exact ⟨λhq=>ok_drawh m L0 e2 (by simpa using e3) (hg'.go hq hs)⟩
def xS (c:Xc):Array Bool:=match c.top with
 | .hps _ s _ _=>s
 |_=> #[]
def xU (c:Xc):Nat:=match c.top with
 | .hps _ _ u _=>u.pred
 |_=>0
def xL0 (c:Xc):List Blk:=match c.top with
 | .hps _ _ _ l=>l
 |_=>[]
def xHs (c:Xc)(i:Nat):Xc:={c with top:= .hst (xA c) (xS c) (xU c) (xL0 c) i}
theorem kY (h:List Nat)(i:Nat)(hg:zF M P n W Q (xHs (xgo P n nS h c) i))
  (hkt:(xgl P n nS h c,(xgo P n nS h c).top,Region.ready .any (xA (xgo P n nS h c)) (xS (xgo P n nS h c)))=(xgr P n nS h c,.hps (xA (xgo P n nS h c)) (xS (xgo P n nS h c)) (xU (xgo P n nS h c)+1) (xL0 (xgo P n nS h c)),[i]):=by kernel_rfl):zF M P n W Q c:=by
 simp only [Prod.mk.injEq] at hkt
 obtain ⟨hk,e1,e2⟩:=hkt
 refine zK h c hk ?_
 generalize xgo P n nS h c=d at hg e1 e2 ⊢
 have:d=⟨.hps (xA d) (xS d) (xU d+1) (xL0 d),d.k,d.L,d.f⟩:=by rw [←e1]
 rw [this]
 exact ⟨λhq hs=>h_one i e2 (hg.go hq hs)⟩
def hS (c:Xc):Array Bool:=match c.top with
 | .hst _ s _ _ _=>s
 |_=> #[]
def hU (c:Xc):Nat:=match c.top with
 | .hst _ _ u _ _=>u
 |_=>0
def hL (c:Xc):List Blk:=match c.top with
 | .hst _ _ _ l _=>l
 |_=>[]
def hI (c:Xc):Nat:=match c.top with
 | .hst _ _ _ _ i=>i
 |_=>0
def hNew (c:Xc)(x:Blk)(v:Value):Xc:=⟨.hps (xA c) ((hS c).setIfInBounds (hI c) true) (hU c) (hL c),c.k,x::c.L,upd c.f (xO c).dst v⟩
theorem Own.left {L ob:List Blk}{w:World}(h:Own M W w (L++ob)):Own M W w L:=Own.sub ob (h.perm List.perm_append_comm)
theorem xh_alloc (hg:∀ b,zF M P n W Q (hNew c ⟨b,(xZ P (xO c)).cells,xTy (xO c)⟩ (.pointer (some ⟨b,0,none⟩))))
  (hkt:(c.top,(xA c)[hI c]?,zS (xA c) n c.f (xO c),(xO c).op,(P.info? (xTy (xO c))).map (·.zero))=(.hst (xA c) (hS c) (hU c) (hL c) (hI c),some (xO c),true,.alloc (xTy (xO c)),some (some (xZ P (xO c)))):=by kernel_rfl):zF M P n W Q c:=by
 simp only [Prod.mk.injEq] at hkt
 obtain ⟨e1,e2,e3,e4,e5⟩:=hkt
 have:c=⟨.hst (xA c) (hS c) (hU c) (hL c) (hI c),c.k,c.L,c.f⟩:=by rw [←e1]
 rw [this]
 refine ⟨λhq hs=>hl_step (xO c) e2 e3 (λ_ _ _=>True) λw hO=> ?_⟩
 cases hi:P.info? (xTy (xO c)) with
 |none=>rw [hi] at e5;cases e5
 |some i=>
  rw [hi] at e5
  have hz:i.zero=some (xZ P (xO c)):=Option.some.inj e5
  refine qP (Zp w.heap.size 0) (w':=w.alloc (.cells (xZ P (xO c)).cells (xTy (xO c)))) ?_ ⟨_,_,rfl,hO.alloc _ _,hs _ (Own.sub [_] (hO.alloc _ _)),(hg w.heap.size).go hq λw hO=>hs w (Own.sub [_] hO)⟩
  unfold execOp
  simp [e4,Instr.alloc,zeroValue,typeInfo,hi,hz,newVar,newRow,Sem.run_bind]
theorem fE (len:Nat)(T:TypeId)(cs:Array Value)(hg:∀ b,zF M P n W Q (hNew c ⟨b,cs,T⟩ (.slice (some ⟨b,0,none⟩) len len)))
  (hkt:(c.top,(xA c)[hI c]?,zS (xA c) n c.f (xO c),λw=>(execOp (ev n c.f) (xO c)).run P w)=(.hst (xA c) (hS c) (hU c) (hL c) (hI c),some (xO c),true,λw=> .ok (.value (.slice (some ⟨w.heap.size,0,none⟩) len len)) (w.alloc (.cells cs T))):=by kernel_rfl):zF M P n W Q c:=by
 simp only [Prod.mk.injEq] at hkt
 obtain ⟨e1,e2,e3,e4⟩:=hkt
 have:c=⟨.hst (xA c) (hS c) (hU c) (hL c) (hI c),c.k,c.L,c.f⟩:=by rw [←e1]
 rw [this]
 exact ⟨λhq hs=>hl_step (xO c) e2 e3 (λ_ _ _=>True) λw hO=>qP _ (congrFun e4 w) ⟨_,_,rfl,hO.alloc _ _,hs _ (Own.sub [_] (hO.alloc _ _)),(hg w.heap.size).go hq λw hO=>hs w (Own.sub [_] hO)⟩⟩
theorem qO (h:List Nat)(len:Nat)(T:TypeId)(cs:Array Value)(hg:∀ b,zF M P n W Q ⟨.ops (xA (xgo P n nS h c)) (xT (xgo P n nS h c)),(xgo P n nS h c).k,⟨b,cs,T⟩::(xgo P n nS h c).L,upd (xgo P n nS h c).f (xO (xgo P n nS h c)).dst (.slice (some ⟨b,0,none⟩) len len)⟩)
  (hkt:(xgl P n nS h c,(xgo P n nS h c).top,zS (xA (xgo P n nS h c)) n (xgo P n nS h c).f (xO (xgo P n nS h c)),λw=>(execOp (ev n (xgo P n nS h c).f) (xO (xgo P n nS h c))).run P w)
   =(xgr P n nS h c,.ops (xA (xgo P n nS h c)) (xO (xgo P n nS h c)::xT (xgo P n nS h c)),true,λw=> .ok (.value (.slice (some ⟨w.heap.size,0,none⟩) len len)) (w.alloc (.cells cs T))):=by kernel_rfl):zF M P n W Q c:=by
 simp only [Prod.mk.injEq] at hkt
 obtain ⟨hk,e1,e3,e4⟩:=hkt
 refine zK h c hk ?_
 generalize xgo P n nS h c=d at*
 have:d=⟨.ops (xA d) (xO d::xT d),d.k,d.L,d.f⟩:=by rw [←e1]
 rw [this]
 exact ⟨λhq=>vO e3 λw hO=>qP _ (congrFun e4 w) (((hg w.heap.size).go hq).go _ (hO.alloc _ _))⟩
theorem nB {k:FuncId}{args:Array Value}{R:Value->List Blk->Prop}(hc:∀ w,Own M W w c.L->Calls P k args w λe w'=>∃ v ob,e= .returned v/\R v ob/\Own [] w w' ob)
  (hg:∀ v ob,R v ob->zF M P n W Q (xAdd (c.put v) ob))
  (hkt:(c.top,(xA c)[hI c]?,zS (xA c) n c.f (xO c),λw=>(execOp (ev n c.f) (xO c)).run P w)=(.hst (xA c) (hS c) (hU c) (hL c) (hI c),some (xO c),true,λw=> .ok (.enter k args) w):=by kernel_rfl):zF M P n W Q c:=by
 simp only [Prod.mk.injEq] at hkt
 obtain ⟨e1,e2,e3,e4⟩:=hkt
 have hc':c=⟨.hst (xA c) (hS c) (hU c) (hL c) (hI c),c.k,c.L,c.f⟩:=by rw [←e1]
 have hg':∀ v ob,R v ob->zF M P n W Q ⟨.hps (xA c) ((hS c).setIfInBounds (hI c) true) (hU c) (hL c),c.k,c.L++ob,upd c.f (xO c).dst v⟩:=λv ob h=>by
  have hp:xAdd (c.put v) ob=⟨.hps (xA c) ((hS c).setIfInBounds (hI c) true) (hU c) (hL c),c.k,c.L++ob,upd c.f (xO c).dst v⟩:=by
   have ho:xO c=(xA c).getD (hI c) default:=by unfold xO;rw [e1]
   unfold Xc.put
   rw [e1,ho]
   rfl
  rw [←hp];exact hg v ob h
 rw [hc']
 refine ⟨λhq hs=>hl_callx (xO c) (λv L'=>∃ ob,L'=c.L++ob/\R v ob) e2 e3 (λw=>congrFun e4 w) (λw hO=>((hc w hO).mono λe w' ⟨v,ob,q1,q2,q3⟩=>⟨v,c.L++ob,q1,⟨ob,rfl,q2⟩,(Own.joinN hO q3).perm List.perm_append_comm⟩)) (λv L' ⟨ob,e,_⟩ w hO=>by subst e;exact hs w hO.left) ?_⟩
 rintro v L' ⟨ob,rfl,hR⟩
 exact (hg' v ob hR).go hq λw hO=>hs w hO.left
def xV (f:Nat->Value)(l:List (Nat×Value)):List Value:=l.map λp=>f p.1
theorem gW {f:Nat->Value}:∀ {l:List (Nat×Value)},xV f l=l.map Prod.snd->Agrees f l
 | [],_=>trivial
 |p::r,h=>⟨(List.cons.inj h).1,gW (List.cons.inj h).2⟩
def xJ {α:Type}(lv:α->List (Nat×Value))(Lf:α->List Blk)(rel:α->Prop):List Blk->(Nat->Value)->Prop:=λL f=>∃ x,rel x/\L=Lf x/\Agrees f (lv x)
def Nj (M:List Nat)(P:Program)(n:Nat)(W:World){α:Type}(lv:α->List (Nat×Value))(Lf:α->List Blk)(rel:α->Prop):Prop:=
 ∀ (x':α) (h:List Nat) {c':Xc},rel x'->(xgl P n nS h c',(xgo P n nS h c').top,(xgo P n nS h c').k,(xgo P n nS h c').L,xV (xgo P n nS h c').f (lv x'))=(xgr P n nS h c',.fin .normal,[],Lf x',(lv x').map Prod.snd)->zF M P n W (JoinQ M n W (xJ lv Lf rel)) c'
theorem x_join {α:Type}(lv:α->List (Nat×Value))(Lf:α->List Blk)(rel:α->Prop)(h:List Nat)(h1:Nj M P n W lv Lf rel->zF M P n W (JoinQ M n W (xJ lv Lf rel)) ⟨.code (xC (xgo P n nS h c)),[],(xgo P n nS h c).L,(xgo P n nS h c).f⟩)
  (h2:∀ x g,rel x->zF M P n W Q ⟨.fin .normal,(xgo P n nS h c).k,Lf x,bX g (lv x)⟩) (hkt:(xgl P n nS h c,(xgo P n nS h c).top)=(xgr P n nS h c,.code (xC (xgo P n nS h c))):=by kernel_rfl):zF M P n W Q c:=by
 obtain ⟨hk,e1⟩:=Prod.mk.inj hkt
 refine zK h c hk ?_
 generalize xgo P n nS h c=d at*
 have:d=⟨.code (xC d),d.k,d.L,d.f⟩:=by rw [←e1]
 rw [this]
 refine ⟨λhq=>ok_join (xJ lv Lf rel) ((h1 λx' h c' hr hkt'=> ?_).go pq_join) λL f ⟨x,hr,hL,hA⟩=> ?_⟩
 ·simp only [Prod.mk.injEq] at hkt'
  obtain ⟨hk',f1,f2,f3,f4⟩:=hkt'
  refine zK h c' hk' ?_
  generalize xgo P n nS h c'=d' at*
  have:d'=⟨.fin .normal,[],d'.L,d'.f⟩:=by rw [←f1,←f2]
  rw [this]
  exact ⟨λ_=>fin_join ⟨x',hr,f3,gW f4⟩⟩
 ·subst hL
  rw [qQ _ hA]
  exact (h2 x f hr).go hq
theorem dB {α:Type}(d0:Nat)(lv:α->List (Nat×Value))(Lf:α->List Blk)(rel:α->Prop)(h:List Nat)(h1:Nj M P n W lv Lf rel->zF M P n W (JoinQ M n W (xJ lv Lf rel)) ⟨.code (xC (xgo P n (xCt d0) h c)),[],(xgo P n (xCt d0) h c).L,(xgo P n (xCt d0) h c).f⟩)
  (h2:∀ x g,rel x->zF M P n W Q ⟨.fin .normal,(xgo P n (xCt d0) h c).k,Lf x,bX g (lv x)⟩) (hkt:(xgl P n (xCt d0) h c,(xgo P n (xCt d0) h c).top)=(xgr P n (xCt d0) h c,.code (xC (xgo P n (xCt d0) h c))):=by kernel_rfl):zF M P n W Q c:=by
 obtain ⟨hk,e1⟩:=Prod.mk.inj hkt
 refine zK h c hk ?_
 generalize xgo P n (xCt d0) h c=d at*
 have:d=⟨.code (xC d),d.k,d.L,d.f⟩:=by rw [←e1]
 rw [this]
 refine ⟨λhq=>ok_join (xJ lv Lf rel) ((h1 λx' h c' hr hkt'=> ?_).go pq_join) λL f ⟨x,hr,hL,hA⟩=> ?_⟩
 ·simp only [Prod.mk.injEq] at hkt'
  obtain ⟨hk',f1,f2,f3,f4⟩:=hkt'
  refine zK h c' hk' ?_
  generalize xgo P n nS h c'=d' at*
  have:d'=⟨.fin .normal,[],d'.L,d'.f⟩:=by rw [←f1,←f2]
  rw [this]
  exact ⟨λ_=>fin_join ⟨x',hr,f3,gW f4⟩⟩
 ·subst hL
  rw [qQ _ hA]
  exact (h2 x f hr).go hq
theorem x_now (t:Nat)(p:Prop)[Decidable p](h1:p->zF M P n W Q (c.st t (.bool true)))(h2:¬ p->zF M P n W Q (c.st t (.bool false)))(hv:c.f t= .bool (decide p):=by kernel_rfl):zF M P n W Q c:=by
 by_cases hp:p
 ·have h:=h1 hp
  unfold Xc.st at h
  rw [←nE (hv.trans (by rw [decide_eq_true hp]))] at h
  exact h
 ·have h:=h2 hp
  unfold Xc.st at h
  rw [←nE (hv.trans (by rw [decide_eq_false hp]))] at h
  exact h
def xI {α:Type}(lv:α->List (Nat×Value))(Lf:α->List Blk)(rel:α->Nat->Prop):List Blk->(Nat->Value)->Nat->Prop:=λL f m=>∃ x,rel x m/\L=Lf x/\Agrees f (lv x)
def Nx (M:List Nat)(P:Program)(n:Nat)(W:World)(Q:Exit->Act->World->Prop){α:Type}(lv:α->List (Nat×Value))(Lf:α->List Blk)(rel:α->Nat->Prop)(kk:List XIt)(k:Nat):Prop:=
 ∀ (x':α) (k':Nat) (h:List Nat) {c':Xc},k'<k->rel x' k'->xgl P n nS h c'=xgr P n nS h c'->((xgo P n nS h c').top,(xgo P n nS h c').k,(xgo P n nS h c').L,xV (xgo P n nS h c').f (lv x'))=(.fin .normal,kk,Lf x',(lv x').map Prod.snd)->zF M P n W Q c'
theorem zO {α:Type}(lv:α->List (Nat×Value))(Lf:α->List Blk)(rel:α->Nat->Prop)(x0:α)(m0:Nat)(h:List Nat)(h0:rel x0 m0)
  (hg:∀ x k g kk,rel x k->Nx M P n W Q lv Lf rel (kk::(xgo P n nS h c).k) k->kk= .lp (xI lv Lf rel) k->zF M P n W Q ⟨.code (pX (xgo P n nS h c)),.lp (xI lv Lf rel) k::(xgo P n nS h c).k,Lf x,bX g (lv x)⟩)
  (hkt:(xgl P n nS h c,((xgo P n nS h c).top,(xgo P n nS h c).L,xV (xgo P n nS h c).f (lv x0)))=(xgr P n nS h c,(.code (.loop (pX (xgo P n nS h c))),Lf x0,(lv x0).map Prod.snd)):=by kernel_rfl):zF M P n W Q c:=by
 obtain ⟨hk,ht⟩:=Prod.mk.inj hkt
 refine zK h c hk ?_
 generalize xgo P n nS h c=d at hg ht ⊢
 simp only [Prod.mk.injEq] at ht
 obtain ⟨e1,e2,e3⟩:=ht
 have:d=⟨.code (.loop (pX d)),d.k,d.L,d.f⟩:=by rw [←e1]
 rw [this]
 refine ⟨λhq=>ok_loop (xI lv Lf rel) m0 ⟨x0,h0,e2,gW e3⟩ λL f k ⟨x,hr,hL,hA⟩=> ?_⟩
 subst hL
 rw [qQ _ hA]
 refine (hg x k f _ hr (λx' k' h c' hlt hr' hk' ht'=>zK h c' hk' ?_) rfl).go hq
 generalize xgo P n nS h c'=d' at ht' ⊢
 simp only [Prod.mk.injEq] at ht'
 obtain ⟨f1,f2,f3,f4⟩:=ht'
 have:d'=⟨.fin .normal,.lp (xI lv Lf rel) k::d.k,d'.L,d'.f⟩:=by rw [←f1,←f2]
 rw [this]
 exact ⟨λ_=>fU hlt ⟨x',hr',f3,gW f4⟩⟩
theorem fin_at {kk:List XIt}{L':List Blk}{lv:List (Nat×Value)}{d:Xc}(hg:∀ g,zF M P n W Q ⟨.fin .normal,kk,L',bX g lv⟩)(e1:d.top= .fin .normal)(e2:d.k=kk)(e3:d.L=L')(e4:xV d.f lv=lv.map Prod.snd):zF M P n W Q d:=by
 have hgo:=hg d.f
 rw [←qQ _ (gW e4)] at hgo
 have:d=⟨.fin .normal,kk,L',d.f⟩:=by rw [←e1,←e2,←e3]
 rw [this]
 exact hgo
def Nex (M:List Nat)(P:Program)(n:Nat)(W:World)(Q:Exit->Act->World->Prop){β:Type}(lv:β->List (Nat×Value))(Lf:β->List Blk)(rel:β->Prop)(kk:List XIt):Prop:=
 ∀ (y:β) (h:List Nat) {c':Xc},rel y->(xgl P n (xAt (xlen kk)) h c',(xgo P n (xAt (xlen kk)) h c').top,(xgo P n (xAt (xlen kk)) h c').k,(xgo P n (xAt (xlen kk)) h c').L,xV (xgo P n (xAt (xlen kk)) h c').f (lv y))=(xgr P n (xAt (xlen kk)) h c',.fin .normal,kk,Lf y,(lv y).map Prod.snd)->zF M P n W Q c'
theorem x_loopE {α β:Type}(lv:α->List (Nat×Value))(Lf:α->List Blk)(rel:α->Nat->Prop)(x0:α)(m0:Nat)(lvE:β->List (Nat×Value))(LfE:β->List Blk)(relE:β->Prop)(h:List Nat)(h0:rel x0 m0)
  (hg:∀ x k g,rel x k->Nx M P n W Q lv Lf rel (.lp (xI lv Lf rel) k::(xgo P n nS h c).k) k->Nex M P n W Q lvE LfE relE (xgo P n nS h c).k.tail->zF M P n W Q ⟨.code (pX (xgo P n nS h c)),.lp (xI lv Lf rel) k::(xgo P n nS h c).k,Lf x,bX g (lv x)⟩)
  (he:∀ y g,relE y->zF M P n W Q ⟨.fin .normal,(xgo P n nS h c).k.tail,LfE y,bX g (lvE y)⟩)
  (hkt:(xgl P n nS h c,(xgo P n nS h c).top,(xgo P n nS h c).L,xV (xgo P n nS h c).f (lv x0))=(xgr P n nS h c,.code (.loop (pX (xgo P n nS h c))),Lf x0,(lv x0).map Prod.snd):=by kernel_rfl):zF M P n W Q c:=by
 refine zO lv Lf rel x0 m0 h h0 (λx k g kk hr nx hkk=> ?_) hkt
 subst hkk
 refine hg x k g hr nx λy h' c' hy hkt'=> ?_
 simp only [Prod.mk.injEq] at hkt'
 obtain ⟨hk,e1,e2,e3,e4⟩:=hkt'
 exact zK h' c' hk (fin_at (λg=>he y g hy) e1 e2 e3 e4)
theorem fW (m:Nat)(h:List Nat)(hg:zF M P n W Q ⟨.code (pX (xgo P n nS h c)),.rd (pX (xgo P n nS h c)) m::(xgo P n nS h c).k,(xgo P n nS h c).L,(xgo P n nS h c).f⟩)
  (hkt:(xgl P n nS h c,(xgo P n nS h c).top)=(xgr P n nS h c,.code (.loop (pX (xgo P n nS h c)))):=by kernel_rfl):zF M P n W Q c:=by
 obtain ⟨hk,e1⟩:=Prod.mk.inj hkt
 refine zK h c hk ?_
 generalize xgo P n nS h c=d at*
 have:d=⟨.code (.loop (pX d)),d.k,d.L,d.f⟩:=by rw [←e1]
 rw [this]
 exact ⟨λhq=>⟨λw hO=>wp_loop_rounds (m+1) ((hg.go hq).go w hO)⟩⟩
theorem zE {k:FuncId}{fn:Func}{args:Array Value}{R:Ending->World->Prop}(hf:P.funcs[k]?=some fn)(hg:zF [] P fn.ntmps W (bodyPost P fn R) ⟨.code (fn.body.getD .skip),[],[],λt=>args.getD t undef⟩)
  (hb:fn.body.isSome=true:=by kernel_rfl) (hle:Nat.ble args.size fn.ntmps=true:=by kernel_rfl):Calls P k args W R:=by
 cases hb':fn.body with
 |none=>rw [hb'] at hb;cases hb
 |some b=>rw [hb'] at hg;exact calls_ok hf hb' rfl hle (hg.go pq_body)
def xRt (fn:Func)(i:Nat):Tmp:=match fn.results[i]? with
 |some (.tmp t)=>t
 |some (.cell t _)=>t
 |_=>0
def xRy (fn:Func)(i:Nat):TypeId:=match fn.results[i]? with
 |some (.cell _ y)=>y
 |_=>0
theorem z7 {fn:Func}{R:Ending->World->Prop}(h:List Nat)(v:Value)(hR:∀ w,Own M W w (xgo P n nS h c).L->R (.returned v) w)(hkt:(xgl P n nS h c,((xgo P n nS h c).top,(xgo P n nS h c).k,fn.results,ev n (xgo P n nS h c).f (.tmp (xRt fn 0))))=(xgr P n nS h c,(.fin .ret,[], #[.tmp (xRt fn 0)],v)):=by kernel_rfl):zF M P n W (bodyPost P fn R) c:=by
 obtain ⟨hk,ht⟩:=Prod.mk.inj hkt
 refine zK h c hk ?_
 generalize xgo P n nS h c=d at hR ht ⊢
 obtain ⟨top,kk,L,f⟩:=d
 simp only [Prod.mk.injEq] at ht
 obtain ⟨rfl,rfl,e3,e4⟩:=ht
 exact ⟨λ_=>fin_ret v e3 e4 hR⟩
theorem yI {fn:Func}{R:Ending->World->Prop}(h:List Nat)(v v':Value)(hR:∀ w,Own M W w (xgo P n nS h c).L->R (.returned (.tuple #[v,v'])) w)(hkt:(xgl P n nS h c,((xgo P n nS h c).top,(xgo P n nS h c).k,fn.results,ev n (xgo P n nS h c).f (.tmp (xRt fn 0)),ev n (xgo P n nS h c).f (.tmp (xRt fn 1))))=(xgr P n nS h c,(.fin .ret,[], #[.tmp (xRt fn 0),.tmp (xRt fn 1)],v,v')):=by kernel_rfl):zF M P n W (bodyPost P fn R) c:=by
 obtain ⟨hk,ht⟩:=Prod.mk.inj hkt
 refine zK h c hk ?_
 generalize xgo P n nS h c=d at hR ht ⊢
 obtain ⟨top,kk,L,f⟩:=d
 simp only [Prod.mk.injEq] at ht
 obtain ⟨rfl,rfl,e3,e4,e5⟩:=ht
 exact ⟨λ_=>fin_ret2 v v' e3 e4 e5 hR⟩
end
end
section
theorem mk_take (s:List UInt8)(j:Nat):(mkS s).extract 0 j=mkS (s.take j):=by rw [wP,mk_data];simp
theorem mk_drop (s:List UInt8)(j:Nat):(mkS s).extract j (mkS s).size=mkS (s.drop j):=by
 rw [wP,mk_data,zQ]
 congr 1
 exact List.take_of_length_le (by rw [List.length_drop];omega)
theorem run_strhi {P:Program}{ρ:Operand->Value}{o:Oper}{t:TypeId}{x z:Operand}{s:List UInt8}{k:IntKind}{j:Int}(ho:o.op= .slice t x none (some z) none)(hx:ρ x= .string (mkS s))(hz:ρ z= .int k j)
  (hu:P.underlying t=some .string) (h0:0<=j) (h1:j<=s.length) (w:World):(execOp ρ o).run P w= .ok (.value (.string (mkS (s.take j.toNat)))) w:=by
 unfold execOp
 have h2:j<=((mkS s).size:Int):=by rw [zQ];exact h1
 simp [ho,hx,hz,Instr.sliceAt,Instr.slice,Instr.sliceBounds,Instr.sliceBound,Sem.run_bind,asIntOf,run_underlying hu,h0,h2,mk_take]
theorem run_strlo {P:Program}{ρ:Operand->Value}{o:Oper}{t:TypeId}{x y:Operand}{s:List UInt8}{k:IntKind}{j:Int}(ho:o.op= .slice t x (some y) none none)(hx:ρ x= .string (mkS s))(hy:ρ y= .int k j)
  (hu:P.underlying t=some .string) (h0:0<=j) (h1:j<=s.length) (w:World):(execOp ρ o).run P w= .ok (.value (.string (mkS (s.drop j.toNat)))) w:=by
 unfold execOp
 have h2:j<=((mkS s).size:Int):=by rw [zQ];exact h1
 simp [ho,hx,hy,Instr.sliceAt,Instr.slice,Instr.sliceBounds,Instr.sliceBound,Sem.run_bind,asIntOf,run_underlying hu,h0,h2,mk_drop]
theorem mk_get (s:List UInt8)(k:Nat)(h:k<s.length):(mkS s)[k]?=some s[k]:=by
 have h2:k<(mkS s).size:=by rw [zQ];exact h
 rw [getElem?_pos (mkS s) k h2]
 congr 1
theorem run_stridx {P:Program}{ρ:Operand->Value}{o:Oper}{t:TypeId}{x y:Operand}{s:List UInt8}{k:IntKind}{j:Int}(ho:o.op= .index t x y)(hx:ρ x= .string (mkS s))(hy:ρ y= .int k j)
  (hu:P.underlying t=some .string) (h0:0<=j) (h1:j.toNat<s.length) (w:World):(execOp ρ o).run P w= .ok (.value (.int .u8 (s[j.toNat].toNat:Int))) w:=by
 unfold execOp
 have e:=mk_get s j.toNat h1
 simp [ho,hx,hy,Instr.index,Sem.run_bind,asIntOf,run_underlying hu,h0,e]
theorem run_slhm {P:Program}{ρ:Operand->Value}{o:Oper}{t e:TypeId}{x z y:Operand}{b n c sz:Nat}{k q:IntKind}{j m:Int}(ho:o.op= .slice t x none (some z) (some y))(hx:ρ x= .slice (some ⟨b,0,none⟩) n c)(hz:ρ z= .int k j)(hy:ρ y= .int q m)
  (hu:P.underlying t=some (.slice e)) (hs:(P.info? e).map (·.size)=some sz) (h0:0<=j) (h1:j<=m) (h2:m<=c) (w:World):(execOp ρ o).run P w= .ok (.value (.slice (some ⟨b,0,none⟩) j.toNat m.toNat)) w:=by
 cases he:P.info? e with
 |none=>rw [he] at hs;cases hs
 |some i=>
  rw [he] at hs
  obtain rfl:=Option.some.inj hs
  have h3:0<=m:=Int.le_trans h0 h1
  unfold execOp
  simp [ho,hx,hz,hy,Instr.sliceAt,Instr.slice,Instr.sliceBounds,Instr.sliceBound,Sem.run_bind,asIntOf,run_underlying hu,h0,h1,h2,h3,sizeOf,typeInfo,he,xG]
  try (first|omega|(rw [if_pos Om];simp [xG]))
theorem run_stradd {P:Program}{ρ:Operand->Value}{o:Oper}{t t':TypeId}{x y:Operand}{a b:List UInt8}(ho:o.op= .binOp .add t x y t')(hx:ρ x= .string (mkS a))(hy:ρ y= .string (mkS b))(hb:a.length+b.length<=4000000000)(w:World):(execOp ρ o).run P w= .ok (.value (.string (mkS (a++b)))) w:=by
 unfold execOp
 have h1:¬ (9223372036854775807:Int)<((mkS a).size:Int)+((mkS b).size:Int):=by rw [zQ,zQ];omega
 simp [ho,hx,hy,Sem.run_bind,eqGuard,binOp,Op.stringOp,yZ,h1]
section
variable {M:List Nat}{P:Program}{n0:Nat}{ops:Array Oper}{W:World}{Q:Exit->Act->World->Prop}{rest:List Oper}{o:Oper}{L:List Blk}{f:Nat->Value}
theorem s_appendF {t T:TypeId}{s x:Operand}{i:TypeInfo}{z:Value}{sz:Nat}(hw:zS ops n0 f o=true)(ho:o.op= .call {callee:= .builtin .append,args:= #[s,x],argTypes:= #[t,t]})
  (ht:P.underlying t=some (.slice T)) (hi:P.info? T=some i) (hz:i.zero=some z) (hsz:i.size=sz) (hzs:z.cells.size=sz)
  {b:Addr} {n cap:Nat} {xs:List Value} (hs:ev n0 f s= .slice (some b) n cap) (hxl:xs.length=n*sz) (hxs:∀ w,Own M W w L→∀ j u,xs[j]?=some u->w.cell? (b.add j)=some u)
  {a:Addr} {m c:Nat} {news:List Value} (hx:ev n0 f x= .slice (some a) m c) (hl:news.length=m*sz) (hnews:∀ w,Own M W w L→∀ j u,news[j]?=some u->w.cell? (a.add j)=some u)
  (hroom:cap<n+m) (h63:n+m<=maxLen) (hbytes:(n+m)*i.bytes<=140737488355328)
  (h:∀ v' ob',Sl T sz v' (n+m) (xs++news) ob'->Seg M P n0 ops W Q rest (ob'++L) (upd f o.dst v')):Seg M P n0 ops W Q (o::rest) L f:=
 vO hw λw hO=>by
  subst hsz
  have hsmall:n+m<=9223372036854775807:=by simp only [maxLen] at h63;omega
  have hlen:(xs++news).length=(n+m)*i.size:=by rw [List.length_append,hxl,hl,Nat.add_mul]
  have hr:=run_append_grow (P:=P) w t o.type T i z ht hi hz b n cap xs hxl (hxs w hO) a m c news hl (hnews w hO) Om Om (growslice_fits Om hbytes)
  have hge:=grownCap_ge w (n+m) cap T
  have hcm:=grownCap_le_maxLen w (n+m) cap T h63
  refine qP _ (w':=_) ?_ ((h _ [⟨w.heap.size,xs.toArray++news.toArray++Builtin.zeroCells z.cells (grownCap w (n+m) cap T-(n+m)),T⟩] ⟨hlen,.inr ⟨w.heap.size,grownCap w (n+m) cap T,_,rfl,rfl,hge,hcm, ?_, ?_⟩⟩).go _ ((tT hO).alloc (xs.toArray++news.toArray++Builtin.zeroCells z.cells (grownCap w (n+m) cap T-(n+m))) T))
  ·unfold execOp
   simp only [ho,resolve,invoke,builtin,Sem.run_bind,Sem.run_pure,Result.andThen_ok,List.map_toArray,List.map_cons,List.map_nil,hs,hx,hr]
  ·simp only [Array.size_append,List.size_toArray,size_zeroCells,hzs,hxl,hl,←Nat.add_mul]
   congr 1
   omega
  ·simp only [Array.toList_append,List.append_assoc]
   rw [←List.append_assoc,←hlen]
   exact List.take_left
end
section
variable {M:List Nat}{P:Program}{n:Nat}{ops:Array Oper}{W:World}{L0:List Blk}{Q:Exit->Act->World->Prop}{fuel:Nat}{listed:Array Bool}{f:Nat->Value}
end
end
section
section
variable {M:List Nat}{P:Program}{n:Nat}{ops:Array Oper}{W:World}{L0:List Blk}{Q:Exit->Act->World->Prop}{fuel:Nat}{listed:Array Bool}{f:Nat->Value}
end
end
section
theorem mk_mid (s:List UInt8)(i j:Nat):(mkS s).extract i j=mkS ((s.drop i).take (j-i)):=by rw [wP,mk_data]
theorem run_strmid {P:Program}{ρ:Operand->Value}{o:Oper}{t:TypeId}{x y z:Operand}{s:List UInt8}{k q:IntKind}{i j:Int}(ho:o.op= .slice t x (some y) (some z) none)(hx:ρ x= .string (mkS s))(hy:ρ y= .int k i)(hz:ρ z= .int q j)
  (hu:P.underlying t=some .string) (h0:0<=i) (h1:i<=j) (h3:j<=s.length) (w:World):(execOp ρ o).run P w= .ok (.value (.string (mkS ((s.drop i.toNat).take (j.toNat-i.toNat))))) w:=by
 unfold execOp
 have h2:j<=((mkS s).size:Int):=by rw [zQ];exact h3
 have h4:0<=j:=Int.le_trans h0 h1
 simp [ho,hx,hy,hz,Instr.sliceAt,Instr.slice,Instr.sliceBounds,Instr.sliceBound,Sem.run_bind,asIntOf,run_underlying hu,h0,h1,h2,h4,mk_mid]
 try (intro h9;exfalso;omega)
end
section
section
variable {M:List Nat}{P:Program}{n:Nat}{ops:Array Oper}{W:World}{L0:List Blk}{Q:Exit->Act->World->Prop}{fuel:Nat}{listed:Array Bool}{f:Nat->Value}
theorem vS {L L':List Blk}{w:World}(D:List Blk)(h:Own M W w L)(e:∀ p:Blk->Bool,L.countP p=(D++L').countP p):Own M W w L':=by
 classical
 refine Own.sub D (h.perm ?_)
 rw [List.perm_iff_count]
 intro a
 exact e λx=>x==a
end
end
section
structure Fv where
 name:List UInt8
 A:Option Addr
 of:List (List UInt8)
 cap:Nat
def fvC (x:Fv):List Value:=[.string (mkS x.name),.slice x.A x.of.length x.cap]
theorem vU (x:Fv):(fvC x).length=2:=rfl
def fvV (x:Fv):Value:= .agg #[.string (mkS x.name),.slice x.A x.of.length x.cap]
def Fv.ft (x:Fv):Ft:=⟨x.name,x.of⟩
def yO (xs:List Fv):List Ft:=xs.map Fv.ft
theorem wE (xs:List Fv):(yO xs).length=xs.length:=List.length_map ..
theorem nR (xs:List Fv)(k:Nat):yO (xs.take k)=(yO xs).take k:=by unfold yO;rw [List.map_take]
theorem ftOf_get {xs:List Fv}{i:Nat}(hi:i<xs.length){x:Fv}(h:xs[i]=x):(yO xs)[i]'(by rw [wE];exact hi)=x.ft:=by
 unfold yO;rw [List.getElem_map,h]
structure FtIn (w:World)(B:Nat)(A:Option Addr)(xs:List Fv):Prop where
 top:Reads fvC w B A xs
 each:∀ x∈xs,Reads yV w B x.A x.of
 n:xs.length<=5000
 m:∀ x∈xs,x.of.length<=5000
 name:∀ x∈xs,x.name.length<=1000000
 text:∀ x∈xs,∀ s∈x.of,s.length<=1000000
theorem FtIn.on {w w':World}{B B':Nat}{A:Option Addr}{xs:List Fv}(h:FtIn w B A xs)(hb:Below B w w')(hB:B<=B'):FtIn w' B' A xs:=⟨h.top.on hb hB,λx hx=>(h.each x hx).on hb hB,h.n,h.m,h.name,h.text⟩
def bU (l:List Ft)(n:List UInt8):Int:=match findT l n with
 |some i=>(i:Int)
 |none=> -1
theorem findI_at {l:List Ft}{n:List UInt8}{i:Nat}(hi:i<l.length)(h:l[i].name=n)(h0:∀ f∈l.take i,¬ f.name=n):findT l n=some i:=by
 unfold findT
 rw [List.findIdx?_eq_some_iff_getElem]
 refine ⟨hi,decide_eq_true h,λj hj=> ?_⟩
 simpa using h0 l[j] (List.mem_take_iff_getElem.2 ⟨j,by omega,rfl⟩)
theorem findI_none {l:List Ft}{n:List UInt8}(h0:∀ f∈l,¬ f.name=n):findT l n=none:=by
 unfold findT
 rw [List.findIdx?_eq_none_iff]
 exact λx hx=>decide_eq_false (h0 x hx)
theorem nU {l:List Ft}{n:List UInt8}:isT l n=(decide (n=dfl)||decide (0<=bU l n)):=by
 unfold isT bU
 cases findT l n<;>simp
theorem run_strgeq {P:Program}{ρ:Operand->Value}{o:Oper}{t t':TypeId}{x y:Operand}{a b:List UInt8}{r:Bool}(ho:o.op= .binOp .geq t x y t')(hx:ρ x= .string (mkS a))(hy:ρ y= .string (mkS b))(h:Op.bytesLess a b=r)(w:World):(execOp ρ o).run P w= .ok (.value (.bool (!r))) w:=by
 have e:binOp .geq t (.string (mkS a)) (.string (mkS b))=pure (.bool (!Op.bytesLess a b)):=by
  have:binOp .geq t (.string (mkS a)) (.string (mkS b))=pure (.bool (!Op.bytesLess (mkS a).toList (mkS b).toList)):=by simp [binOp,Op.stringOp]
  rw [this,Lib.toList_data,Lib.toList_data,mk_data,mk_data]
 unfold execOp
 simp only [ho,hx,hy,Sem.run_bind,guard_str,Result.andThen_ok,e,Sem.run_pure,h]
end
section
set_option linter.unnecessarySimpa false
def wordT (k:Nat):List UInt8:=if k=0 then [120] else if k=1 then [121] else if k=2 then [122] else [119,95,49]
def nameT (k:Nat):List UInt8:=if k=0 then [97,112,112] else if k=1 then [98] else if k=2 then [99] else if k=3 then [100] else [101,45,50]
end
section
def oT (o:Oper):TypeId:=match o.op with
 | .index t _ _=>t
 | .indexAddr t _ _=>t
 | .binOp _ t _ _ _=>t
 | .load t _=>t
 |_=>0
def oU (o:Oper):TypeId:=match o.op with
 | .binOp _ _ _ _ t=>t
 |_=>0
def oX (o:Oper):Operand:=match o.op with
 | .index _ x _=>x
 | .indexAddr _ x _=>x
 | .binOp _ _ x _ _=>x
 | .load _ x=>x
 |_=> .tmp 0
def oY (o:Oper):Operand:=match o.op with
 | .index _ _ y=>y
 | .indexAddr _ _ y=>y
 | .binOp _ _ _ y _=>y
 |_=> .tmp 0
def xAg:Value->Array Value
 | .agg vs=>vs
 |_=> #[]
def xEl (P:Program)(t:TypeId):TypeId:=match P.underlying t with
 |some (.array _ e)=>e
 |some (.slice e)=>e
 |_=>0
def xW (n:Nat)(c:Xc):Bool:=match c.top with
 | .ops a (o::_)=>zS a n c.f o
 | .qps a (o::_)=>zS a n c.f o
 |_=>false
section
variable {M:List Nat}{P:Program}{n:Nat}{W:World}{Q:Exit->Act->World->Prop}{c:Xc}
theorem dF (t:Nat)(h:List Nat)(v0 v:Value)(e:v0=v)(hg:zF M P n W Q ((xgo P n t h c).st t v))(hkt:(xgl P n t h c,(xgo P n t h c).f t)=(xgr P n t h c,v0):=by kernel_rfl):zF M P n W Q c:=by
 obtain ⟨hk,hv⟩:=Prod.mk.inj hkt
 exact x_set t h v (hv.trans e) hg hk
theorem x_i (t:Nat)(h:List Nat)(z:Int)(hg:zF M P n W Q ((xgo P n t h c).st t (YI z)))(hz: -9223372036854775808<=z/\z<=9223372036854775807:=by omega)
  (hkt:(xgl P n t h c,(xgo P n t h c).f t)=(xgr P n t h c,YI (IntKind.i64.wrap z)):=by kernel_rfl):zF M P n W Q c:=by
 obtain ⟨hk,hv⟩:=Prod.mk.inj hkt
 exact x_sum t h z (IntWalk.i64_in _ hz) hg hkt
theorem Own.nth {L:List Blk}{w:World}(i:Nat)(x:Blk)(hO:Own M W w L)(h:L[i]?=some x:=by kernel_rfl):Own M W w [x]:=hO.take (λy hy=>by rw [List.mem_singleton.1 hy];exact List.mem_of_getElem? h) (by simp)
theorem Own.past {L:List Blk}{w:World}(i:Nat)(L':List Blk)(hO:Own M W w L)(h:L.drop i=L':=by kernel_rfl):Own M W w L':=by
 rw [←h]
 exact Own.sub (L.take i) (by rw [List.take_append_drop];exact hO)
theorem Own.cast {L L':List Blk}{w:World}(hO:Own M W w L)(e:L=L'):Own M W w L':=e▸hO
theorem Own.no {L:List Blk}{w:World}(hO:Own M W w L):Own M W w []:=hO.take (λy hy=>by simp at hy) (by simp)
theorem kB {v:Value}(hw:xW n c=true)(hr:∀ w,(execOp (ev n c.f) (xO c)).run P w= .ok (.value v) w)(hg:zF M P n W Q (c.put v)):zF M P n W Q c:=by
 obtain ⟨top,kk,L,f⟩:=c
 unfold xW at hw
 unfold Xc.put at hg
 cases top with
 |ops a r=>cases r with
  |nil=>cases hw
  |cons o r=>exact ⟨λhq=>kC v hw hr (hg.go hq)⟩
 |qps a r=>cases r with
  |nil=>cases hw
  |cons o r=>exact ⟨λhq=>q_val v hw hr (hg.go hq)⟩
 |_=>cases hw
theorem x_val (d:Nat)(h:List Nat)(v:Value)(hr:∀ w,(execOp (ev n (xgo P n (d+50000) h c).f) (xO (xgo P n (d+50000) h c))).run P w= .ok (.value v) w)(hg:zF M P n W Q ((xgo P n (d+50000) h c).put v))
  (hkt:(xgl P n (d+50000) h c,xW n (xgo P n (d+50000) h c))=(xgr P n (d+50000) h c,true):=by kernel_rfl):zF M P n W Q c:=by
 obtain ⟨hk,hw⟩:=Prod.mk.inj hkt
 exact zK h c hk (kB hw hr hg)
theorem zW (d:Nat)(h:List Nat)(a b:List UInt8)(hg:zF M P n W Q ((xgo P n (d+50000) h c).put (.string (mkS (a++b)))))(hb:a.length+b.length<=4000000000:=by (try simp only [List.length_append,List.length_cons,List.length_nil]);omega)
  (hkt:(xgl P n (d+50000) h c,(xW n (xgo P n (d+50000) h c),(xO (xgo P n (d+50000) h c)).op,ev n (xgo P n (d+50000) h c).f (oX (xO (xgo P n (d+50000) h c))),ev n (xgo P n (d+50000) h c).f (oY (xO (xgo P n (d+50000) h c)))))=(xgr P n (d+50000) h c,(true,.binOp .add (oT (xO (xgo P n (d+50000) h c))) (oX (xO (xgo P n (d+50000) h c))) (oY (xO (xgo P n (d+50000) h c))) (oU (xO (xgo P n (d+50000) h c))),.string (mkS a),.string (mkS b))):=by kernel_rfl):zF M P n W Q c:=by
 obtain ⟨hk,ht⟩:=Prod.mk.inj hkt
 simp only [Prod.mk.injEq] at ht
 exact zK h c hk (kB ht.1 (run_stradd ht.2.1 ht.2.2.1 ht.2.2.2 hb) hg)
def xPb:Value->Nat
 | .pointer (some a)=>a.block
 |_=>0
def xOi (i:Nat)(c:Xc):Oper:=(xA c).getD i default
def xHn (c:Xc)(i:Nat)(v:Value):Xc:=⟨.hps (xA c) ((xS c).setIfInBounds i true) (xU c) (xL0 c),c.k,c.L,upd c.f (xOi i c).dst v⟩
def pW (n:Nat)(i:Nat)(c:Xc):XTop×Option Oper×Bool×Bool×Bool×Bool:=
 (c.top,(xA c)[i]?,zS (xA c) n c.f (xOi i c),Region.noSelect (xA c),Region.free .any (xA c) (xS c) i,(Region.ready .any (xA c) (xS c)).contains i)
def fF (i:Nat)(c:Xc):XTop×Option Oper×Bool×Bool×Bool×Bool:=(.hps (xA c) (xS c) (xU c+1) (xL0 c),some (xOi i c),true,true,true,true)
theorem xtake {i:Nat}{v:Value}(hv:∀ w,Own M W w (xL0 c)->(execOp (ev n c.f) (xOi i c)).run P w= .ok (.value v) w)(hg:zF M P n W Q (xHn c i v))(hf:pW n i c=fF i c):zF M P n W Q c:=by
 simp only [pW,fF,Prod.mk.injEq] at hf
 obtain ⟨e1,e2,e3,e4,e5,e6⟩:=hf
 have:c=⟨.hps (xA c) (xS c) (xU c+1) (xL0 c),c.k,c.L,c.f⟩:=by rw [←e1]
 rw [this]
 exact ⟨λhq hs=>hl_take i _ v e2 e4 e5 e6 (pq_KQ hq c.k) hs e3 hv (hg.go hq hs)⟩
theorem xh_ixa (t:Nat)(h:List Nat)(i N k sz:Nat)(hN:k<N)(hg:zF M P n W Q (xHn (xgo P n t h c) i (.pointer (some ⟨xPb (ev n (xgo P n t h c).f (oX (xOi i (xgo P n t h c)))),xOff (ev n (xgo P n t h c).f (oX (xOi i (xgo P n t h c))))+(k:Int).toNat*sz,none⟩))))
  (hkt:(xgl P n t h c,pW n i (xgo P n t h c),(xOi i (xgo P n t h c)).op,ev n (xgo P n t h c).f (oX (xOi i (xgo P n t h c))),ev n (xgo P n t h c).f (oY (xOi i (xgo P n t h c))),P.underlying (oT (xOi i (xgo P n t h c))),(P.info? (xEl P (oT (xOi i (xgo P n t h c))))).map (·.size))
   =(xgr P n t h c,fF i (xgo P n t h c),.indexAddr (oT (xOi i (xgo P n t h c))) (oX (xOi i (xgo P n t h c))) (oY (xOi i (xgo P n t h c))),.pointer (some ⟨xPb (ev n (xgo P n t h c).f (oX (xOi i (xgo P n t h c)))),xOff (ev n (xgo P n t h c).f (oX (xOi i (xgo P n t h c)))),none⟩),YI (k:Int),some (.array N (xEl P (oT (xOi i (xgo P n t h c))))),some sz):=by kernel_rfl):zF M P n W Q c:=by
 simp only [Prod.mk.injEq] at hkt
 obtain ⟨hk,e1,e2,e3,e4,e5,e6⟩:=hkt
 exact zK h c hk (xtake (λw _=>run_ixarr e2 e3 e4 e5 e6 Om Om rfl w) hg e1)
theorem xh_ldk (t:Nat)(h:List Nat)(i q:Nat)(cs:Array Value)(off:Nat)(ty:TypeId)(v:Value)(hv:yY P ty cs off=some v)(hg:zF M P n W Q (xHn (xgo P n t h c) i v))
  (hkt:(xgl P n t h c,pW n i (xgo P n t h c),(xOi i (xgo P n t h c)).op,(xL0 (xgo P n t h c))[q]?,(vC (xL0 (xgo P n t h c)) q).cs,ev n (xgo P n t h c).f (oX (xOi i (xgo P n t h c))))
   =(xgr P n t h c,fF i (xgo P n t h c),.load ty (oX (xOi i (xgo P n t h c))),some (vC (xL0 (xgo P n t h c)) q),cs,.pointer (some ⟨(vC (xL0 (xgo P n t h c)) q).b,off,none⟩)):=by kernel_rfl):zF M P n W Q c:=by
 simp only [Prod.mk.injEq] at hkt
 obtain ⟨hk,e1,e2,e3,e4,e5⟩:=hkt
 exact zK h c hk (xtake (λw hO=>vA e2 e5 (yX (by rw [e4];exact hv) (hO.get e3))) hg e1)
def aT (o:Oper):TypeId:=match o.op with
 | .call c=>c.argTypes.getD 0 0
 |_=>0
def aX (o:Oper)(i:Nat):Operand:=match o.op with
 | .call c=>c.args.getD i (.tmp 0)
 |_=> .tmp 0
def aOp (o:Oper):Op:= .call {callee:= .builtin .append,args:= #[aX o 0,aX o 1],argTypes:= #[aT o,aT o]}
def aInfo (P:Program)(T:TypeId):Option (Bool×Nat×Option Nat):=(P.info? T).map λi=>(Nat.ble i.bytes 1000000,i.size,i.zero.map λz=>z.cells.size)
def aNext (c:Xc)(L:List Blk)(v:Value):Xc:=⟨.hps (xA c) ((hS c).setIfInBounds (hI c) true) (hU c) (hL c),c.k,L,upd c.f (xO c).dst v⟩
theorem hs_take' {ops:Array Oper}{L L' L0:List Blk}{u i:Nat}{s:Array Bool}{f:Nat->Value}(hs:∀ w,Own M W w L->Own M W w L')(h:tA M P n ops W L0 Q u s i L' f):tA M P n ops W L0 Q u s i L f:=⟨λw hO=>h.go w (hs w hO)⟩
theorem tZ {T:TypeId}{sz:Nat}(h:aInfo P T=some (true,sz,some sz)):∃ i z,P.info? T=some i/\i.zero=some z/\i.size=sz/\z.cells.size=sz/\i.bytes<=1000000:=by
 unfold aInfo at h
 cases hi:P.info? T with
 |none=>rw [hi] at h;cases h
 |some i=>
  rw [hi] at h
  simp only [Option.map_some,Option.some.injEq,Prod.mk.injEq] at h
  obtain ⟨h1,h2,h3⟩:=h
  cases hz:i.zero with
  |none=>rw [hz] at h3;cases h3
  |some z=>rw [hz] at h3;exact ⟨i,z,rfl,hz,h2,Option.some.inj h3,Nat.le_of_ble_eq_true h1⟩
theorem p7 {T:TypeId}{sz k m cp:Nat}{v:Value}{xs:List Value}(E ob R:List Blk)(q:Nat)(L1 L0:List Blk)(hs:∀ w,Own M W w L1->Own M W w (E++ob++R))(hsub:∀ ob' w,Own M W w (E++ob'++R)->Own M W w L0)(hv:Sl T sz v k xs ob)(hN:k+m<=1000000)
  (hg:∀ v' ob',Sl T sz v' (k+m) (xs++(vC E q).cs.toList) ob'->zF M P n W Q (aNext c (E++ob'++R) v'))
  (hkt:(c.L,hL c,c.top,(xA c)[hI c]?,zS (xA c) n c.f (xO c),(xO c).op,ev n c.f (aX (xO c) 0),ev n c.f (aX (xO c) 1),E[q]?,P.underlying (aT (xO c)),aInfo P T,(vC E q).cs.toList.length,(vC E q).cs.toList.all λu=>u.oneCell')
   =(L1,L0,.hst (xA c) (hS c) (hU c) (hL c) (hI c),some (xO c),true,aOp (xO c),v,.slice (some ⟨(vC E q).b,0,none⟩) m cp,some (vC E q),some (.slice T),some (true,sz,some sz),m*sz,true):=by kernel_rfl):zF M P n W Q c:=by
 simp only [Prod.mk.injEq] at hkt
 obtain ⟨f1,f2,e1,e2,e3,e4,e5,e6,e7,e8,e9,e10,e11⟩:=hkt
 rw [←f1] at hs
 rw [←f2] at hsub
 have:c=⟨.hst (xA c) (hS c) (hU c) (hL c) (hI c),c.k,c.L,c.f⟩:=by rw [←e1]
 rw [this]
 obtain ⟨i,z,hi,hz,hsz,hzs,hby⟩:=tZ e9
 refine ⟨λhq hs0=>hs_take' hs (hl_append (E:=E) (ob:=ob) (R:=R) (xO c) e2 e3 e4 e8 hi hz hsz hzs e5 hv e6 e10 (λw hO j u hj=> ?_) (List.all_eq_true.1 e11) ?_ ?_ hsub λv' ob' h=>(hg v' ob' h).go hq (hsub ob'))⟩
 ·have hmem:vC E q∈E++ob++R:=List.mem_append_left _ (List.mem_append_left _ (List.mem_of_getElem? e7))
  rw [xG,cell_of_row w _ _ _ _ _ (hO.held _ hmem),Nat.zero_add]
  simpa using hj
 ·unfold maxLen;omega
 ·have:=Nat.mul_le_mul hN hby;omega
theorem put_read {v:Value}(hw:xW n c=true)(hr:∀ w,Own M W w c.L->(execOp (ev n c.f) (xO c)).run P w= .ok (.value v) w)(hg:zF M P n W Q (c.put v)):zF M P n W Q c:=by
 obtain ⟨top,kk,L,f⟩:=c
 unfold xW at hw
 unfold Xc.put at hg
 cases top with
 |ops a r=>cases r with
  |nil=>cases hw
  |cons o r=>exact ⟨λhq=>s_read v hw hr (hg.go hq)⟩
 |qps a r=>cases r with
  |nil=>cases hw
  |cons o r=>exact ⟨λhq=>q_read v hw hr (hg.go hq)⟩
 |_=>cases hw
theorem zJ (d:Nat)(h:List Nat){A:Option Addr}{b off:Nat}(hA:A=some ⟨b,off,none⟩)(N cp j sz:Nat)(hj:j<N)(hg:zF M P n W Q ((xgo P n (d+50000) h c).put (.pointer (some ⟨b,off+(j:Int).toNat*sz,none⟩))))
  (hkt:(xgl P n (d+50000) h c,xW n (xgo P n (d+50000) h c),(xO (xgo P n (d+50000) h c)).op,ev n (xgo P n (d+50000) h c).f (oX (xO (xgo P n (d+50000) h c))),ev n (xgo P n (d+50000) h c).f (oY (xO (xgo P n (d+50000) h c))),P.underlying (oT (xO (xgo P n (d+50000) h c))),(P.info? (xEl P (oT (xO (xgo P n (d+50000) h c))))).map (·.size))
   =(xgr P n (d+50000) h c,true,.indexAddr (oT (xO (xgo P n (d+50000) h c))) (oX (xO (xgo P n (d+50000) h c))) (oY (xO (xgo P n (d+50000) h c))),.slice A N cp,YI (j:Int),some (.slice (xEl P (oT (xO (xgo P n (d+50000) h c))))),some sz):=by kernel_rfl):zF M P n W Q c:=by
 simp only [Prod.mk.injEq] at hkt
 obtain ⟨hk,e1,e2,e3,e4,e5,e6⟩:=hkt
 exact zK h c hk (kB e1 (λw=>run_ixA e2 e3 hA e4 e5 e6 Om Om rfl w) hg)
theorem zH (d:Nat)(h:List Nat)(ty:TypeId)(b o:Nat)(v:Value)(hv:∀ w,Own M W w (xgo P n (d+50000) h c).L->(loadVar ty ⟨b,o,none⟩).run P w= .ok v w)(hg:zF M P n W Q ((xgo P n (d+50000) h c).put v))
  (hkt:(xgl P n (d+50000) h c,xW n (xgo P n (d+50000) h c),(xO (xgo P n (d+50000) h c)).op,ev n (xgo P n (d+50000) h c).f (oX (xO (xgo P n (d+50000) h c))))=(xgr P n (d+50000) h c,true,.load ty (oX (xO (xgo P n (d+50000) h c))),.pointer (some ⟨b,o,none⟩)):=by kernel_rfl):zF M P n W Q c:=by
 simp only [Prod.mk.injEq] at hkt
 obtain ⟨hk,e1,e2,e3⟩:=hkt
 exact zK h c hk (put_read e1 (λw hO=>vA e2 e3 (hv w hO)) hg)
theorem x2 (d:Nat)(h:List Nat)(s u:List UInt8)(h1:s=u->zF M P n W Q ((xgo P n (d+50000) h c).put (.bool true)))(h2:¬ s=u->zF M P n W Q ((xgo P n (d+50000) h c).put (.bool false)))
  (hkt:(xgl P n (d+50000) h c,xW n (xgo P n (d+50000) h c),(xO (xgo P n (d+50000) h c)).op,ev n (xgo P n (d+50000) h c).f (oX (xO (xgo P n (d+50000) h c))),ev n (xgo P n (d+50000) h c).f (oY (xO (xgo P n (d+50000) h c))))=(xgr P n (d+50000) h c,true,.binOp .eql (oT (xO (xgo P n (d+50000) h c))) (oX (xO (xgo P n (d+50000) h c))) (oY (xO (xgo P n (d+50000) h c))) (oU (xO (xgo P n (d+50000) h c))),.string (mkS s),.string (mkS u)):=by kernel_rfl):zF M P n W Q c:=by
 simp only [Prod.mk.injEq] at hkt
 obtain ⟨hk,e1,e2,e3,e4⟩:=hkt
 by_cases hp:s=u
 ·exact zK h c hk (kB e1 (λw=>gE e2 e3 e4 (decide_eq_true hp) w) (h1 hp))
 ·exact zK h c hk (kB e1 (λw=>gE e2 e3 e4 (decide_eq_false hp) w) (h2 hp))
theorem gX (d:Nat)(h:List Nat)(s u:List UInt8)(h1:s=u->zF M P n W Q ((xgo P n (d+50000) h c).put (.bool false)))(h2:¬ s=u->zF M P n W Q ((xgo P n (d+50000) h c).put (.bool true)))
  (hkt:(xgl P n (d+50000) h c,xW n (xgo P n (d+50000) h c),(xO (xgo P n (d+50000) h c)).op,ev n (xgo P n (d+50000) h c).f (oX (xO (xgo P n (d+50000) h c))),ev n (xgo P n (d+50000) h c).f (oY (xO (xgo P n (d+50000) h c))))=(xgr P n (d+50000) h c,true,.binOp .neq (oT (xO (xgo P n (d+50000) h c))) (oX (xO (xgo P n (d+50000) h c))) (oY (xO (xgo P n (d+50000) h c))) (oU (xO (xgo P n (d+50000) h c))),.string (mkS s),.string (mkS u)):=by kernel_rfl):zF M P n W Q c:=by
 simp only [Prod.mk.injEq] at hkt
 obtain ⟨hk,e1,e2,e3,e4⟩:=hkt
 by_cases hp:s=u
 ·exact zK h c hk (kB e1 (λw=>run_strneq e2 e3 e4 (decide_eq_true hp) w) (h1 hp))
 ·exact zK h c hk (kB e1 (λw=>run_strneq e2 e3 e4 (decide_eq_false hp) w) (h2 hp))
def xBo:Value->Bool
 | .bool b=>b
 |_=>false
theorem wL (t:Nat)(h:List Nat)(i:Nat){A:Option Addr}{b off:Nat}(hA:A=some ⟨b,off,none⟩)(N cp j sz:Nat)(hj:j<N)(hg:zF M P n W Q (xHn (xgo P n t h c) i (.pointer (some ⟨b,off+(j:Int).toNat*sz,none⟩))))
  (hkt:(xgl P n t h c,pW n i (xgo P n t h c),(xOi i (xgo P n t h c)).op,ev n (xgo P n t h c).f (oX (xOi i (xgo P n t h c))),ev n (xgo P n t h c).f (oY (xOi i (xgo P n t h c))),P.underlying (oT (xOi i (xgo P n t h c))),(P.info? (xEl P (oT (xOi i (xgo P n t h c))))).map (·.size))
   =(xgr P n t h c,fF i (xgo P n t h c),.indexAddr (oT (xOi i (xgo P n t h c))) (oX (xOi i (xgo P n t h c))) (oY (xOi i (xgo P n t h c))),.slice A N cp,YI (j:Int),some (.slice (xEl P (oT (xOi i (xgo P n t h c))))),some sz):=by kernel_rfl):zF M P n W Q c:=by
 simp only [Prod.mk.injEq] at hkt
 obtain ⟨hk,e1,e2,e3,e4,e5,e6⟩:=hkt
 exact zK h c hk (xtake (λw _=>run_ixA e2 e3 hA e4 e5 e6 Om Om rfl w) hg e1)
theorem jU (t:Nat)(h:List Nat)(i:Nat)(ty:TypeId)(b o:Nat)(v:Value)(hv:∀ w,Own M W w (xL0 (xgo P n t h c))->(loadVar ty ⟨b,o,none⟩).run P w= .ok v w)(hg:zF M P n W Q (xHn (xgo P n t h c) i v))
  (hkt:(xgl P n t h c,pW n i (xgo P n t h c),(xOi i (xgo P n t h c)).op,ev n (xgo P n t h c).f (oX (xOi i (xgo P n t h c))))=(xgr P n t h c,fF i (xgo P n t h c),.load ty (oX (xOi i (xgo P n t h c))),.pointer (some ⟨b,o,none⟩)):=by kernel_rfl):zF M P n W Q c:=by
 simp only [Prod.mk.injEq] at hkt
 obtain ⟨hk,e1,e2,e3⟩:=hkt
 exact zK h c hk (xtake (λw hO=>vA e2 e3 (hv w hO)) hg e1)
theorem xh_cat (t:Nat)(h:List Nat)(i:Nat)(a b:List UInt8)(hg:zF M P n W Q (xHn (xgo P n t h c) i (.string (mkS (a++b)))))(hb:a.length+b.length<=4000000000:=by (try simp only [List.length_append,List.length_cons,List.length_nil]);omega)
  (hkt:(xgl P n t h c,pW n i (xgo P n t h c),(xOi i (xgo P n t h c)).op,ev n (xgo P n t h c).f (oX (xOi i (xgo P n t h c))),ev n (xgo P n t h c).f (oY (xOi i (xgo P n t h c))))
   =(xgr P n t h c,fF i (xgo P n t h c),.binOp .add (oT (xOi i (xgo P n t h c))) (oX (xOi i (xgo P n t h c))) (oY (xOi i (xgo P n t h c))) (oU (xOi i (xgo P n t h c))),.string (mkS a),.string (mkS b)):=by kernel_rfl):zF M P n W Q c:=by
 simp only [Prod.mk.injEq] at hkt
 obtain ⟨hk,e1,e2,e3,e4⟩:=hkt
 exact zK h c hk (xtake (λw _=>run_stradd e2 e3 e4 hb w) hg e1)
theorem Reads.elem {α:Type}{g:α->List Value}{sz:Nat}(hg:∀ x,(g x).length=sz){A:Option Addr}{l:List α}{B:Nat}(h:Reads g W B A l)(j:Nat)(hj:j<l.length):∃ b off,A=some ⟨b,off,none⟩∧∀ w,Below B W w→∀ (ty:TypeId) (fo:Nat) (v:Value),yY P ty ((g l[j]).drop fo).toArray 0=some v->(loadVar ty ⟨b,off+j*sz+fo,none⟩).run P w= .ok v w:=by
 obtain ⟨b,off,e,hb,hc⟩:=h Om
 refine ⟨b,off,e,λw hw ty fo v hr=>qZ hg (λk u hu=> ?_) j fo hj rfl v hr⟩
 have:=hc k u hu
 rw [←this]
 unfold World.cell?
 rw [hw.block b hb]
theorem x_ixa (d:Nat)(h:List Nat)(N k sz:Nat)(hN:k<N)(hg:zF M P n W Q ((xgo P n (d+50000) h c).put (.pointer (some ⟨xPb (ev n (xgo P n (d+50000) h c).f (oX (xO (xgo P n (d+50000) h c)))),xOff (ev n (xgo P n (d+50000) h c).f (oX (xO (xgo P n (d+50000) h c))))+(k:Int).toNat*sz,none⟩))))
  (hkt:(xgl P n (d+50000) h c,xW n (xgo P n (d+50000) h c),(xO (xgo P n (d+50000) h c)).op,ev n (xgo P n (d+50000) h c).f (oX (xO (xgo P n (d+50000) h c))),ev n (xgo P n (d+50000) h c).f (oY (xO (xgo P n (d+50000) h c))),P.underlying (oT (xO (xgo P n (d+50000) h c))),(P.info? (xEl P (oT (xO (xgo P n (d+50000) h c))))).map (·.size))
   =(xgr P n (d+50000) h c,true,.indexAddr (oT (xO (xgo P n (d+50000) h c))) (oX (xO (xgo P n (d+50000) h c))) (oY (xO (xgo P n (d+50000) h c))),.pointer (some ⟨xPb (ev n (xgo P n (d+50000) h c).f (oX (xO (xgo P n (d+50000) h c)))),xOff (ev n (xgo P n (d+50000) h c).f (oX (xO (xgo P n (d+50000) h c)))),none⟩),YI (k:Int),some (.array N (xEl P (oT (xO (xgo P n (d+50000) h c))))),some sz):=by kernel_rfl):zF M P n W Q c:=by
 simp only [Prod.mk.injEq] at hkt
 obtain ⟨hk,e1,e2,e3,e4,e5,e6⟩:=hkt
 exact zK h c hk (kB e1 (λw=>run_ixarr e2 e3 e4 e5 e6 Om Om rfl w) hg)
theorem vX (d:Nat)(h:List Nat)(q:Nat)(cs:Array Value)(off:Nat)(ty:TypeId)(v:Value)(hv:yY P ty cs off=some v)(hg:zF M P n W Q ((xgo P n (d+50000) h c).put v))
  (hkt:(xgl P n (d+50000) h c,xW n (xgo P n (d+50000) h c),(xO (xgo P n (d+50000) h c)).op,(xgo P n (d+50000) h c).L[q]?,(vC (xgo P n (d+50000) h c).L q).cs,ev n (xgo P n (d+50000) h c).f (oX (xO (xgo P n (d+50000) h c))))=(xgr P n (d+50000) h c,true,.load ty (oX (xO (xgo P n (d+50000) h c))),some (vC (xgo P n (d+50000) h c).L q),cs,.pointer (some ⟨(vC (xgo P n (d+50000) h c).L q).b,off,none⟩)):=by kernel_rfl):zF M P n W Q c:=by
 simp only [Prod.mk.injEq] at hkt
 obtain ⟨hk,e1,e2,e3,e4,e5⟩:=hkt
 exact zK h c hk (put_read e1 (λw hO=>vA e2 e5 (yX (by rw [e4];exact hv) (hO.get e3))) hg)
theorem bP {T:TypeId}{sz k m cp:Nat}{v:Value}{xs:List Value}(h:List Nat)(E ob R:List Blk)(q:Nat)(L1:List Blk)(hs:∀ w,Own M W w L1->Own M W w (E++ob++R))(hv:Sl T sz v k xs ob)(hN:k+m<=1000000)
  (hg:∀ v' ob',Sl T sz v' (k+m) (xs++(vC E q).cs.toList) ob'->zF M P n W Q ⟨.ops (xA (xgo P n nS h c)) (xT (xgo P n nS h c)),(xgo P n nS h c).k,E++ob'++R,upd (xgo P n nS h c).f (xO (xgo P n nS h c)).dst v'⟩)
  (hkt:(xgl P n nS h c,(xgo P n nS h c).L,(xgo P n nS h c).top,zS (xA (xgo P n nS h c)) n (xgo P n nS h c).f (xO (xgo P n nS h c)),(xO (xgo P n nS h c)).op,ev n (xgo P n nS h c).f (aX (xO (xgo P n nS h c)) 0),ev n (xgo P n nS h c).f (aX (xO (xgo P n nS h c)) 1),E[q]?,P.underlying (aT (xO (xgo P n nS h c))),aInfo P T,(vC E q).cs.toList.length,(vC E q).cs.toList.all λu=>u.oneCell')
   =(xgr P n nS h c,L1,.ops (xA (xgo P n nS h c)) (xO (xgo P n nS h c)::xT (xgo P n nS h c)),true,aOp (xO (xgo P n nS h c)),v,.slice (some ⟨(vC E q).b,0,none⟩) m cp,some (vC E q),some (.slice T),some (true,sz,some sz),m*sz,true):=by kernel_rfl):zF M P n W Q c:=by
 simp only [Prod.mk.injEq] at hkt
 obtain ⟨hk,f1,e1,e3,e4,e5,e6,e7,e8,e9,e10,e11⟩:=hkt
 refine zK h c hk ?_
 generalize (xgo P n nS h c)=d at*
 rw [←f1] at hs
 have:d=⟨.ops (xA d) (xO d::xT d),d.k,d.L,d.f⟩:=by rw [←e1]
 rw [this]
 obtain ⟨i,z,hi,hz,hsz,hzs,hby⟩:=tZ e9
 refine ⟨λhq=>m4 hs (s_append (E:=E) (ob:=ob) (L0:=R) e3 e4 e8 hi hz hsz hzs e5 hv e6 e10 (λw hO j u hj=> ?_) (List.all_eq_true.1 e11) ?_ ?_ λv' ob' h=>(hg v' ob' h).go hq)⟩
 ·have hmem:vC E q∈E++ob++R:=List.mem_append_left _ (List.mem_append_left _ (List.mem_of_getElem? e7))
  rw [xG,cell_of_row w _ _ _ _ _ (hO.held _ hmem),Nat.zero_add]
  simpa using hj
 ·unfold maxLen;omega
 ·have:=Nat.mul_le_mul hN hby;omega
end
end
section
def xNl:List XIt->Bool
 | []=>true
 | .lp _ _::_=>false
 |_::k=>xNl k
theorem n9 {M M':List Nat}{P:Program}{n:Nat}{W W':World}{Q:Exit->Act->World->Prop}:∀ {k:List XIt},xNl k=true->KQ M P n W Q k=KQ M' P n W' Q k
 | [],_=>rfl
 | .lp _ _::_,h=>by cases h
 | .code c::k,h=>by unfold KQ;rw [n9 (k:=k) h]
 | .blk _::k,h=>by unfold KQ;rw [n9 (k:=k) h]
 | .tl _ _::k,h=>by unfold KQ;rw [n9 (k:=k) h]
 | .rd _ _::k,h=>by unfold KQ;rw [n9 (k:=k) h]
theorem pq_of {M:List Nat}{P:Program}{n:Nat}{W:World}{Q:Exit->Act->World->Prop}:∀ {k:List XIt},PQ (KQ M P n W Q k)->PQ Q
 | [],h=>h
 | .lp _ _::k,h=>pq_of (k:=k) λc a d v w q=>h c a d v w q
 | .code c::k,h=>pq_of (k:=k) λc a d v w q=>h c a d v w q
 | .blk _::k,h=>pq_of (k:=k) λc a d v w q=>h c a d v w q
 | .tl _ _::k,h=>pq_of (k:=k) λc a d v w q=>h c a d v w q
 | .rd _ _::k,h=>pq_of (k:=k) λc a d v w q=>h c a d v w q
def xOut:Exit->Bool
 | .exit _=>true
 | .ret=>true
 |_=>false
section
variable {M:List Nat}{P:Program}{n:Nat}{W:World}{Q:Exit->Act->World->Prop}{c:Xc}
theorem x_in (h:List Nat)(M':World->List Nat)(L':List Blk)(hs:∀ w,Own M W w (xgo P n nS h c).L->Own (M' w) w w L'/\zF (M' w) P n w Q {xgo P n nS h c with L:=L'})
  (hkt:(xgl P n nS h c,xNl (xgo P n nS h c).k,xQ (xgo P n nS h c))=(xgr P n nS h c,true,false):=by kernel_rfl):zF M P n W Q c:=by
 simp only [Prod.mk.injEq] at hkt
 obtain ⟨hk,e1,e2⟩:=hkt
 refine zK h c hk ?_
 generalize xgo P n nS h c=d at*
 obtain ⟨top,kk,L,f⟩:=d
 cases top with
 |ops a r=>exact ⟨λhq=>⟨λw hO=>by
   have:=((hs w hO).2.go hq).go w (hs w hO).1
   rw [n9 (M:=M) (W:=W) (M':=M' w) (W':=w) e1];exact this⟩⟩
 |code x=>exact ⟨λhq=>⟨λw hO=>by
   have:=((hs w hO).2.go hq).go w (hs w hO).1
   rw [n9 (M:=M) (W:=W) (M':=M' w) (W':=w) e1];exact this⟩⟩
 |fin x=>exact ⟨λhq=>⟨λw hO=>by
   have:=((hs w hO).2.go hq).go w (hs w hO).1
   rw [n9 (M:=M) (W:=W) (M':=M' w) (W':=w) e1];exact this⟩⟩
 |_=>cases e2
theorem wp_skip {K:Act->World->Prop}{o:Oper}{f:Nat->Value}{w w':World}(hr:(execOp (ev n f) o).run P w= .ok .skip w')(h:K (Fr n (upd f o.dst undef)) w'):o.wp P (Fr n f) w K Q:=by
 unfold Oper.wp
 rw [g8,hr]
 show K ((Fr n f).put o.dst undef) w'
 rw [jJ];exact h
def xNx (d:Xc)(L':List Blk)(v:Value):Xc:=⟨.ops (xA d) (xT d),d.k,L',upd d.f (xO d).dst v⟩
theorem ok_loopW' {c:Code}{L:List Blk}{f:Nat->Value}(Inv:World->(Nat->Value)->Nat->Prop)(m:Nat)(h0:∀ w,Own M W w L->Inv w f m)(h:∀ w f m,Inv w f m->Code.wp P c (RoundW n Inv m Q) (Fr n f) w):Ok M P n W Q (.loop c) L f:=⟨λw hO=>by
 intro b k cs
 have run:∀ (m:Nat) (f:Nat->Value) (w:World),Inv w f m→∃ e a' w',Q e a' w'/\Arrives P (lone (b.at (Fr n f) (.code c:: .inLoop c::k)) cs w) b k cs e a' w':=by
  intro m
  induction m using Nat.strongRecOn with
  |_ m ih=>
   intro f w hI
   obtain ⟨e,a₁,w₁,hq,harr⟩:=h w f m hI b (.inLoop c::k) cs
   cases e with
   |normal=>
    obtain ⟨f',m',hlt,hI',rfl⟩:=hq
    obtain ⟨e₂,a₂,w₂,hq₂,harr₂⟩:=ih m' hlt f' w₁ hI'
    exact ⟨e₂,a₂,w₂,hq₂,.of_steps (Steps.trans harr (.one step_inLoop)) harr₂⟩
   |exit id=>exact ⟨_,a₁,w₁,hq,.pass (x:= .inLoop c) rfl (λ_ _=> .inl (by simp)) harr⟩
   |goto l=>exact ⟨_,a₁,w₁,hq,.pass (x:= .inLoop c) rfl (λ_ _=> .inl (by simp)) harr⟩
   |ret=>exact ⟨_,a₁,w₁,hq,.pass (x:= .inLoop c) rfl (λ_ _=> .inl (by simp)) harr⟩
   |panic ch=>exact ⟨_,a₁,w₁,hq,.pass (x:= .inLoop c) rfl (λ_ _=> .inl (by simp)) harr⟩
   |outgrown=>exact ⟨_,a₁,w₁,hq,.pass (x:= .inLoop c) rfl (λ_ _=> .inl (by simp)) harr⟩
 obtain ⟨e,a',w',hq,harr⟩:=run m f w (h0 w hO)
 exact ⟨e,a',w',hq,.of_steps (.one step_loop) harr⟩⟩
theorem pq_roundW {Inv:World->(Nat->Value)->Nat->Prop}{m:Nat}(h:PQ Q):PQ (RoundW n Inv m Q):=λc a d v w h2=>h c a d v w h2
def xIW (n:Nat){α:Type}(lv:α->List (Nat×Value))(Mf:α->List Nat)(Lf:α->List Blk)(rel:α->World->Nat->Prop):World->(Nat->Value)->Nat->Prop:=λw f m=>∃ x,rel x w m/\Own (Mf x) w w (Lf x)/\Agrees f (lv x)
theorem x_loopW {α:Type}(lv:α->List (Nat×Value))(Mf:α->List Nat)(Lf:α->List Blk)(rel:α->World->Nat->Prop)(x0:α)(m0:Nat)(h:List Nat)(h0:∀ w,Own M W w (xgo P n nS h c).L->rel x0 w m0/\Own (Mf x0) w w (Lf x0))
  (hg:∀ x w m g,rel x w m->Own (Mf x) w w (Lf x)->zF (Mf x) P n w (RoundW n (xIW n lv Mf Lf rel) m (KQ M P n W Q (xgo P n nS h c).k)) ⟨.code (pX (xgo P n nS h c)),[],Lf x,bX g (lv x)⟩)
  (hkt:(xgl P n nS h c,(xgo P n nS h c).top,xV (xgo P n nS h c).f (lv x0))=(xgr P n nS h c,.code (.loop (pX (xgo P n nS h c))),(lv x0).map Prod.snd):=by kernel_rfl):zF M P n W Q c:=by
 simp only [Prod.mk.injEq] at hkt
 obtain ⟨hk,e1,e2⟩:=hkt
 refine zK h c hk ?_
 generalize xgo P n nS h c=d at*
 have:d=⟨.code (.loop (pX d)),d.k,d.L,d.f⟩:=by rw [←e1]
 rw [this]
 refine ⟨λhq=>ok_loopW' (M:=M) (W:=W) (xIW n lv Mf Lf rel) m0 (λw hO=>⟨x0,(h0 w hO).1,(h0 w hO).2,gW e2⟩) λw f m ⟨x,hr,hO,hA⟩=> ?_⟩
 have hx:=hg x w m f hr hO
 rw [←qQ _ hA] at hx
 exact (hx.go (pq_roundW (pq_KQ hq d.k))).go w hO
theorem x_nxW {α:Type}{lv:α->List (Nat×Value)}{Mf:α->List Nat}{Lf:α->List Blk}{rel:α->World->Nat->Prop}{m:Nat}(x':α)(m':Nat)(h:List Nat)(hlt:m'<m)(hs:∀ w,Own M W w (xgo P n nS h c).L->rel x' w m'/\Own (Mf x') w w (Lf x'))
  (hkt:(xgl P n nS h c,(xgo P n nS h c).top,(xgo P n nS h c).k,xV (xgo P n nS h c).f (lv x'))=(xgr P n nS h c,.fin .normal,[],(lv x').map Prod.snd):=by kernel_rfl):zF M P n W (RoundW n (xIW n lv Mf Lf rel) m Q) c:=by
 simp only [Prod.mk.injEq] at hkt
 obtain ⟨hk,e1,e2,e3⟩:=hkt
 refine zK h c hk ?_
 generalize xgo P n nS h c=d at*
 have:d=⟨.fin .normal,[],d.L,d.f⟩:=by rw [←e1,←e2]
 rw [this]
 exact ⟨λ_=>fin_roundW hlt λw hO=>⟨x',(hs w hO).1,(hs w hO).2,gW e3⟩⟩
theorem x_outW {M0:List Nat}{W0:World}{k:List XIt}{Inv:World->(Nat->Value)->Nat->Prop}{m:Nat}(e:Exit)(h:List Nat)(hg:zF M P n W Q ⟨.fin e,k,(xgo P n nS h c).L,(xgo P n nS h c).f⟩)(he:xOut e=true)
  (hkt:(xgl P n nS h c,(xgo P n nS h c).top,(xgo P n nS h c).k,xNl k)=(xgr P n nS h c,.fin e,[],true):=by kernel_rfl):zF M P n W (RoundW n Inv m (KQ M0 P n W0 Q k)) c:=by
 simp only [Prod.mk.injEq] at hkt
 obtain ⟨hk,e1,e2,e3⟩:=hkt
 refine zK h c hk ?_
 generalize xgo P n nS h c=d at*
 have:d=⟨.fin e,[],d.L,d.f⟩:=by rw [←e1,←e2]
 rw [this]
 refine ⟨λhq=>⟨λw hO=> ?_⟩⟩
 have hq':PQ Q:=pq_of (k:=k) (M:=M0) (W:=W0) (P:=P) (n:=n) λc a dd v w h2=>hq c a dd v w h2
 have hf:=(hg.go hq').go w hO
 rw [n9 (M:=M) (W:=W) (M':=M0) (W':=W0) e3] at hf
 cases e with
 |exit id=>exact hf
 |ret=>exact hf
 |_=>cases he
end
end
section
section
variable {M:List Nat}{P:Program}{W w:World}{E ob L0:List Blk}
theorem own_append_str {t u ty T:TypeId}{i:TypeInfo}(ht:P.underlying t=some (.slice T))(hu:P.underlying u=some .string)(hi:P.info? T=some i)(hz:i.zero=some (.int .u8 0))(hsz:i.size=1)(hby:i.bytes=1)
  {v:Value} {n:Nat} {xs:List Value} (hv:Sl T 1 v n xs ob) (hO:Own M W w (E++ob++L0)) (s:ByteArray)
  (h63:n+s.size<=maxLen) (hbytes:n+s.size<=140737488355328):
  ∃ v' w' ob',(Builtin.append_ #[t,u] ty #[v,.string s]).run P w= .ok v' w'/\Sl T 1 v' (n+s.size) (xs++Lib.strCells s) ob'/\Own M W w' (E++ob'++L0):=by
 have hsmall:n+s.size<=9223372036854775807:=by simp only [maxLen] at h63;omega
 have hxl:xs.length=n:=by simpa using hv.1
 have hsl:=Lib.strCells_length s
 have hlen:(xs++Lib.strCells s).length=(n+s.size)*1:=by rw [List.length_append,hxl,hsl,Nat.mul_one]
 have hz1:(Value.int IntKind.u8 0).cells.size=1:=rfl
 rcases hv.2 with ⟨rfl,rfl,rfl⟩|⟨g,cap,cur,rfl,rfl,hnc,hcm,hcs,htake⟩
 ·have hx:xs=[]:=List.eq_nil_of_length_eq_zero hxl
  subst hx
  by_cases hm:s.size=0
  ·have hn:Lib.strCells s=[]:=List.eq_nil_of_length_eq_zero (by rw [hsl];exact hm)
   refine ⟨.slice none 0 0,w,[], ?_,by rw [hm,hn];exact Sl.nil T 1,hO⟩
   have hf:=Lib.run_firstCells_string (P:=P) w 1 s
   rw [hm] at hf
   simp [Builtin.append_,run_underlying ht,run_underlying hu,sizeOf,typeInfo,hi,hsz,Builtin.lenOf,hm,hf]
  ·have hr:=run_append_nil_string (P:=P) w t u ty T i (.int .u8 0) ht hu hi hz s Om Om (by rw [hby];omega)
   have e1:(s.data.map λb=>Value.int .u8 b.toNat)=(Lib.strCells s).toArray:=by
    apply Array.ext'
    simp [Lib.strCells]
   rw [e1] at hr
   have hge:=grownCap_ge w s.size 0 T
   have hcm:=grownCap_le_maxLen w s.size 0 T (by simpa using h63)
   refine ⟨_,_,[⟨w.heap.size,(Lib.strCells s).toArray++Builtin.zeroCells (Value.int .u8 0).cells (grownCap w s.size 0 T-s.size),T⟩],hr,⟨by simpa using hlen,.inr ⟨w.heap.size,_,_,by simp,rfl,by simpa using hge,hcm, ?_, ?_⟩⟩, ?_⟩
   ·simp only [Array.size_append,List.size_toArray,size_zeroCells,hz1,hsl]
    omega
   ·simp only [Array.toList_append,Nat.zero_add,List.nil_append,Nat.mul_one]
    rw [←hsl]
    exact List.take_left
   ·have:=(tT hO).alloc ((Lib.strCells s).toArray++Builtin.zeroCells (Value.int .u8 0).cells (grownCap w s.size 0 T-s.size)) T
    exact Own.move (ob:=[]) this
 ·have hcs':cur.size=cap:=by simpa using hcs
  have ht':cur.toList.take n=xs:=by simpa using htake
  by_cases hroom:n+s.size<=cap
  ·have hk:(E++[Blk.mk g cur T]++L0)[E.length]?=some ⟨g,cur,T⟩:=by simp
   have hg:=hO.get hk
   have hr:=Lib.run_append_room_string (P:=P) w t u ty T i ht hu hi hsz g n cap cur hg s hroom Om
   refine ⟨_,_,[⟨g,(cur.toList.take n++Lib.strCells s++cur.toList.drop (n+s.size)).toArray,T⟩],hr,⟨hlen,.inr ⟨g,cap,_,rfl,rfl,hroom,hcm, ?_, ?_⟩⟩, ?_⟩
   ·simp only [List.size_toArray,List.length_append,List.length_take,List.length_drop,Array.length_toList,hsl]
    omega
   ·rw [ht',←hlen]
    exact List.take_left
   ·have:=hO.put hk (cur.toList.take n++Lib.strCells s++cur.toList.drop (n+s.size)).toArray
    have e:(E++[Blk.mk g cur T]++L0).set E.length ⟨g,(cur.toList.take n++Lib.strCells s++cur.toList.drop (n+s.size)).toArray,T⟩=E++[⟨g,(cur.toList.take n++Lib.strCells s++cur.toList.drop (n+s.size)).toArray,T⟩]++L0:=by simp
    rw [e] at this;exact this
  ·have hk:(E++[Blk.mk g cur T]++L0)[E.length]?=some ⟨g,cur,T⟩:=by simp
   have hg:=hO.get hk
   have holds:∀ j u,xs[j]?=some u->w.cell? ((⟨g,0,none⟩:Addr).add j)=some u:=λj u hj=>by
    rw [xG,cell_of_row w g (0+j) cur T _ hg]
    rw [←ht',List.getElem?_take] at hj
    split at hj
    ·simpa using hj
    ·cases hj
   have hr:=Lib.run_append_grow_string (P:=P) w t u ty T i (.int .u8 0) ht hu hi hz ⟨g,0,none⟩ n cap xs (by rw [hsz];simpa using hxl) holds s Om Om (by rw [hby];exact growslice_fits Om Om)
   have hge:=grownCap_ge w (n+s.size) cap T
   have hcm:=grownCap_le_maxLen w (n+s.size) cap T h63
   refine ⟨_,_,[⟨w.heap.size,xs.toArray++(Lib.strCells s).toArray++Builtin.zeroCells (Value.int .u8 0).cells (grownCap w (n+s.size) cap T-(n+s.size)),T⟩],hr,⟨hlen,.inr ⟨w.heap.size,_,_,rfl,rfl,hge,hcm, ?_, ?_⟩⟩, ?_⟩
   ·simp only [Array.size_append,List.size_toArray,size_zeroCells,hz1,hxl,hsl]
    omega
   ·simp only [Array.toList_append,List.append_assoc]
    rw [←List.append_assoc,←hlen]
    exact List.take_left
   ·exact Own.move ((tT hO).alloc (xs.toArray++(Lib.strCells s).toArray++Builtin.zeroCells (Value.int .u8 0).cells (grownCap w (n+s.size) cap T-(n+s.size))) T)
end
section
variable {M:List Nat}{P:Program}{n0:Nat}{ops:Array Oper}{W:World}{Q:Exit->Act->World->Prop}{rest:List Oper}{o:Oper}{E ob L0:List Blk}{f:Nat->Value}
theorem s_appstr {t u T:TypeId}{x y:Operand}{i:TypeInfo}(hw:zS ops n0 f o=true)(ho:o.op= .call {callee:= .builtin .append,args:= #[x,y],argTypes:= #[t,u]})
  (ht:P.underlying t=some (.slice T)) (hu:P.underlying u=some .string) (hi:P.info? T=some i) (hz:i.zero=some (.int .u8 0)) (hsz:i.size=1) (hby:i.bytes=1)
  {v:Value} {n:Nat} {xs:List Value} (hx:ev n0 f x=v) (hv:Sl T 1 v n xs ob) {s:ByteArray} (hy:ev n0 f y= .string s)
  (h63:n+s.size<=maxLen) (hbytes:n+s.size<=140737488355328)
  (h:∀ v' ob',Sl T 1 v' (n+s.size) (xs++Lib.strCells s) ob'->Seg M P n0 ops W Q rest (E++ob'++L0) (upd f o.dst v')):Seg M P n0 ops W Q (o::rest) (E++ob++L0) f:=
 vO hw λw hO=>by
  obtain ⟨v',w',ob',hr,h2,h3⟩:=own_append_str (P:=P) (ty:=o.type) ht hu hi hz hsz hby hv hO s h63 hbytes
  refine qP v' (w':=w') ?_ ((h v' ob' h2).go w' h3)
  unfold execOp
  simp only [ho,resolve,invoke,builtin,Sem.run_bind,Sem.run_pure,Result.andThen_ok,List.map_toArray,List.map_cons,List.map_nil,hx,hy,hr]
end
section
variable {M:List Nat}{P:Program}{n:Nat}{W:World}{L:List Blk}{f:Nat->Value}
theorem fin_none {fn:Func}{R:Ending->World->Prop}(hres:fn.results= #[])(hR:∀ w,Own M W w L->R (.returned (.tuple #[])) w):Fin M n W (bodyPost P fn R) .normal L f:=⟨λw hO=>
 bodyPost_end (results_none hres _ _ _) rfl (hR w hO)⟩
theorem fin_none_ret {fn:Func}{R:Ending->World->Prop}(hres:fn.results= #[])(hR:∀ w,Own M W w L->R (.returned (.tuple #[])) w):Fin M n W (bodyPost P fn R) .ret L f:=⟨λw hO=>
 bodyPost_ret (results_none hres _ _ _) rfl (hR w hO)⟩
end
end
section
section
variable {M:List Nat}{P:Program}{n:Nat}{W:World}{Q:Exit->Act->World->Prop}{c:Xc}
theorem zN {M:List Nat}{L:List Blk}{k:FuncId}{fn:Func}{args:Array Value}{R:Ending->World->Prop}(hO:Own M W W L)(hf:P.funcs[k]?=some fn)(hg:zF M P fn.ntmps W (bodyPost P fn R) ⟨.code (fn.body.getD .skip),[],L,λt=>args.getD t undef⟩)
  (hb:fn.body.isSome=true:=by kernel_rfl) (hle:Nat.ble args.size fn.ntmps=true:=by kernel_rfl):Calls P k args W R:=by
 cases hb':fn.body with
 |none=>rw [hb'] at hb;cases hb
 |some b=>rw [hb'] at hg;exact calls_okL hO hf hb' rfl hle (hg.go pq_body)
theorem jV {fn:Func}{R:Ending->World->Prop}(h:List Nat)(v v' v2:Value)(hR:∀ w,Own M W w (xgo P n nS h c).L->R (.returned (.tuple #[v,v',v2])) w)
  (hkt:(xgl P n nS h c,((xgo P n nS h c).top,(xgo P n nS h c).k,fn.results,ev n (xgo P n nS h c).f (.tmp (xRt fn 0)),ev n (xgo P n nS h c).f (.tmp (xRt fn 1)),ev n (xgo P n nS h c).f (.tmp (xRt fn 2))))=(xgr P n nS h c,(.fin .ret,[], #[.tmp (xRt fn 0),.tmp (xRt fn 1),.tmp (xRt fn 2)],v,v',v2)):=by kernel_rfl):zF M P n W (bodyPost P fn R) c:=by
 obtain ⟨hk,ht⟩:=Prod.mk.inj hkt
 refine zK h c hk ?_
 generalize xgo P n nS h c=d at hR ht ⊢
 obtain ⟨top,kk,L,f⟩:=d
 simp only [Prod.mk.injEq] at ht
 obtain ⟨rfl,rfl,e3,e4,e5,e6⟩:=ht
 exact ⟨λ_=>fin_ret3 v v' v2 e3 e4 e5 e6 hR⟩
theorem yC {fn:Func}{R:Ending->World->Prop}(h:List Nat)(i:Nat)(v v':Value)(hR:∀ w,Own M W w (xgo P n nS h c).L->R (.returned (.tuple #[v,v'])) w)(hkt:(xgl P n nS h c,((xgo P n nS h c).top,(xgo P n nS h c).k,fn.results,(xgo P n nS h c).L[i]?,ev n (xgo P n nS h c).f (.tmp (xRt fn 0)),yY P (xRy fn 0) (vC (xgo P n nS h c).L i).cs 0,ev n (xgo P n nS h c).f (.tmp (xRt fn 1))))=(xgr P n nS h c,(.fin .ret,[], #[.cell (xRt fn 0) (xRy fn 0),.tmp (xRt fn 1)],some (vC (xgo P n nS h c).L i),.pointer (some ⟨(vC (xgo P n nS h c).L i).b,0,none⟩),some v,v')):=by kernel_rfl):zF M P n W (bodyPost P fn R) c:=by
 obtain ⟨hk,ht⟩:=Prod.mk.inj hkt
 refine zK h c hk ?_
 generalize xgo P n nS h c=d at hR ht ⊢
 obtain ⟨top,kk,L,f⟩:=d
 simp only [Prod.mk.injEq] at ht
 obtain ⟨rfl,rfl,e3,e4,e5,e6,e7⟩:=ht
 exact ⟨λ_=>fin_cell2 i (vC L i) v v' e3 e4 e5 e6 e7 hR⟩
theorem x_ret0 {fn:Func}{R:Ending->World->Prop}(h:List Nat)(hR:∀ w,Own M W w (xgo P n nS h c).L->R (.returned (.tuple #[])) w)
  (hkt:(xgl P n nS h c,(xgo P n nS h c).top,(xgo P n nS h c).k,fn.results)=(xgr P n nS h c,.fin .ret,[], #[]):=by kernel_rfl):zF M P n W (bodyPost P fn R) c:=by
 simp only [Prod.mk.injEq] at hkt
 obtain ⟨hk,e1,e2,e3⟩:=hkt
 refine zK h c hk ?_
 generalize xgo P n nS h c=d at*
 obtain ⟨top,kk,L,f⟩:=d
 dsimp only at e1 e2
 subst e1;subst e2
 exact ⟨λ_=>fin_none_ret e3 hR⟩
theorem xN {fn:Func}{R:Ending->World->Prop}(h:List Nat)(hR:∀ w,Own M W w (xgo P n nS h c).L->R (.returned (.tuple #[])) w)
  (hkt:(xgl P n nS h c,(xgo P n nS h c).top,(xgo P n nS h c).k,fn.results)=(xgr P n nS h c,.fin .normal,[], #[]):=by kernel_rfl):zF M P n W (bodyPost P fn R) c:=by
 simp only [Prod.mk.injEq] at hkt
 obtain ⟨hk,e1,e2,e3⟩:=hkt
 refine zK h c hk ?_
 generalize xgo P n nS h c=d at*
 obtain ⟨top,kk,L,f⟩:=d
 dsimp only at e1 e2
 subst e1;subst e2
 exact ⟨λ_=>fin_none e3 hR⟩
theorem zU (t:Nat)(b:Bool)(h1:b=true->zF M P n W Q (c.st t (.bool true)))(h2:b=false->zF M P n W Q (c.st t (.bool false)))(hv:c.f t= .bool b:=by kernel_rfl):zF M P n W Q c:=by
 cases b with
 |true=>
  have h:=h1 rfl
  unfold Xc.st at h
  rw [←nE hv] at h
  exact h
 |false=>
  have h:=h2 rfl
  unfold Xc.st at h
  rw [←nE hv] at h
  exact h
theorem x_yes (t:Nat)(h:List Nat)(p:Prop)[Decidable p](hp:p)(h1:zF M P n W Q ((xgo P n t h c).st t (.bool true)))(hkt:(xgl P n t h c,(xgo P n t h c).f t)=(xgr P n t h c,.bool (decide p)):=by kernel_rfl):zF M P n W Q c:=
 zB t h p (λ_=>h1) (λq=>absurd hp q) hkt
end
theorem Own.and {M:List Nat}{W w w':World}(h:Own M W w [])(h':Own M w w' []):Own M W w' []:=
 ⟨h'.os.trans h.os,h'.tape.trans h.tape,h'.output.trans h.output,Nat.le_trans h.size h'.size,Nat.le_trans h.drawn h'.drawn,λk hk hm=>(h'.kept k (Nat.lt_of_lt_of_le hk h.size) hm).trans (h.kept k hk hm),by simp,by simp,by simp⟩
end
section
section
variable {M:List Nat}{P:Program}{n:Nat}{W:World}{Q:Exit->Act->World->Prop}{c:Xc}
theorem bV (d:Nat)(h:List Nat)(s:List UInt8)(k:Nat)(hk:k<s.length)(b:UInt8)(hb:s[k]=b)(hg:zF M P n W Q ((xgo P n (d+50000) h c).put (.int .u8 (b.toNat:Int))))
  (hkt:(xgl P n (d+50000) h c,xW n (xgo P n (d+50000) h c),(xO (xgo P n (d+50000) h c)).op,ev n (xgo P n (d+50000) h c).f (oX (xO (xgo P n (d+50000) h c))),ev n (xgo P n (d+50000) h c).f (oY (xO (xgo P n (d+50000) h c))),P.underlying (oT (xO (xgo P n (d+50000) h c))))
   =(xgr P n (d+50000) h c,true,.index (oT (xO (xgo P n (d+50000) h c))) (oX (xO (xgo P n (d+50000) h c))) (oY (xO (xgo P n (d+50000) h c))),.string (mkS s),YI (k:Int),some .string):=by kernel_rfl):zF M P n W Q c:=by
 simp only [Prod.mk.injEq] at hkt
 obtain ⟨hk',e1,e2,e3,e4,e5⟩:=hkt
 refine zK h c hk' (kB e1 (λw=> ?_) hg)
 have:=run_stridx e2 e3 e4 e5 (Int.natCast_nonneg k) (by simpa using hk) w
 simp only [Int.toNat_natCast] at this
 rw [hb] at this;exact this
end
def shQ (o:Oper):TypeId×Operand×Operand×Bool:=match o.op with
 | .slice t x none (some y) none=>(t,x,y,true)
 |_=>(0,.tmp 0,.tmp 0,false)
theorem shQ_op {o:Oper}(h:(shQ o).2.2.2=true):o.op= .slice (shQ o).1 (shQ o).2.1 none (some (shQ o).2.2.1) none:=by
 unfold shQ at h ⊢
 split at h
 ·rename_i q;simp only [q]
 ·cases h
def slQ (o:Oper):TypeId×Operand×Operand×Bool:=match o.op with
 | .slice t x (some y) none none=>(t,x,y,true)
 |_=>(0,.tmp 0,.tmp 0,false)
theorem slQ_op {o:Oper}(h:(slQ o).2.2.2=true):o.op= .slice (slQ o).1 (slQ o).2.1 (some (slQ o).2.2.1) none none:=by
 unfold slQ at h ⊢
 split at h
 ·rename_i e;rw [e]
 ·cases h
section
variable {M:List Nat}{P:Program}{n:Nat}{W:World}{Q:Exit->Act->World->Prop}{c:Xc}
theorem x_shi (d:Nat)(h:List Nat)(s:List UInt8)(j:Int)(h0:0<=j)(h1:j<=s.length)(v:Value)(hv: .string (mkS (s.take j.toNat))=v)(hg:zF M P n W Q ((xgo P n (d+50000) h c).put v))
  (hkt:(xgl P n (d+50000) h c,xW n (xgo P n (d+50000) h c),(shQ (xO (xgo P n (d+50000) h c))).2.2.2,ev n (xgo P n (d+50000) h c).f (shQ (xO (xgo P n (d+50000) h c))).2.1,ev n (xgo P n (d+50000) h c).f (shQ (xO (xgo P n (d+50000) h c))).2.2.1,P.underlying (shQ (xO (xgo P n (d+50000) h c))).1)
   =(xgr P n (d+50000) h c,true,true,.string (mkS s),YI j,some .string):=by kernel_rfl):zF M P n W Q c:=by
 simp only [Prod.mk.injEq] at hkt
 obtain ⟨hk,e1,e2,e3,e4,e5⟩:=hkt
 exact zK h c hk (kB e1 (λw=>by rw [run_strhi (shQ_op e2) e3 e4 e5 h0 h1 w,hv]) hg)
theorem x_slo (d:Nat)(h:List Nat)(s:List UInt8)(j:Int)(h0:0<=j)(h1:j<=s.length)(v:Value)(hv: .string (mkS (s.drop j.toNat))=v)(hg:zF M P n W Q ((xgo P n (d+50000) h c).put v))
  (hkt:(xgl P n (d+50000) h c,xW n (xgo P n (d+50000) h c),(slQ (xO (xgo P n (d+50000) h c))).2.2.2,ev n (xgo P n (d+50000) h c).f (slQ (xO (xgo P n (d+50000) h c))).2.1,ev n (xgo P n (d+50000) h c).f (slQ (xO (xgo P n (d+50000) h c))).2.2.1,P.underlying (slQ (xO (xgo P n (d+50000) h c))).1)
   =(xgr P n (d+50000) h c,true,true,.string (mkS s),YI j,some .string):=by kernel_rfl):zF M P n W Q c:=by
 simp only [Prod.mk.injEq] at hkt
 obtain ⟨hk,e1,e2,e3,e4,e5⟩:=hkt
 exact zK h c hk (kB e1 (λw=>by rw [run_strlo (slQ_op e2) e3 e4 e5 h0 h1 w,hv]) hg)
end
def ltB (o:Oper):Bool:=match o.op with
 | .binOp .lss _ _ _ _=>true
 |_=>false
def geB (o:Oper):Bool:=match o.op with
 | .binOp .geq _ _ _ _=>true
 |_=>false
theorem geB_op {o:Oper}(h:geB o=true):o.op= .binOp .geq (oT o) (oX o) (oY o) (oU o):=by
 unfold geB at h
 split at h
 ·rename_i q;simp only [oT,oX,oY,oU,q]
 ·cases h
section
variable {M:List Nat}{P:Program}{n:Nat}{W:World}{Q:Exit->Act->World->Prop}{c:Xc}
theorem x_sge (d:Nat)(h:List Nat)(s u:List UInt8)(h1:Op.bytesLess s u=true->zF M P n W Q ((xgo P n (d+50000) h c).put (.bool false)))(h2:Op.bytesLess s u=false->zF M P n W Q ((xgo P n (d+50000) h c).put (.bool true)))
  (hkt:(xgl P n (d+50000) h c,xW n (xgo P n (d+50000) h c),geB (xO (xgo P n (d+50000) h c)),ev n (xgo P n (d+50000) h c).f (oX (xO (xgo P n (d+50000) h c))),ev n (xgo P n (d+50000) h c).f (oY (xO (xgo P n (d+50000) h c))))=(xgr P n (d+50000) h c,true,true,.string (mkS s),.string (mkS u)):=by kernel_rfl):zF M P n W Q c:=by
 simp only [Prod.mk.injEq] at hkt
 obtain ⟨hk,e1,e2,e3,e4⟩:=hkt
 cases hb:Op.bytesLess s u with
 |true=>exact zK h c hk (kB e1 (λw=>run_strgeq (geB_op e2) e3 e4 hb w) (h1 hb))
 |false=>exact zK h c hk (kB e1 (λw=>run_strgeq (geB_op e2) e3 e4 hb w) (h2 hb))
end
end
section
def mT (o:Oper):TypeId:=match o.op with
 | .makeSlice t _ _=>t
 |_=>0
def mX (o:Oper):Operand:=match o.op with
 | .makeSlice _ x _=>x
 |_=> .tmp 0
def mY (o:Oper):Operand:=match o.op with
 | .makeSlice _ _ y=>y
 |_=> .tmp 0
def skQ (o:Oper):TypeId×Operand×Operand×Operand×Bool:=match o.op with
 | .slice t x none (some y) (some z)=>(t,x,y,z,true)
 |_=>(0,.tmp 0,.tmp 0,.tmp 0,false)
theorem skQ_op {o:Oper}(h:(skQ o).2.2.2.2=true):o.op= .slice (skQ o).1 (skQ o).2.1 none (some (skQ o).2.2.1) (some (skQ o).2.2.2.1):=by
 unfold skQ at h ⊢
 split at h
 ·rename_i e;rw [e]
 ·cases h
def smQ (o:Oper):TypeId×Operand×Operand×Operand×Bool:=match o.op with
 | .slice t x (some y) (some z) none=>(t,x,y,z,true)
 |_=>(0,.tmp 0,.tmp 0,.tmp 0,false)
theorem smQ_op {o:Oper}(h:(smQ o).2.2.2.2=true):o.op= .slice (smQ o).1 (smQ o).2.1 (some (smQ o).2.2.1) (some (smQ o).2.2.2.1) none:=by
 unfold smQ at h ⊢
 split at h
 ·rename_i e;rw [e]
 ·cases h
section
variable {M:List Nat}{P:Program}{n:Nat}{W:World}{Q:Exit->Act->World->Prop}{c:Xc}
theorem x_make (d:Nat)(h:List Nat)(N sz by_:Nat)(z:Value)(cs:Array Value)(hcs:madeCells z.cells (N*sz)=cs)(hb:by_*N<=281474976710656)
  (hg:∀ b,zF M P n W Q ⟨.ops (xA (xgo P n (d+50000) h c)) (xT (xgo P n (d+50000) h c)),(xgo P n (d+50000) h c).k,⟨b,cs,xEl P (mT (xO (xgo P n (d+50000) h c)))⟩::(xgo P n (d+50000) h c).L,upd (xgo P n (d+50000) h c).f (xO (xgo P n (d+50000) h c)).dst (.slice (some ⟨b,0,none⟩) N N)⟩)
  (hkt:(xgl P n (d+50000) h c,(xgo P n (d+50000) h c).top,zS (xA (xgo P n (d+50000) h c)) n (xgo P n (d+50000) h c).f (xO (xgo P n (d+50000) h c)),(xO (xgo P n (d+50000) h c)).op,ev n (xgo P n (d+50000) h c).f (mX (xO (xgo P n (d+50000) h c))),ev n (xgo P n (d+50000) h c).f (mY (xO (xgo P n (d+50000) h c))),P.underlying (mT (xO (xgo P n (d+50000) h c))),(P.info? (xEl P (mT (xO (xgo P n (d+50000) h c))))).map (λi=>(i.zero,i.size,i.bytes)))
   =(xgr P n (d+50000) h c,.ops (xA (xgo P n (d+50000) h c)) (xO (xgo P n (d+50000) h c)::xT (xgo P n (d+50000) h c)),true,.makeSlice (mT (xO (xgo P n (d+50000) h c))) (mX (xO (xgo P n (d+50000) h c))) (mY (xO (xgo P n (d+50000) h c))),YI (N:Int),YI (N:Int),some (.slice (xEl P (mT (xO (xgo P n (d+50000) h c))))),some (some z,sz,by_)):=by kernel_rfl)
  (h1:1<=by_:=by decide):zF M P n W Q c:=by
 simp only [Prod.mk.injEq] at hkt
 obtain ⟨hk,e1,e2,e3,e4,e5,e6,e7⟩:=hkt
 refine zK h c hk ?_
 generalize xgo P n (d+50000) h c=d at*
 cases hi:P.info? (xEl P (mT (xO d))) with
 |none=>rw [hi] at e7;cases e7
 |some i=>
  rw [hi] at e7
  simp only [Option.map_some,Option.some.injEq,Prod.mk.injEq] at e7
  obtain ⟨i1,i2,i3⟩:=e7
  have hN:N<=281474976710656:=Nat.le_trans (Nat.le_mul_of_pos_left N h1) hb
  have:d=⟨.ops (xA d) (xO d::xT d),d.k,d.L,d.f⟩:=by rw [←e1]
  rw [this]
  exact ⟨λhq=>s_make e2 e3 e4 e5 e6 hi i1 Om Om (by rw [i3,←Int.natCast_mul];omega) Om λb=>by
   rw [show ((N:Nat):Int).toNat=N from rfl,i2,hcs]
   exact (hg b).go hq⟩
theorem vY (d:Nat)(h:List Nat){A:Option Addr}{b off:Nat}(hA:A=some ⟨b,off,none⟩)(N cp:Nat)(j:Int)(sz o:Nat)(ho:0<=j/\j<N/\off+j.toNat*sz=o)(hg:zF M P n W Q ((xgo P n (d+50000) h c).put (.pointer (some ⟨b,o,none⟩))))
  (hkt:(xgl P n (d+50000) h c,xW n (xgo P n (d+50000) h c),(xO (xgo P n (d+50000) h c)).op,ev n (xgo P n (d+50000) h c).f (oX (xO (xgo P n (d+50000) h c))),ev n (xgo P n (d+50000) h c).f (oY (xO (xgo P n (d+50000) h c))),P.underlying (oT (xO (xgo P n (d+50000) h c))),(P.info? (xEl P (oT (xO (xgo P n (d+50000) h c))))).map (·.size))
   =(xgr P n (d+50000) h c,true,.indexAddr (oT (xO (xgo P n (d+50000) h c))) (oX (xO (xgo P n (d+50000) h c))) (oY (xO (xgo P n (d+50000) h c))),.slice A N cp,YI j,some (.slice (xEl P (oT (xO (xgo P n (d+50000) h c))))),some sz):=by kernel_rfl):zF M P n W Q c:=by
 simp only [Prod.mk.injEq] at hkt
 obtain ⟨hk,e1,e2,e3,e4,e5,e6⟩:=hkt
 exact zK h c hk (kB e1 (λw=>run_ixA e2 e3 hA e4 e5 e6 ho.1 ho.2.1 ho.2.2 w) hg)
theorem x_slhi (d:Nat)(h:List Nat){A:Option Addr}{b off:Nat}(hA:A=some ⟨b,off,none⟩)(N cp sz:Nat)(j:Int)(h0:0<=j)(h1:j<=cp)(v:Value)(hv: .slice (some ⟨b,off,none⟩) j.toNat cp=v)(hg:zF M P n W Q ((xgo P n (d+50000) h c).put v))
  (hkt:(xgl P n (d+50000) h c,xW n (xgo P n (d+50000) h c),(shQ (xO (xgo P n (d+50000) h c))).2.2.2,ev n (xgo P n (d+50000) h c).f (shQ (xO (xgo P n (d+50000) h c))).2.1,ev n (xgo P n (d+50000) h c).f (shQ (xO (xgo P n (d+50000) h c))).2.2.1,P.underlying (shQ (xO (xgo P n (d+50000) h c))).1,(P.info? (xEl P (shQ (xO (xgo P n (d+50000) h c))).1)).map (·.size))
   =(xgr P n (d+50000) h c,true,true,.slice A N cp,YI j,some (.slice (xEl P (shQ (xO (xgo P n (d+50000) h c))).1)),some sz):=by kernel_rfl):zF M P n W Q c:=by
 simp only [Prod.mk.injEq] at hkt
 obtain ⟨hk,e1,e2,e3,e4,e5,e6⟩:=hkt
 subst hA
 exact zK h c hk (kB e1 (λw=>by rw [run_slhi (shQ_op e2) e3 e4 e5 e6 h0 h1 w,hv]) hg)
theorem x_joinF {α:Type}(fu:Fuel1)(lv:α->List (Nat×Value))(Lf:α->List Blk)(rel:α->Prop)(h:List Nat)(h1:Nj M P n W lv Lf rel->zF M P n W (JoinQ M n W (xJ lv Lf rel)) ⟨.code (xC (x6 P n nS fu h c)),[],(x6 P n nS fu h c).L,(x6 P n nS fu h c).f⟩)
  (h2:∀ x g,rel x->zF M P n W Q ⟨.fin .normal,(x6 P n nS fu h c).k,Lf x,bX g (lv x)⟩) (hkt:(xl P n nS fu h c,(x6 P n nS fu h c).top)=(xr P n nS (tS fu) h c,.code (xC (x6 P n nS fu h c))):=by kernel_rfl):zF M P n W Q c:=by
 obtain ⟨hk,e1⟩:=Prod.mk.inj hkt
 refine xrun_ok fu h c hk ?_
 generalize x6 P n nS fu h c=d at*
 have:d=⟨.code (xC d),d.k,d.L,d.f⟩:=by rw [←e1]
 rw [this]
 refine ⟨λhq=>ok_join (xJ lv Lf rel) ((h1 λx' h c' hr hkt'=> ?_).go pq_join) λL f ⟨x,hr,hL,hA⟩=> ?_⟩
 ·simp only [Prod.mk.injEq] at hkt'
  obtain ⟨hk',f1,f2,f3,f4⟩:=hkt'
  refine zK h c' hk' ?_
  generalize xgo P n nS h c'=d' at*
  have:d'=⟨.fin .normal,[],d'.L,d'.f⟩:=by rw [←f1,←f2]
  rw [this]
  exact ⟨λ_=>fin_join ⟨x',hr,f3,gW f4⟩⟩
 ·subst hL
  rw [qQ _ hA]
  exact (h2 x f hr).go hq
theorem x_slhm (d:Nat)(h:List Nat)(b N cp sz:Nat)(j m:Int)(hj:0<=j/\j<=m/\m<=cp)(v:Value)(hv: .slice (some ⟨b,0,none⟩) j.toNat m.toNat=v)(hg:zF M P n W Q ((xgo P n (d+50000) h c).put v))
  (hkt:(xgl P n (d+50000) h c,xW n (xgo P n (d+50000) h c),(skQ (xO (xgo P n (d+50000) h c))).2.2.2.2,ev n (xgo P n (d+50000) h c).f (skQ (xO (xgo P n (d+50000) h c))).2.1,ev n (xgo P n (d+50000) h c).f (skQ (xO (xgo P n (d+50000) h c))).2.2.1,ev n (xgo P n (d+50000) h c).f (skQ (xO (xgo P n (d+50000) h c))).2.2.2.1,P.underlying (skQ (xO (xgo P n (d+50000) h c))).1,(P.info? (xEl P (skQ (xO (xgo P n (d+50000) h c))).1)).map (·.size))
   =(xgr P n (d+50000) h c,true,true,.slice (some ⟨b,0,none⟩) N cp,YI j,YI m,some (.slice (xEl P (skQ (xO (xgo P n (d+50000) h c))).1)),some sz):=by kernel_rfl):zF M P n W Q c:=by
 simp only [Prod.mk.injEq] at hkt
 obtain ⟨hk,e1,e2,e3,e4,e5,e6,e7⟩:=hkt
 exact zK h c hk (kB e1 (λw=>by rw [run_slhm (skQ_op e2) e3 e4 e5 e6 e7 hj.1 hj.2.1 hj.2.2 w,hv]) hg)
theorem x_appF {T:TypeId}{sz N cap m cp:Nat}(h:List Nat)(p q:Nat)(L1:List Blk)(hn:N*sz<=(vC L1 p).cs.size)(hroom:cap<N+m)(hN:N+m<=1000000)
  (hg:∀ v' ob',Sl T sz v' (N+m) ((vC L1 p).cs.toList.take (N*sz)++(vC L1 q).cs.toList) ob'->zF M P n W Q ⟨.ops (xA (xgo P n nS h c)) (xT (xgo P n nS h c)),(xgo P n nS h c).k,ob'++L1,upd (xgo P n nS h c).f (xO (xgo P n nS h c)).dst v'⟩)
  (hkt:(xgl P n nS h c,(xgo P n nS h c).L,(xgo P n nS h c).top,zS (xA (xgo P n nS h c)) n (xgo P n nS h c).f (xO (xgo P n nS h c)),(xO (xgo P n nS h c)).op,ev n (xgo P n nS h c).f (aX (xO (xgo P n nS h c)) 0),ev n (xgo P n nS h c).f (aX (xO (xgo P n nS h c)) 1),L1[p]?,L1[q]?,P.underlying (aT (xO (xgo P n nS h c))),aInfo P T,(vC L1 q).cs.toList.length)
   =(xgr P n nS h c,L1,.ops (xA (xgo P n nS h c)) (xO (xgo P n nS h c)::xT (xgo P n nS h c)),true,aOp (xO (xgo P n nS h c)),.slice (some ⟨(vC L1 p).b,0,none⟩) N cap,.slice (some ⟨(vC L1 q).b,0,none⟩) m cp,some (vC L1 p),some (vC L1 q),some (.slice T),some (true,sz,some sz),m*sz):=by kernel_rfl):zF M P n W Q c:=by
 simp only [Prod.mk.injEq] at hkt
 obtain ⟨hk,f1,e1,e3,e4,e5,e6,e7,e7',e8,e9,e10⟩:=hkt
 refine zK h c hk ?_
 generalize (xgo P n nS h c)=d at*
 have:d=⟨.ops (xA d) (xO d::xT d),d.k,L1,d.f⟩:=by rw [←e1,←f1]
 rw [this]
 obtain ⟨i,z,hi,hz,hsz,hzs,hby⟩:=tZ e9
 refine ⟨λhq=>s_appendF e3 e4 e8 hi hz hsz hzs e5 (by rw [List.length_take,Array.length_toList];omega) (λw hO j u hj=> ?_) e6 e10 (λw hO j u hj=> ?_) hroom (by unfold maxLen;omega) (by have:=Nat.mul_le_mul hN hby;omega) λv' ob' h=>(hg v' ob' h).go hq⟩
 ·rw [List.getElem?_take] at hj
  split at hj
  ·rw [xG,cell_of_row w _ _ _ _ _ (hO.held _ (List.mem_of_getElem? e7)),Nat.zero_add]
   simpa using hj
  ·cases hj
 ·rw [xG,cell_of_row w _ _ _ _ _ (hO.held _ (List.mem_of_getElem? e7')),Nat.zero_add]
  simpa using hj
theorem x_smid (d:Nat)(h:List Nat)(s:List UInt8)(i j:Int)(hij:0<=i/\i<=j/\j<=s.length)(v:Value)(hv: .string (mkS ((s.drop i.toNat).take (j.toNat-i.toNat)))=v)(hg:zF M P n W Q ((xgo P n (d+50000) h c).put v))
  (hkt:(xgl P n (d+50000) h c,xW n (xgo P n (d+50000) h c),(smQ (xO (xgo P n (d+50000) h c))).2.2.2.2,ev n (xgo P n (d+50000) h c).f (smQ (xO (xgo P n (d+50000) h c))).2.1,ev n (xgo P n (d+50000) h c).f (smQ (xO (xgo P n (d+50000) h c))).2.2.1,ev n (xgo P n (d+50000) h c).f (smQ (xO (xgo P n (d+50000) h c))).2.2.2.1,P.underlying (smQ (xO (xgo P n (d+50000) h c))).1)
   =(xgr P n (d+50000) h c,true,true,.string (mkS s),YI i,YI j,some .string):=by kernel_rfl):zF M P n W Q c:=by
 simp only [Prod.mk.injEq] at hkt
 obtain ⟨hk,e1,e2,e3,e4,e5,e6⟩:=hkt
 exact zK h c hk (kB e1 (λw=>by rw [run_strmid (smQ_op e2) e3 e4 e5 e6 hij.1 hij.2.1 hij.2.2 w,hv]) hg)
theorem x_sllo (d:Nat)(h:List Nat){A:Option Addr}{b off:Nat}(hA:A=some ⟨b,off,none⟩)(N cp sz:Nat)(j:Int)(h0:0<=j)(h1:j<=N)(v:Value)(hv: .slice (some ⟨b,off+(if cp=j.toNat then 0 else j.toNat*sz),none⟩) (N-j.toNat) (cp-j.toNat)=v)(hg:zF M P n W Q ((xgo P n (d+50000) h c).put v))
  (hkt:(xgl P n (d+50000) h c,xW n (xgo P n (d+50000) h c),(slQ (xO (xgo P n (d+50000) h c))).2.2.2,ev n (xgo P n (d+50000) h c).f (slQ (xO (xgo P n (d+50000) h c))).2.1,ev n (xgo P n (d+50000) h c).f (slQ (xO (xgo P n (d+50000) h c))).2.2.1,P.underlying (slQ (xO (xgo P n (d+50000) h c))).1,(P.info? (xEl P (slQ (xO (xgo P n (d+50000) h c))).1)).map (·.size))
   =(xgr P n (d+50000) h c,true,true,.slice A N cp,YI j,some (.slice (xEl P (slQ (xO (xgo P n (d+50000) h c))).1)),some sz):=by kernel_rfl):zF M P n W Q c:=by
 simp only [Prod.mk.injEq] at hkt
 obtain ⟨hk,e1,e2,e3,e4,e5,e6⟩:=hkt
 subst hA
 exact zK h c hk (kB e1 (λw=>by rw [run_sllo (slQ_op e2) e3 e4 e5 e6 h0 h1 w,hv]) hg)
end
section
variable {M:List Nat}{n:Nat}{W:World}{Q:Exit->Act->World->Prop}{c:Xc}
theorem x_nea {α:Type}{p:α->α->Prop}[∀ u v,Decidable (p u v)](T:TypeId)(enc:α->Value)(hrun:∀ {ρ:Operand->Value} {o:Oper} {t':TypeId} {x y:Operand} {u v:α} {b:Bool},o.op= .binOp .neq T x y t'->ρ x=enc u->ρ y=enc v->decide (p u v)=b→∀ w,(execOp ρ o).run Tryz.prog w= .ok (.value (.bool (!b))) w)
  (d:Nat) (h:List Nat) (u v:α) (h1:p u v->zF M Tryz.prog n W Q ((xgo Tryz.prog n (d+50000) h c).put (.bool false))) (h2:¬ p u v->zF M Tryz.prog n W Q ((xgo Tryz.prog n (d+50000) h c).put (.bool true)))
  (hkt:(xgl Tryz.prog n (d+50000) h c,xW n (xgo Tryz.prog n (d+50000) h c),(xO (xgo Tryz.prog n (d+50000) h c)).op,ev n (xgo Tryz.prog n (d+50000) h c).f (oX (xO (xgo Tryz.prog n (d+50000) h c))),ev n (xgo Tryz.prog n (d+50000) h c).f (oY (xO (xgo Tryz.prog n (d+50000) h c))))=(xgr Tryz.prog n (d+50000) h c,true,.binOp .neq T (oX (xO (xgo Tryz.prog n (d+50000) h c))) (oY (xO (xgo Tryz.prog n (d+50000) h c))) (oU (xO (xgo Tryz.prog n (d+50000) h c))),enc u,enc v):=by kernel_rfl):zF M Tryz.prog n W Q c:=by
 simp only [Prod.mk.injEq] at hkt
 obtain ⟨hk,e1,e2,e3,e4⟩:=hkt
 by_cases hp:p u v
 ·exact zK h c hk (kB e1 (λw=>hrun e2 e3 e4 (decide_eq_true hp) w) (h1 hp))
 ·exact zK h c hk (kB e1 (λw=>hrun e2 e3 e4 (decide_eq_false hp) w) (h2 hp))
end
end
section
theorem splitL_many10 (b:UInt8):∀ (s acc:List UInt8),(zD b acc s).length<=s.length+1:=λs acc=>by
 rw [split_len];have:=List.length_filter_le (·==b) s;omega
theorem rsplitB_own (s:List UInt8)(b:UInt8)(W:World)(hs:s.length<=1000000):
  YC 127 #[.string (mkS s),.int .u8 (b.toNat:Int)] W λe w'=>∃ v' ob',e= .returned v'/\SlT v' (zD b [] s) ob'/\Own [] W w' ob':=
 (rsplit_any (mkS s) b W (by rw [zQ];exact hs)).mono λe w' ⟨v,h1,h2,h3⟩=>by
  obtain ⟨ob,k1,k2⟩:=Own.row h2 h3
  unfold qS at k1
  rw [mk_data] at k1
  exact ⟨v,ob,h1,k1,k2⟩
theorem s_anew {M:List Nat}{P:Program}{n:Nat}{ops:Array Oper}{W:World}{Q:Exit->Act->World->Prop}{rest:List Oper}{L:List Blk}{f:Nat->Value}(h:∀ w1,Own M W w1 L->Seg (L.map Blk.b) P n ops w1 Q rest L f):Seg M P n ops W Q rest L f:=⟨λw hO=>(h w hO).go w (Own.lend hO)⟩
theorem own_new {W w:World}{E L0:List Blk}(h:Own (L0.map Blk.b) W w (E++L0)):∀ x∈E,W.heap.size<=x.b:=λx hx=>by
 rcases h.base x (List.mem_append_left _ hx) with q|q
 ·exact q
 ·obtain ⟨y,hy,e⟩:=List.mem_map.1 q
  have ha:=h.apart
  rw [List.map_append,List.nodup_append] at ha
  exact absurd e.symm (ha.2.2 x.b (List.mem_map.2 ⟨x,hx,rfl⟩) y.b (List.mem_map.2 ⟨y,hy,rfl⟩))
theorem Reads.bound {α:Type}{g:α->List Value}{w w1:World}{B1 B2:Nat}{A:Option Addr}{l:List α}(h:Reads g w B1 A l)(h1:Reads g w1 B2 A l):Reads g w B2 A l:=λh0=>by
 obtain ⟨b,off,e,_,hc⟩:=h h0
 obtain ⟨b',off',e',hl,_⟩:=h1 h0
 rw [e] at e'
 injection e' with e'
 injection e' with q1 q2
 subst q1;subst q2
 exact ⟨b,off,e,hl,hc⟩
end
section
def nC (n:Nd):List Value:=[YI n.op,YI n.a,YI n.b,YI n.key,.string (mkS n.text)]
theorem qH (n:Nd):(nC n).length=5:=rfl
def zC (z:Int):List Value:=[YI z]
theorem zC_len (z:Int):(zC z).length=1:=rfl
def SlN (v:Value)(l:List Nd)(ob:List Blk):Prop:=Sl 275 5 v l.length (l.flatMap nC) ob
def SlZ (v:Value)(l:List Int)(ob:List Blk):Prop:=Sl 3 1 v l.length (l.flatMap zC) ob
def ndV (n:Nd):Value:= .agg #[YI n.op,YI n.a,YI n.b,YI n.key,.string (mkS n.text)]
def pfV (e:Pf):Value:= .agg #[.string (mkS (e 0)),.string (mkS (e 1)),.string (mkS (e 2))]
theorem SlN.add {u:Value}{l:List Nd}{x:Nd}{ob:List Blk}(h:Sl 275 5 u (l.length+1) (l.flatMap nC++nC x) ob):SlN u (l++[x]) ob:=Sl.to h (by simp) (by simp)
theorem SlZ.add {u:Value}{l:List Int}{x:Int}{ob:List Blk}(h:Sl 3 1 u (l.length+1) (l.flatMap zC++zC x) ob):SlZ u (l++[x]) ob:=Sl.to h (by simp) (by simp)
theorem Sl.front {α:Type}{g:α->List Value}{T:TypeId}{sz:Nat}(hg:∀ x,(g x).length=sz){A:Option Addr}{cap:Nat}{l:List α}{ob:List Blk}(h:Sl T sz (.slice A l.length cap) l.length (l.flatMap g) ob)(h0:l≠[]){k:Nat}(hk:k<=l.length):
  Sl T sz (.slice A k cap) (l.take k).length ((l.take k).flatMap g) ob:=by
 have hlen:∀ l:List α,(l.flatMap g).length=l.length*sz:=λl=>by
  induction l with
  |nil=>simp
  |cons a l ih=>rw [List.flatMap_cons,List.length_append,ih,hg,List.length_cons,Nat.succ_mul];omega
 have hkl:(l.take k).length=k:=by rw [List.length_take];omega
 have htk:(l.flatMap g).take (k*sz)=(l.take k).flatMap g:=by
  have e:l.flatMap g=(l.take k).flatMap g++(l.drop k).flatMap g:=by rw [←List.flatMap_append,List.take_append_drop]
  rw [e,List.take_append_of_le_length (by rw [hlen,hkl];exact Nat.le_refl _),List.take_of_length_le (by rw [hlen,hkl];exact Nat.le_refl _)]
 refine ⟨hlen _, ?_⟩
 rcases h.2 with ⟨_,h2,_⟩|⟨q,c,cur,h1,h2,h3,h4,h5,h6⟩
 ·exact absurd (List.eq_nil_of_length_eq_zero h2) h0
 ·injection h1 with e1 e2 e3
  subst e1;subst e3
  refine .inr ⟨q,cap,cur,by rw [hkl],h2,by rw [hkl];omega,h4,h5, ?_⟩
  rw [hkl,←htk,←h6,List.take_take]
  congr 1
  have:k*sz<=l.length*sz:=Nat.mul_le_mul_right _ hk
  omega
theorem Sl.at0 {T:TypeId}{sz n m cap:Nat}{A:Option Addr}{xs:List Value}{ob:List Blk}(h:Sl T sz (.slice A n cap) m xs ob)(h0:0<m):∃ g,A=some ⟨g,0,none⟩/\m<=cap:=by
 rcases h.2 with ⟨_,h2,_⟩|⟨q,c,cur,h1,h2,h3,_⟩
 ·omega
 ·injection h1 with e1 e2 e3
  exact ⟨q,e1,by omega⟩
theorem wd_mk (s:List UInt8):wordB (mkS s)=wdL s:=by unfold wordB wdL;rw [zQ,mk_data]
structure PfS (e:Pf):Prop where
 h0:(e 0).length<=1000000
 h1:(e 1).length<=1000000
 h2:(e 2).length<=1000000
end
section
set_option linter.unnecessarySimpa false
theorem wdB_or {c:Int}:wdB c=(qI c||yJ c||decide (c=95)):=rfl
theorem r1low_any (c:UInt8)(W:World):YC 108 #[.int .u8 (c.toNat:Int)] W (YR (.bool (qI (c.toNat:Int))) W):=by
 refine zE Tryz.func108 ?_
 by_cases h1:(97:Int)<=(c.toNat:Int)
 ·refine zB 4 [] ((97:Int)<=(c.toNat:Int)) (λ_=> ?_) (λhq=>absurd (h1) hq)
  by_cases h2:(c.toNat:Int)<=122
  ·refine zB 7 [] ((c.toNat:Int)<=122) (λ_=> ?_) (λhq=>absurd (h2) hq)
   exact z7 [] Z4 (λw hO=>⟨by rw [show qI (c.toNat:Int)=true from by unfold qI;simp;try omega],hO.below⟩)
  exact zB 7 [] ((c.toNat:Int)<=122) (λhq=>absurd hq (h2)) (λ_=>z7 [] Z5 (λw hO=>⟨by rw [show qI (c.toNat:Int)=false from by unfold qI;simp;try omega],hO.below⟩))
 exact zB 4 [] ((97:Int)<=(c.toNat:Int)) (λhq=>absurd hq (h1)) (λ_=>z7 [] Z5 (λw hO=>⟨by rw [show qI (c.toNat:Int)=false from by unfold qI;simp;try omega],hO.below⟩))
theorem r1digit_any (c:UInt8)(W:World):YC 109 #[.int .u8 (c.toNat:Int)] W (YR (.bool (yJ (c.toNat:Int))) W):=by
 refine zE Tryz.func109 ?_
 by_cases h1:(48:Int)<=(c.toNat:Int)
 ·refine zB 4 [] ((48:Int)<=(c.toNat:Int)) (λ_=> ?_) (λhq=>absurd (h1) hq)
  by_cases h2:(c.toNat:Int)<=57
  ·refine zB 7 [] ((c.toNat:Int)<=57) (λ_=> ?_) (λhq=>absurd (h2) hq)
   exact z7 [] Z4 (λw hO=>⟨by rw [show yJ (c.toNat:Int)=true from by unfold yJ;simp;try omega],hO.below⟩)
  exact zB 7 [] ((c.toNat:Int)<=57) (λhq=>absurd hq (h2)) (λ_=>z7 [] Z5 (λw hO=>⟨by rw [show yJ (c.toNat:Int)=false from by unfold yJ;simp;try omega],hO.below⟩))
 exact zB 4 [] ((48:Int)<=(c.toNat:Int)) (λhq=>absurd hq (h1)) (λ_=>z7 [] Z5 (λw hO=>⟨by rw [show yJ (c.toNat:Int)=false from by unfold yJ;simp;try omega],hO.below⟩))
theorem j8 (s:List UInt8)(W:World)(hs:s.length<=1000000):YC 172 #[.string (mkS s)] W (YR (.bool (wdL s)) W):=by
 have hsz:=zQ s
 refine zE Tryz.func172 ?_
 by_cases h1:((mkS s).size:Int)<1
 ·refine zB 6 [] (((mkS s).size:Int)<1) (λ_=> ?_) (λhq=>absurd (h1) hq)
  exact z7 [] Z5 (λw hO=>⟨by rw [show wdL s=false from by unfold wdL;rw [decide_eq_false Om];rfl],hO.below⟩)
 refine zB 6 [] (((mkS s).size:Int)<1) (λhq=>absurd hq (h1)) (λ_=> ?_)
 by_cases h2:(12:Int)<(mkS s).size
 ·refine zB 10 [] ((12:Int)<(mkS s).size) (λ_=> ?_) (λhq=>absurd (h2) hq)
  exact z7 [] Z5 (λw hO=>⟨by rw [show wdL s=false from by unfold wdL;rw [decide_eq_false Om];rfl],hO.below⟩)
 refine zB 10 [] ((12:Int)<(mkS s).size) (λhq=>absurd hq (h2)) (λ_=>zO (α:=Nat) (λi=>[(0,.string (mkS s)),(3,YI (i:Int))]) (λi=>[]) (λi m=>(i<=s.length/\gO (s.drop i)=gO s)/\m=s.length-i) (0) (s.length-0) [] ⟨⟨Nat.zero_le _,by rw [List.drop_zero]⟩,rfl⟩ ?_)
 rintro i m g kk ⟨hrel,hmm⟩ nx hkk
 subst hkk
 have hi6:=hrel.1
 by_cases h3:(i:Int)<(mkS s).size
 ·have hi:i<s.length:=by omega
  obtain ⟨c,hc⟩:∃ c,s[i]=c:=⟨_,rfl⟩
  have hdr:s.drop i=c::s.drop (i+1):=by rw [←hc];exact List.drop_eq_getElem_cons hi
  refine zB 15 [] ((i:Int)<(mkS s).size) (λ_=> ?_) (λhq=>absurd (h3) hq)
  refine bV 20 [] s i Om c hc (z8 (k:=108) (args:= #[.int .u8 (c.toNat:Int)]) (v:= .bool (qI (c.toNat:Int))) [] (λw _=>r1low_any c w) ?_)
  cases h4:qI (c.toNat:Int) with
  |true=>
   refine x_i 17 [] (((i+1:Nat):Int)) ?_
   have hnext:gO (s.drop (i+1))=gO s:=by rw [←hrel.2,hdr];refine (bW c _ ?_).symm;rw [wdB_or];simp [h1,h2,h3,h4]
   exact nx (i+1) (s.length-(i+1)) [] Om ⟨⟨by omega,hnext⟩,rfl⟩ Kr Kr
  |false=>
   refine bV 26 [] s i Om c hc (z8 (k:=109) (args:= #[.int .u8 (c.toNat:Int)]) (v:= .bool (yJ (c.toNat:Int))) [] (λw _=>r1digit_any c w) ?_)
   cases h5:yJ (c.toNat:Int) with
   |true=>
    refine x_i 17 [] (((i+1:Nat):Int)) ?_
    have hnext:gO (s.drop (i+1))=gO s:=by rw [←hrel.2,hdr];refine (bW c _ ?_).symm;rw [wdB_or];simp [h1,h2,h3,h4,h5]
    exact nx (i+1) (s.length-(i+1)) [] Om ⟨⟨by omega,hnext⟩,rfl⟩ Kr Kr
   |false=>
    refine bV 33 [] s i Om c hc ?_
    by_cases h6:(c.toNat:Int)=95
    ·refine jW 34 [] ((c.toNat:Int)=95) (λ_=> ?_) (λhq=>absurd (h6) hq)
     refine x_i 17 [] (((i+1:Nat):Int)) ?_
     have hnext:gO (s.drop (i+1))=gO s:=by rw [←hrel.2,hdr];refine (bW c _ ?_).symm;rw [wdB_or];simp [h1,h2,h3,h4,h5,h6]
     exact nx (i+1) (s.length-(i+1)) [] Om ⟨⟨by omega,hnext⟩,rfl⟩ Kr Kr
    exact jW 34 [] ((c.toNat:Int)=95) (λhq=>absurd hq (h6)) (λ_=>z7 [] Z5 (λw hO=>⟨by rw [show wdL s=false from by unfold wdL;rw [←hrel.2,hdr,wordGo_bad c _ (by rw [wdB_or];simp [h1,h2,h3,h4,h5,h6];try omega)];simp],hO.below⟩))
 exact zB 15 [] ((i:Int)<(mkS s).size) (λhq=>absurd hq (h3)) (λ_=>z7 [] Z4 (λw hO=>⟨by rw [show wdL s=true from by unfold wdL;rw [←hrel.2,List.drop_of_length_le Om];simp [gO];omega],hO.below⟩))
theorem r10leaf_any (n:Nd)(W:World)(hs:n.text.length<=1000000):YC 343 #[ndV n] W (YR (.bool (xD n)) W):=by
 refine zE Tryz.func343 (yN [] λb1=> ?_)
 by_cases h1:(n.op:Int)=1
 ·refine zB 5 [0] ((n.op:Int)=1) (λ_=> ?_) (λhq=>absurd (h1) hq)
  by_cases h2:(0:Int)<=n.key
  ·refine zB 9 [0] ((0:Int)<=n.key) (λ_=> ?_) (λhq=>absurd (h2) hq)
   by_cases h3:(n.key:Int)<3
   ·refine zB 14 [0] ((n.key:Int)<3) (λ_=> ?_) (λhq=>absurd (h3) hq)
    refine z8 (k:=172) (args:= #[.string (mkS n.text)]) (v:= .bool (wdL n.text)) [0] (λw _=>j8 n.text w hs) ?_
    cases h4:wdL n.text with
    |true=>
     by_cases h5:(n.a:Int)=0
     ·refine zB 24 [0] ((n.a:Int)=0) (λ_=> ?_) (λhq=>absurd (h5) hq)
      by_cases h6:(n.b:Int)=0
      ·refine zB 29 [0] ((n.b:Int)=0) (λ_=> ?_) (λhq=>absurd (h6) hq)
       exact z7 [] Z4 (λw hO=>⟨by rw [show xD n=true from by unfold xD;simp [h1,h2,h3,h4,h5,h6];try omega],hO.below⟩)
      exact zB 29 [0] ((n.b:Int)=0) (λhq=>absurd hq (h6)) (λ_=>z7 [] Z5 (λw hO=>⟨by rw [show xD n=false from by unfold xD;simp [h1,h2,h3,h4,h5,h6];try omega],hO.below⟩))
     exact zB 24 [0] ((n.a:Int)=0) (λhq=>absurd hq (h5)) (λ_=>z7 [] Z5 (λw hO=>⟨by rw [show xD n=false from by unfold xD;simp [h1,h2,h3,h4,h5];try omega],hO.below⟩))
    |false=>
     exact z7 [] Z5 (λw hO=>⟨by rw [show xD n=false from by unfold xD;simp [h1,h2,h3,h4];try omega],hO.below⟩)
   exact zB 14 [0] ((n.key:Int)<3) (λhq=>absurd hq (h3)) (λ_=>z7 [] Z5 (λw hO=>⟨by rw [show xD n=false from by unfold xD;simp [h1,h2,h3];try omega],hO.below⟩))
  exact zB 9 [0] ((0:Int)<=n.key) (λhq=>absurd hq (h2)) (λ_=>z7 [] Z5 (λw hO=>⟨by rw [show xD n=false from by unfold xD;simp [h1,h2];try omega],hO.below⟩))
 exact zB 5 [0] ((n.op:Int)=1) (λhq=>absurd hq (h1)) (λ_=>z7 [] Z5 (λw hO=>⟨by rw [show xD n=false from by unfold xD;simp [h1];try omega],hO.below⟩))
theorem rd_key:∀ (k:Nat),k<3->yY Tryz.prog 9 #[.string ⟨#[111,115]⟩,.string ⟨#[97,114,99,104]⟩,.string ⟨#[97,98,105]⟩] (0+k*1)=some (.string (mkS (x1 k)))
 |0,_=>by kernel_rfl
 |1,_=>by kernel_rfl
 |2,_=>by kernel_rfl
theorem r10key_any (k:Nat)(hk:k<3)(W:World):YC 344 #[YI (k:Int)] W (YR (.string (mkS (x1 k))) W):=by
 exact zE Tryz.func344 (qO [] 3 9 #[.string ⟨#[111,115]⟩,.string ⟨#[97,114,99,104]⟩,.string ⟨#[97,98,105]⟩] λb1=>(zJ 5 [] (A:=some ⟨b1,0,none⟩) rfl 3 3 k 1 (by first|omega|(simp;omega)) (vX 6 [] 0 #[.string ⟨#[111,115]⟩,.string ⟨#[97,114,99,104]⟩,.string ⟨#[97,98,105]⟩] (0+k*1) 9 (.string (mkS (x1 k))) (rd_key k hk) (z7 [] (.string (mkS (x1 k))) (λw hO=>⟨rfl,hO.below⟩)))))
def yM (c:Bool)(s:List UInt8):List UInt8:=if c then [40,32]++s++[32,41] else s
theorem xY (s:List UInt8)(c:Bool)(W:World)(hs:s.length<=1000000):YC 345 #[.string (mkS s),.bool c] W (YR (.string (mkS (yM c s))) W):=by
 refine zE Tryz.func345 ?_
 cases h1:c with
 |true=>
  exact zW 7 [] ([40,32]) s (zW 8 [] ([40,32]++s) ([32,41]) (z7 [] (.string (mkS (([40,32]++s)++[32,41]))) (λw hO=>⟨rfl,hO.below⟩)))
 |false=>
  exact z7 [] (.string (mkS s)) (λw hO=>⟨rfl,hO.below⟩)
end
section
theorem gT (r:Int)(b:Bool)(hb:qI r=b)(w:World):
  YC 89 #[.int .i32 r] w λe w'=>e= .returned (.bool b)/\w=w':=by
 subst hb
 unfold qI
 go_enter Tryz.func89,Tryz.ntmps89
 go_wp2
 all_goals go_ret
 all_goals exact ⟨y8 (by simp;try omega),rfl⟩
theorem name_any (s:ByteArray)(w:World)(hs:s.size<=maxLen):
  YC 52 #[.string s] w (YR (.bool (m8 s)) w):=by
 unfold maxLen at hs
 by_cases h16:s.size<=16
 ·go_enter Tryz.func52,Tryz.ntmps52
  go_wp2
  go_loopw [3] (λv wr=>∃ (pos:Nat) (l:Int),wr=w.iter s pos/\pos<=s.size/\v= .int .i32 l/\Hid (kV (decide (pos=0)) l (s.data.toList.drop pos)=kV true 45 s.data.toList)) (λ_ wr=>s.size-wr.iterPos w.heap.size)
  case atStart=>exact ⟨0,45,rfl,Nat.zero_le _,rfl,rfl⟩
  case round=>
   obtain ⟨pos,l,rfl,hple,rfl,HR⟩:=hrel
   by_cases hp:pos<s.size
   ·have HD:=Lib.hid (gV s pos hp)
    by_cases ha:(s[pos]'hp).toNat<128
    ·have hnx:∀ ty,(Instr.next (.pointer (some ⟨w.heap.size,0,none⟩)) true ty).run Tryz.prog (w.iter s pos)=_:=λty=>run_next_ascii w s pos ty hp ha
     by_cases hl:qI (s[pos]'hp).toNat=true
     ·have HL:=Lib.hid hl
      clear hl
      go_wp2_with (go_at_call 89;refine (gT _ true HL.out _).mono ?_;rintro e w' ⟨rfl,rfl⟩)
      go_roundw
      case rel=>exact ⟨pos+1,_,rfl,by omega,rfl,by rw [←HR.out,HD.out,nameGo_let _ _ _ _ HL.out];rfl⟩
      case measure=>simp;omega
     ·have HL:=Lib.hid (Bool.eq_false_iff.2 hl)
      clear hl
      by_cases hd:yJ (s[pos]'hp).toNat=true
      ·have HG:=Lib.hid hd
       clear hd
       by_cases h0:pos=0
       ·subst h0
        go_wp2_with (first|(go_at_call 89;refine (gT _ false HL.out _).mono ?_;rintro e w' ⟨rfl,rfl⟩)|(go_at_call 90;refine (kO _ true HG.out _).mono ?_;rintro e w' ⟨rfl,rfl⟩))
        go_ret
        exact ⟨y8 (by unfold m8;rw [←HR.out,HD.out,nameGo_dig _ _ _ _ HL.out HG.out];simp),yB _ _ _⟩
       ·have hpi:((pos:Int)==0)=false:=by simp;omega
        go_wp2_with (first|(go_at_call 89;refine (gT _ false HL.out _).mono ?_;rintro e w' ⟨rfl,rfl⟩)|(go_at_call 90;refine (kO _ true HG.out _).mono ?_;rintro e w' ⟨rfl,rfl⟩))
        go_roundw
        case rel=>exact ⟨pos+1,_,rfl,by omega,rfl,by rw [←HR.out,HD.out,nameGo_dig _ _ _ _ HL.out HG.out];simp [h0,Hid]⟩
        case measure=>simp;omega
      ·have HG:=Lib.hid (Bool.eq_false_iff.2 hd)
       clear hd
       by_cases h3:((s[pos]'hp).toNat:Int)=45
       ·have H3:=Lib.hid h3
        have h3b:(((s[pos]'hp).toNat:Int)==45)=true:=by simp [h3]
        clear h3
        by_cases h4:l=45
        ·have h4b:(l==45)=true:=by simp [h4]
         have H4:=Lib.hid h4
         clear h4
         go_wp2_with (first|(go_at_call 89;refine (gT _ false HL.out _).mono ?_;rintro e w' ⟨rfl,rfl⟩)|(go_at_call 90;refine (kO _ false HG.out _).mono ?_;rintro e w' ⟨rfl,rfl⟩))
         go_ret
         exact ⟨y8 (by unfold m8;rw [←HR.out,HD.out,nameGo_dash _ _ _ _ HL.out HG.out H3.out,if_pos H4.out];simp),yB _ _ _⟩
        ·have h4b:(l==45)=false:=by simp [h4]
         go_wp2_with (first|(go_at_call 89;refine (gT _ false HL.out _).mono ?_;rintro e w' ⟨rfl,rfl⟩)|(go_at_call 90;refine (kO _ false HG.out _).mono ?_;rintro e w' ⟨rfl,rfl⟩))
         go_roundw
         case rel=>exact ⟨pos+1,_,rfl,by omega,rfl,by rw [←HR.out,HD.out,nameGo_dash _ _ _ _ HL.out HG.out H3.out,if_neg h4];rfl⟩
         case measure=>simp;omega
       ·have h3b:(((s[pos]'hp).toNat:Int)==45)=false:=by simpa using h3
        go_wp2_with (first|(go_at_call 89;refine (gT _ false HL.out _).mono ?_;rintro e w' ⟨rfl,rfl⟩)|(go_at_call 90;refine (kO _ false HG.out _).mono ?_;rintro e w' ⟨rfl,rfl⟩))
        go_ret
        exact ⟨y8 (by unfold m8;rw [←HR.out,HD.out,nameGo_else _ _ _ _ HL.out HG.out h3];simp),yB _ _ _⟩
    ·have hnx:∀ ty,(Instr.next (.pointer (some ⟨w.heap.size,0,none⟩)) true ty).run Tryz.prog (w.iter s pos)=_:=λty=>run_next_any w s pos ty hp
     have hhi:=(decode_high s pos hp Om).1
     have HL:=Lib.hid (letB_hi _ hhi)
     have HG:=Lib.hid (digB_hi _ hhi)
     have h3b:(((Utf8.decode s pos).1:Int)==45)=false:=by simp;omega
     go_wp2_with (first|(go_at_call 89;refine (gT _ false HL.out _).mono ?_;rintro e w' ⟨rfl,rfl⟩)|(go_at_call 90;refine (kO _ false HG.out _).mono ?_;rintro e w' ⟨rfl,rfl⟩))
     go_ret
     exact ⟨y8 (by unfold m8;rw [←HR.out,HD.out,nameGo_hi _ _ _ _ Om];simp),yB _ _ _⟩
   ·have hnx:∀ ty,(Instr.next (.pointer (some ⟨w.heap.size,0,none⟩)) true ty).run Tryz.prog (w.iter s pos)=_:=λty=>run_next_end w s pos ty hp
    have HD:=Lib.hid (wF s pos hp)
    go_wp2
    go_ret
    exact ⟨y8 (by unfold m8;rw [←HR.out,HD.out,kV];by_cases hq:l=45<;>simp [h16,hq]),yB _ _ _⟩
 ·go_enter Tryz.func52,Tryz.ntmps52
  go_wp2
  go_ret
  exact ⟨y8 (by unfold m8;simp [h16]),Below.refl _ _⟩
theorem word_any (s:ByteArray)(w:World)(hs:s.size<=maxLen):
  YC 97 #[.string s] w (YR (.bool (wordB s)) w):=by
 unfold maxLen at hs
 by_cases h0:s.size=0
 ·have H0:=Lib.hid h0
  have hz:((s.size:Int)==0)=true:=by simp [h0]
  clear h0
  go_enter Tryz.func97,Tryz.ntmps97
  go_wp2
  go_ret
  exact ⟨y8 (by unfold wordB;simp [H0.out]),Below.refl _ _⟩
 ·have hz:((s.size:Int)==0)=false:=wH Om
  by_cases h12:s.size<=12
  ·go_enter Tryz.func97,Tryz.ntmps97
   go_wp2
   go_loopw [] (λwr=>∃ (pos:Nat),wr=w.iter s pos/\pos<=s.size/\Hid (gO (s.data.toList.drop pos)=gO s.data.toList)) (λwr=>s.size-wr.iterPos w.heap.size)
   case atStart=>exact ⟨0,rfl,Nat.zero_le _,rfl⟩
   case round=>
    obtain ⟨pos,rfl,hple,HR⟩:=hrel
    by_cases hp:pos<s.size
    ·have HD:=Lib.hid (gV s pos hp)
     by_cases ha:(s[pos]'hp).toNat<128
     ·have hnx:∀ ty,(Instr.next (.pointer (some ⟨w.heap.size,0,none⟩)) true ty).run Tryz.prog (w.iter s pos)=_:=λty=>run_next_ascii w s pos ty hp ha
      by_cases hl:qI (s[pos]'hp).toNat=true
      ·have HL:=Lib.hid hl
       clear hl
       go_wp2_with (go_at_call 89;refine (gT _ true HL.out _).mono ?_;rintro e w' ⟨rfl,rfl⟩)
       go_roundw
       case rel=>exact ⟨pos+1,rfl,by omega,by rw [←HR.out,HD.out,bW _ _ (by unfold wdB;rw [HL.out];rfl)];rfl⟩
       case measure=>simp;omega
      ·have HL:=Lib.hid (Bool.eq_false_iff.2 hl)
       clear hl
       by_cases hd:yJ (s[pos]'hp).toNat=true
       ·have HG:=Lib.hid hd
        clear hd
        go_wp2_with (first|(go_at_call 89;refine (gT _ false HL.out _).mono ?_;rintro e w' ⟨rfl,rfl⟩)|(go_at_call 90;refine (kO _ true HG.out _).mono ?_;rintro e w' ⟨rfl,rfl⟩))
        go_roundw
        case rel=>exact ⟨pos+1,rfl,by omega,by rw [←HR.out,HD.out,bW _ _ (by unfold wdB;rw [HL.out,HG.out];rfl)];rfl⟩
        case measure=>simp;omega
       ·have HG:=Lib.hid (Bool.eq_false_iff.2 hd)
        clear hd
        by_cases h3:((s[pos]'hp).toNat:Int)=95
        ·have H3:=Lib.hid h3
         have h3b:(((s[pos]'hp).toNat:Int) !=95)=false:=by simp [h3]
         clear h3
         go_wp2_with (first|(go_at_call 89;refine (gT _ false HL.out _).mono ?_;rintro e w' ⟨rfl,rfl⟩)|(go_at_call 90;refine (kO _ false HG.out _).mono ?_;rintro e w' ⟨rfl,rfl⟩))
         go_roundw
         case rel=>exact ⟨pos+1,rfl,by omega,by rw [←HR.out,HD.out,bW _ _ (by unfold wdB;rw [HL.out,HG.out,H3.out];rfl)];rfl⟩
         case measure=>simp;omega
        ·have h3b:(((s[pos]'hp).toNat:Int) !=95)=true:=by simpa using h3
         go_wp2_with (first|(go_at_call 89;refine (gT _ false HL.out _).mono ?_;rintro e w' ⟨rfl,rfl⟩)|(go_at_call 90;refine (kO _ false HG.out _).mono ?_;rintro e w' ⟨rfl,rfl⟩))
         go_ret
         exact ⟨y8 (by unfold wordB;rw [←HR.out,HD.out,wordGo_bad _ _ (by unfold wdB;rw [HL.out,HG.out];simpa using h3)];simp),yB _ _ _⟩
     ·have hnx:∀ ty,(Instr.next (.pointer (some ⟨w.heap.size,0,none⟩)) true ty).run Tryz.prog (w.iter s pos)=_:=λty=>run_next_any w s pos ty hp
      have hhi:=(decode_high s pos hp Om).1
      have HL:=Lib.hid (letB_hi _ hhi)
      have HG:=Lib.hid (digB_hi _ hhi)
      have h3b:(((Utf8.decode s pos).1:Int) !=95)=true:=by simp;omega
      go_wp2_with (first|(go_at_call 89;refine (gT _ false HL.out _).mono ?_;rintro e w' ⟨rfl,rfl⟩)|(go_at_call 90;refine (kO _ false HG.out _).mono ?_;rintro e w' ⟨rfl,rfl⟩))
      go_ret
      exact ⟨y8 (by unfold wordB;rw [←HR.out,HD.out,wordGo_bad _ _ (by unfold wdB;rw [letB_hi8 _ Om,tV _ Om];simp;omega)];simp),yB _ _ _⟩
    ·have hnx:∀ ty,(Instr.next (.pointer (some ⟨w.heap.size,0,none⟩)) true ty).run Tryz.prog (w.iter s pos)=_:=λty=>run_next_end w s pos ty hp
     have HD:=Lib.hid (wF s pos hp)
     go_wp2
     go_ret
     exact ⟨y8 (by unfold wordB;rw [←HR.out,HD.out,gO];simp;omega),yB _ _ _⟩
  ·go_enter Tryz.func97,Tryz.ntmps97
   go_wp2
   go_ret
   exact ⟨y8 (by unfold wordB;simp [h12]),Below.refl _ _⟩
end
section
theorem tP (r:Int)(b:Bool)(hb:qI r=b)(w:World):
  YC 108 #[.int .u8 r] w λe w'=>e= .returned (.bool b)/\w=w':=by
 subst hb
 unfold qI
 go_enter Tryz.func108,Tryz.ntmps108
 go_wp2
 all_goals go_ret
 all_goals exact ⟨y8 (by simp;try omega),rfl⟩
end
section
theorem nameB_short (s:ByteArray)(h:s.size<1):m8 s=false:=by
 have:s.data.toList=[]:=by have:=wF s 0 Om;simpa using this
 unfold m8;rw [this];simp [kV]
theorem rname_any (s:ByteArray)(w:World)(hs:s.size<=maxLen):
  YC 59 #[.string s] w λe w'=>e= .returned (.bool (m8 s))/\w=w':=by
 unfold maxLen at hs
 by_cases h0:s.size<1
 ·go_enter Tryz.func59,Tryz.ntmps59
  go_wp2
  go_ret
  exact ⟨y8 (by rw [nameB_short s h0]),rfl⟩
 ·have hp0:0<s.size:=by omega
  by_cases h16:s.size<=16
  ·have HB:=Lib.hid (nameB_ref s hp0 h16)
   by_cases hl:qI s[0].toNat=true
   ·have HL:=Lib.hid hl
    clear hl
    by_cases h45:(s[s.size-1].toNat:Int)=45
    ·have H45:=Lib.hid h45
     have h45b:((s[s.size-1].toNat:Int)==45)=true:=by simp [h45]
     clear h45
     go_enter Tryz.func59,Tryz.ntmps59
     go_wp2_with (go_at_call 108;refine (tP _ true HL.out _).mono ?_;rintro e w' ⟨rfl,rfl⟩)
     go_ret
     exact ⟨y8 (by rw [HB.out,HL.out,H45.out];rfl),rfl⟩
    ·have h45b:((s[s.size-1].toNat:Int)==45)=false:=by simpa using h45
     go_enter Tryz.func59,Tryz.ntmps59
     go_wp2_with (go_at_call 108;refine (tP _ true HL.out _).mono ?_;rintro e w' ⟨rfl,rfl⟩)
     go_loop [3] (λi=>∃ (k:Nat) (hk:k<s.size),i=YI (k+1:Nat)/\Hid (vG s[k].toNat (s.data.toList.drop (k+1))=vG s[0].toNat (s.data.toList.drop 1))) (λi=>s.size-(intOf i).toNat)
     case atStart=>exact ⟨0,hp0,rfl,rfl⟩
     case round=>
      obtain ⟨k,hk,rfl,HR⟩:=hrel
      by_cases hp:k+1<s.size
      ·have HD:=Lib.hid (gV s (k+1) hp)
       by_cases hl2:qI s[k+1].toNat=true
       ·have HL2:=Lib.hid hl2
        have hne:¬ (s[k+1].toNat:Int)=45:=by unfold qI at hl2;simp at hl2;omega
        have hcb:((s[k+1].toNat:Int)==45)=false:=by simpa using hne
        have HN:=Lib.hid hne
        clear hl2 hne
        go_wp2_with (go_at_call 108;refine (tP _ true HL2.out _).mono ?_;rintro e w' ⟨rfl,rfl⟩)
        go_round
        case rel=>exact ⟨k+1,hp,by go_num,by rw [←HR.out,HD.out,nameRef_ok _ _ _ (by rw [HL2.out];rfl) (by simp [HN.out])];rfl⟩
        case measure=>simp [intOf];omega
       ·have HL2:=Lib.hid (Bool.eq_false_iff.2 hl2)
        clear hl2
        by_cases hd2:yJ s[k+1].toNat=true
        ·have HG2:=Lib.hid hd2
         have hne:¬ (s[k+1].toNat:Int)=45:=by unfold yJ at hd2;simp at hd2;omega
         have hcb:((s[k+1].toNat:Int)==45)=false:=by simpa using hne
         have HN:=Lib.hid hne
         clear hd2 hne
         go_wp2_with (first|(go_at_call 108;refine (tP _ false HL2.out _).mono ?_;rintro e w' ⟨rfl,rfl⟩)|(go_at_call 109;refine (wU _ true HG2.out _).mono ?_;rintro e w' ⟨rfl,rfl⟩))
         go_round
         case rel=>exact ⟨k+1,hp,by go_num,by rw [←HR.out,HD.out,nameRef_ok _ _ _ (by rw [HL2.out,HG2.out];rfl) (by simp [HN.out])];rfl⟩
         case measure=>simp [intOf];omega
        ·have HG2:=Lib.hid (Bool.eq_false_iff.2 hd2)
         clear hd2
         by_cases h3:(s[k+1].toNat:Int)=45
         ·have H3:=Lib.hid h3
          have hcb:((s[k+1].toNat:Int)==45)=true:=by simp [h3]
          have hcn:((s[k+1].toNat:Int) !=45)=false:=by simp [h3]
          clear h3
          by_cases h4:(s[k].toNat:Int)=45
          ·have H4:=Lib.hid h4
           have hpb:((s[k].toNat:Int)==45)=true:=by simp [h4]
           clear h4
           go_wp2_with (first|(go_at_call 108;refine (tP _ false HL2.out _).mono ?_;rintro e w' ⟨rfl,rfl⟩)|(go_at_call 109;refine (wU _ false HG2.out _).mono ?_;rintro e w' ⟨rfl,rfl⟩))
           go_ret
           exact ⟨y8 (by rw [HB.out,←HR.out,HD.out,nameRef_two _ _ _ H3.out H4.out];simp),rfl⟩
          ·have hpb:((s[k].toNat:Int)==45)=false:=by simpa using h4
           go_wp2_with (first|(go_at_call 108;refine (tP _ false HL2.out _).mono ?_;rintro e w' ⟨rfl,rfl⟩)|(go_at_call 109;refine (wU _ false HG2.out _).mono ?_;rintro e w' ⟨rfl,rfl⟩))
           go_round
           case rel=>exact ⟨k+1,hp,by go_num,by rw [←HR.out,HD.out,nameRef_ok _ _ _ (by rw [H3.out];simp) (by simp [h4])];rfl⟩
           case measure=>simp [intOf];omega
         ·have hcn:((s[k+1].toNat:Int) !=45)=true:=by simpa using h3
          go_wp2_with (first|(go_at_call 108;refine (tP _ false HL2.out _).mono ?_;rintro e w' ⟨rfl,rfl⟩)|(go_at_call 109;refine (wU _ false HG2.out _).mono ?_;rintro e w' ⟨rfl,rfl⟩))
          go_ret
          exact ⟨y8 (by rw [HB.out,←HR.out,HD.out,nameRef_bad _ _ _ (by rw [HL2.out,HG2.out];simpa using h3)];simp),rfl⟩
      ·have HD:=Lib.hid (wF s (k+1) hp)
       go_wp2
       go_ret
       exact ⟨y8 (by rw [HB.out,←HR.out,HD.out,HL.out,vG];simp [h45]),rfl⟩
   ·have HL:=Lib.hid (Bool.eq_false_iff.2 hl)
    clear hl
    go_enter Tryz.func59,Tryz.ntmps59
    go_wp2_with (go_at_call 108;refine (tP _ false HL.out _).mono ?_;rintro e w' ⟨rfl,rfl⟩)
    go_ret
    exact ⟨y8 (by rw [HB.out,HL.out];rfl),rfl⟩
  ·go_enter Tryz.func59,Tryz.ntmps59
   go_wp2
   go_ret
   exact ⟨y8 (by unfold m8;simp [h16]),rfl⟩
end
section
set_option linter.unnecessarySimpa false
theorem pH (s:List UInt8)(W:World)(hs:s.length<=1000000):YC 59 #[.string (mkS s)] W (YR (.bool (nmL s)) W):=
 (rname_any (mkS s) W (by rw [zQ];unfold maxLen;omega)).mono λe w' ⟨h,e2⟩=>⟨h,e2▸Below.refl _ _⟩
theorem kind_w {s:List UInt8}(h:wdL s=true):zM s=(1,s,[]):=by unfold zM;rw [if_pos h]
theorem kind_o {s:List UInt8}{c:UInt8}(h:wdL s=false)(h0:s.head?=some c)(hc:(c.toNat:Int)=63)(h2:wdL (s.drop 1)=true):zM s=(2,s.drop 1,[]):=by
 have:c=63:=UInt8.toNat_inj.1 (by simp;omega)
 unfold zM
 rw [if_neg (by rw [h];simp),if_pos (by rw [h0,this,h2];rfl)]
theorem kind_two' {s a b:List UInt8}(h:wdL s=false)(hno:¬ (s.head?=some 63/\wdL (s.drop 1)=true))(hl:zD 47 [] s=[a,b]):zM s=if nmL a && wdL b then (3,a,b) else (0,[],[]):=by
 unfold zM
 rw [if_neg (by rw [h];simp),if_neg (by rw [Bool.and_eq_true,decide_eq_true_eq];exact hno),hl]
theorem kind_not {s:List UInt8}(h:wdL s=false)(hno:¬ (s.head?=some 63/\wdL (s.drop 1)=true))(hl:¬ (zD 47 [] s).length=2):zM s=(0,[],[]):=by
 unfold zM
 rw [if_neg (by rw [h];simp),if_neg (by rw [Bool.and_eq_true,decide_eq_true_eq];exact hno)]
 split
 ·rename_i a b e;rw [e] at hl;exact absurd rfl hl
 ·rfl
theorem two11_of {l:List (List UInt8)}(h:l.length=2):∃ a b,l=[a,b]:=by
 match l,h with
 | [a,b],_=>exact ⟨a,b,rfl⟩
theorem r11Item_any (s:List UInt8)(W:World)(hs:s.length<=1000000):YC 175 #[.string (mkS s)] W (YR (.tuple #[YI (zM s).1,.string (mkS (zM s).2.1),.string (mkS (zM s).2.2)]) W):=by
 have hK:=λ{z:Int} {a b:List UInt8} (h:zM s=(z,a,b)) (w:World) (hb:Below W.heap.size W w)=>show Ending.returned (.tuple #[YI z,.string (mkS a),.string (mkS b)])= .returned (.tuple #[YI (zM s).1,.string (mkS (zM s).2.1),.string (mkS (zM s).2.2)])/\Below W.heap.size W w from ⟨by rw [h],hb⟩
 refine zE Tryz.func175 (z8 (k:=172) (args:= #[.string (mkS s)]) (v:= .bool (wdL s)) [] (λw _=>j8 s w hs) ?_)
 cases h1:wdL s with
 |true=>exact jV [] (.int .i64 1) (.string (mkS s)) (.string (mkS [])) λw hO=>hK (kind_w h1) w hO.below
 |false=>
  refine x_joinF (.s (.s (.s (.s (.s (.s (.s .z))))))) (α:=Bool) (λd=>[(0,.string (mkS s)),(21,.bool d)]) (λ_=>[]) (λd=>d=(decide (s.head?=some 63) && wdL (s.drop 1))) [] (λnj=> ?_) (λd g hd=> ?_)
  ·refine zB 11 [] ((0:Int)<(s.length:Int)) (λh2=> ?_) (λh2=>nj false [] (by rw [List.eq_nil_of_length_eq_zero (by omega:s.length=0)];rfl) Kr)
   have h0s:0<s.length:=by omega
   have hhd:s.head?=some s[0]:=by rw [List.head?_eq_getElem?,List.getElem?_eq_getElem h0s]
   exact bV 14 [] s 0 h0s s[0] rfl (zB 15 [] ((s[0].toNat:Int)=63) (λh3=>x_slo 19 [] s 1 Om Om (.string (mkS (s.drop 1))) rfl (z8 (k:=172) (args:= #[.string (mkS (s.drop 1))]) (v:= .bool (wdL (s.drop 1))) [] (λw _=>j8 (s.drop 1) w (by rw [List.length_drop];omega)) (nj (wdL (s.drop 1)) [] (by rw [hhd,show s[0]=63 from UInt8.toNat_inj.1 (by simp;omega)];simp) Kr))) (λh3=>nj false [] (by rw [hhd,decide_eq_false (λq=>h3 (by rw [Option.some.inj q];rfl))];rfl) Kr))
  cases d with
  |true=>
   have hy:=hd.symm
   rw [Bool.and_eq_true,decide_eq_true_eq] at hy
   exact x_slo 23 [] s 1 Om (by cases s with|nil=>cases hy.1|cons a r=>simp;omega) (.string (mkS (s.drop 1))) rfl (jV [] (YI 2) (.string (mkS (s.drop 1))) (.string (mkS [])) λw hO=>hK (kind_o h1 hy.1 (by decide) hy.2) w hO.below)
  |false=>
   have hno:¬ (s.head?=some 63/\wdL (s.drop 1)=true):=λq=>by rw [q.1,q.2] at hd;cases hd
   refine kP (R:=λv' ob'=>SlT v' (zD 47 [] s) ob') [] (λw hO=>rsplitB_own s 47 w hs) ?_
   intro vw ow hsw
   obtain ⟨AW,cw,rfl⟩:=hsw.form
   refine zB 28 [] (((zD 47 [] s).length:Int)=2) (λh5=> ?_) (λh5=>jV [] (YI 0) (.string (mkS [])) (.string (mkS [])) λw hO=>hK (kind_not h1 hno Om) w hO.below)
   obtain ⟨x,y,hxy⟩:=two11_of (l:=(zD 47 [] s)) Om
   obtain ⟨gb,hgb,hcb⟩:=Sl.at0 hsw Om
   have hxl:x.length<=1000000:=Nat.le_trans (dJ 47 s [] x (by rw [hxy];simp)) (by simpa using hs)
   have hyl:y.length<=1000000:=Nat.le_trans (dJ 47 s [] y (by rw [hxy];simp)) (by simpa using hs)
   have hl0:∀ w,Own [] W w ow->(loadVar 9 ⟨gb,0+0*1,none⟩).run Tryz.prog w= .ok (.string (mkS x)) w:=λw hO=>Reads.load zX (SlT.reads hsw rfl hO (λx hx=>hx)) hgb 0 0 (by rw [hxy];show 0<2;omega) rfl _ (by simp only [hxy];kernel_rfl)
   have hl1:∀ w,Own [] W w ow->(loadVar 9 ⟨gb,0+1*1,none⟩).run Tryz.prog w= .ok (.string (mkS y)) w:=λw hO=>Reads.load zX (SlT.reads hsw rfl hO (λx hx=>hx)) hgb 1 0 (by rw [hxy];show 1<2;omega) rfl _ (by simp only [hxy];kernel_rfl)
   have hk:=kind_two' h1 hno hxy
   refine zJ 31 [] hgb (zD 47 [] s).length cw 0 1 Om (zH 32 [] 9 gb (0+0*1) (.string (mkS x)) (λw hO=>hl0 w (hO.past 0 ow)) (z8 (k:=59) (args:= #[.string (mkS x)]) (v:= .bool (nmL x)) [] (λw _=>pH x w hxl) ?_))
   cases h6:nmL x with
   |false=>exact jV [] (.int .i64 0) (.string (mkS [])) (.string (mkS [])) λw hO=>hK (by rw [hk,if_neg (by simp [h6])]) w hO.below
   |true=>
    refine zJ 37 [] hgb (zD 47 [] s).length cw 1 1 Om (zH 38 [] 9 gb (0+1*1) (.string (mkS y)) (λw hO=>hl1 w (hO.past 0 ow)) (z8 (k:=172) (args:= #[.string (mkS y)]) (v:= .bool (wdL y)) [] (λw _=>j8 y w hyl) ?_))
    cases h7:wdL y with
    |false=>exact jV [] (.int .i64 0) (.string (mkS [])) (.string (mkS [])) λw hO=>hK (by rw [hk,if_neg (by simp [h7])]) w hO.below
    |true=>exact zJ 42 [] hgb (zD 47 [] s).length cw 0 1 Om (zH 43 [] 9 gb (0+0*1) (.string (mkS x)) (λw hO=>hl0 w (hO.past 0 ow)) (zJ 45 [] hgb (zD 47 [] s).length cw 1 1 Om (zH 46 [] 9 gb (0+1*1) (.string (mkS y)) (λw hO=>hl1 w (hO.past 0 ow)) (jV [] (.int .i64 3) (.string (mkS x)) (.string (mkS y)) λw hO=>hK (by rw [hk,if_pos (by rw [h6,h7];rfl)]) w hO.below))))
end
section
set_option linter.unnecessarySimpa false
theorem rise_iff:∀ {l:List (List UInt8)},qK l=true↔∀ i (h:i+1<l.length),Op.bytesLess (l[i]'Om) l[i+1]=true
 | []=>⟨λ_ i h=>by simp at h,λ_=>rfl⟩
 | [a]=>⟨λ_ i h=>by simp at h,λ_=>rfl⟩
 |a::b::r=>by
  rw [qK,Bool.and_eq_true,rise_iff (l:=b::r)]
  constructor
  ·rintro ⟨h1,h2⟩ i h
   cases i with
   |zero=>exact h1
   |succ i=>exact h2 i (by simpa using h)
  ·intro h
   exact ⟨h 0 (by simp),λi hi=>h (i+1) (by simpa using hi)⟩
theorem y9 {α:Type}{p:α->Prop}{l:List α}{i:Nat}(hi:i<l.length)(h:∀ x∈l.take i,p x)(hp:p l[i]):∀ y∈l.take (i+1),p y:=λy hy=>by
 rw [List.take_succ_eq_append_getElem hi] at hy
 rcases List.mem_append.1 hy with hy|hy
 ·exact h y hy
 ·rw [List.mem_singleton.1 hy];exact hp
theorem yQ {α:Type}{p:α->Prop}{l:List α}{i:Nat}(hi:l.length<=i)(h:∀ x∈l.take i,p x):∀ y∈l,p y:=by rwa [List.take_of_length_le hi] at h
theorem d6 {l:List Ft}{of:List (List UInt8)}(h:¬ of.length<=6\/qK of=false∨∃ s∈of,jY l s=false):kH l of=false:=by
 unfold kH
 rcases h with h|h|⟨s,hs,h⟩
 ·rw [decide_eq_false h];rfl
 ·rw [h];simp
 ·rw [show of.all (jY l)=false from by rw [List.all_eq_false];exact ⟨s,hs,by rw [h];simp⟩];simp
theorem items_yes {l:List Ft}{of:List (List UInt8)}(h:of.length<=6)(h2:qK of=true)(h3:∀ s∈of,jY l s=true):kH l of=true:=by
 unfold kH
 rw [decide_eq_true h,h2,List.all_eq_true.2 h3];rfl
theorem nO {l:List Ft}(h:¬ l.length<=8\/(∃ f∈l,wdL f.name=false)\/qK (l.map Ft.name)=false∨∃ f∈l,kH l f.of=false):d4 l=false:=by
 unfold d4
 rcases h with h|⟨f,hf,h⟩|h|⟨f,hf,h⟩
 ·rw [decide_eq_false h];rfl
 ·rw [show l.all (λf=>wdL f.name)=false from by rw [List.all_eq_false];exact ⟨f,hf,by rw [h];simp⟩];simp
 ·rw [h];simp
 ·rw [show l.all (λf=>kH l f.of)=false from by rw [List.all_eq_false];exact ⟨f,hf,by rw [h];simp⟩];simp
theorem may_yes {l:List Ft}(h:l.length<=8)(h2:∀ f∈l,wdL f.name=true)(h3:qK (l.map Ft.name)=true)(h4:∀ f∈l,kH l f.of=true):d4 l=true:=by
 unfold d4
 rw [decide_eq_true h,List.all_eq_true.2 h2,h3,List.all_eq_true.2 h4];rfl
theorem ft_mem {xs:List Fv}{x:Fv}(h:x∈xs):x.ft∈yO xs:=List.mem_map.2 ⟨x,h,rfl⟩
theorem ft_rise {xs:List Fv}:qK ((yO xs).map Ft.name)=true↔∀ i (h:i+1<xs.length),Op.bytesLess (xs[i]'Om).name xs[i+1].name=true:=by
 rw [rise_iff]
 constructor
 ·intro h i hi
  have:=h i (by rw [List.length_map,wE];exact hi)
  simpa [yO,Fv.ft] using this
 ·intro h i hi
  rw [List.length_map,wE] at hi
  simpa [yO,Fv.ft] using h i hi
theorem r1Rising_any (A:Option Addr)(cap:Nat)(l:List (List UInt8))(W:World)(hv:Reads yV W W.heap.size A l)(hn:l.length<=1000000):YC 230 #[.slice A l.length cap] W (YR (.bool (qK l)) W):=by
 refine zE Tryz.func230 (zO (α:=Nat) (λi=>[(0,.slice A l.length cap),(3,YI ((i+1:Nat):Int))]) (λi=>[]) (λi m=>(i<=l.length∧∀ z (hz:z+1<l.length),z<i->Op.bytesLess (l[z]'Om) l[z+1]=true)/\m=l.length-i) (0) (l.length-0) [] ⟨⟨Nat.zero_le _,λz hz hzi=>absurd hzi (Nat.not_lt_zero _)⟩,rfl⟩ ?_)
 rintro i m g kk ⟨hrel,hmm⟩ nx hkk
 subst hkk
 have hj6:=hrel.1
 by_cases h1:((i+1:Nat):Int)<(l.length:Int)
 ·have hjl:i+1<l.length:=by omega
  obtain ⟨bp,off,hA,hlt,hcell⟩:=hv Om
  obtain ⟨x,hx⟩:∃ x,l[i]=x:=⟨_,rfl⟩
  obtain ⟨y,hy⟩:∃ y,l[i+1]=y:=⟨_,rfl⟩
  refine zB 7 [] (((i+1:Nat):Int)<(l.length:Int)) (λ_=> ?_) (λhq=>absurd (h1) hq)
  refine dF 12 [] (YI (IntKind.i64.wrap (((i+1:Nat):Int) -1))) (YI (i:Int)) (by rw [IntWalk.i64_in _ Om,show ((i+1:Nat):Int) -1=(i:Int) by omega]) (zJ 13 [] hA l.length cap i 1 (by first|omega|(simp;omega)) (zH 14 [] 9 bp (off+i*1) (.string (mkS x)) (λw hO=>Reads.load zX (hv.on hO.below hO.size) hA i 0 Om Om _ (by rw [hx];kernel_rfl)) (zJ 17 [] hA l.length cap (i+1) 1 (by first|omega|(simp;omega)) (zH 18 [] 9 bp (off+(i+1)*1) (.string (mkS y)) (λw hO=>Reads.load zX (hv.on hO.below hO.size) hA (i+1) 0 Om Om _ (by rw [hy];kernel_rfl)) ?_))))
  cases h2:Op.bytesLess x y with
  |true=>
   refine x_sge 19 [] x y (λ_=> ?_) (λhq=>absurd (hq.symm.trans h2) (by decide))
   exact x_i 9 [] (((i+1+1:Nat):Int)) (nx (i+1) (l.length-(i+1)) [] Om ⟨⟨by omega,λz hz hzi=>by rcases Nat.lt_succ_iff_lt_or_eq.1 hzi with q|rfl;exact hrel.2 z hz q;rw [hx,hy];exact h2⟩,rfl⟩ Kr Kr)
  |false=>
   exact x_sge 19 [] x y (λhq=>absurd (hq.symm.trans h2) (by decide)) (λ_=>z7 [] Z5 (λw hO=>⟨by rw [show qK l=false from by cases hq:qK l with|false=>rfl|true=>have q:=rise_iff.1 hq i hjl;rw [hx,hy,h2] at q;cases q],hO.below⟩))
 exact zB 7 [] (((i+1:Nat):Int)<(l.length:Int)) (λhq=>absurd hq (h1)) (λ_=>z7 [] Z4 (λw hO=>⟨by rw [show qK l=true from rise_iff.2 λz hz=>hrel.2 z hz Om],hO.below⟩))
theorem r11Find_any (A:Option Addr)(cap:Nat)(xs:List Fv)(n:List UInt8)(W:World)(hv:FtIn W W.heap.size A xs):YC 278 #[.slice A xs.length cap,.string (mkS n)] W (YR (YI (bU (yO xs) n)) W):=by
 refine zE Tryz.func278 (zO (α:=Nat) (λi=>[(0,.slice A xs.length cap),(1,.string (mkS n)),(5,YI (i:Int))]) (λi=>[]) (λi m=>(i<=xs.length∧∀ f∈yO (xs.take i),¬ f.name=n)/\m=xs.length-i) (0) (xs.length-0) [] ⟨⟨Nat.zero_le _,λf hf=>by simp [yO] at hf⟩,rfl⟩ ?_)
 rintro i m g kk ⟨hrel,hmm⟩ nx hkk
 subst hkk
 have hi6:=hrel.1;have hxn:=hv.n
 by_cases h1:(i:Int)<(xs.length:Int)
 ·have hil:i<xs.length:=by omega
  obtain ⟨bp,off,hA,hlt,hcell⟩:=hv.top Om
  obtain ⟨x,hx⟩:∃ x,xs[i]=x:=⟨_,rfl⟩
  refine zB 9 [] ((i:Int)<(xs.length:Int)) (λ_=> ?_) (λhq=>absurd (h1) hq)
  refine zJ 14 [] hA xs.length cap i 2 (by first|omega|(simp;omega)) (zH 16 [] 9 bp (off+i*2+0) (.string (mkS x.name)) (λw hO=>Reads.load vU (hv.top.on hO.below hO.size) hA i 0 hil Om _ (by rw [hx];kernel_rfl)) ?_)
  by_cases h2:(x.name:List UInt8)=n
  ·refine x2 18 [] x.name n (λ_=> ?_) (λhq=>absurd (h2) hq)
   exact z7 [] (YI (i:Int)) (λw hO=>⟨by rw [show bU (yO xs) n=(i:Int) from by unfold bU;rw [findI_at (i:=i) (by rw [wE];exact hil) (by rw [ftOf_get hil hx];exact h2) (by rw [←nR];exact hrel.2)]],hO.below⟩)
  exact x2 18 [] x.name n (λhq=>absurd hq (h2)) (λ_=>x_i 11 [] (((i+1:Nat):Int)) (nx (i+1) (xs.length-(i+1)) [] Om ⟨⟨by omega,by rw [nR];exact y9 (by rw [wE];exact hil) (by rw [←nR];exact hrel.2) (by rw [ftOf_get hil hx];exact h2)⟩,rfl⟩ Kr Kr))
 exact zB 9 [] ((i:Int)<(xs.length:Int)) (λhq=>absurd hq (h1)) (λ_=>z7 [] (YI (-1)) (λw hO=>⟨by rw [show bU (yO xs) n= -1 from by unfold bU;rw [findI_none (yQ (i:=i) (by rw [wE];omega) (by rw [←nR];exact hrel.2))]],hO.below⟩))
theorem r11Is_any (A:Option Addr)(cap:Nat)(xs:List Fv)(n:List UInt8)(W:World)(hv:FtIn W W.heap.size A xs):YC 231 #[.slice A xs.length cap,.string (mkS n)] W (YR (.bool (isT (yO xs) n)) W):=by
 refine zE Tryz.func231 ?_
 by_cases h1:(n:List UInt8)=[100,101,102,97,117,108,116]
 ·refine x2 6 [] n ([100,101,102,97,117,108,116]) (λ_=> ?_) (λhq=>absurd (h1) hq)
  exact z7 [] Z4 (λw hO=>⟨by rw [nU];unfold dfl;simp [h1],hO.below⟩)
 refine x2 6 [] n ([100,101,102,97,117,108,116]) (λhq=>absurd hq (h1)) (λ_=>z8 (k:=278) (args:= #[.slice A xs.length cap,.string (mkS n)]) (v:=YI (bU (yO xs) n)) [] (λw hO=>r11Find_any A cap xs n w (hv.on hO.below hO.size)) ?_)
 by_cases h2:(0:Int)<=bU (yO xs) n
 ·refine zB 11 [] ((0:Int)<=bU (yO xs) n) (λ_=> ?_) (λhq=>absurd (h2) hq)
  exact z7 [] Z4 (λw hO=>⟨by rw [nU];unfold dfl;simp [h1,h2],hO.below⟩)
 exact zB 11 [] ((0:Int)<=bU (yO xs) n) (λhq=>absurd hq (h2)) (λ_=>z7 [] Z5 (λw hO=>⟨by rw [nU];unfold dfl;simp [h1,h2],hO.below⟩))
theorem r11items_any (A:Option Addr)(cap:Nat)(xs:List Fv)(B:Option Addr)(capb:Nat)(of:List (List UInt8))(W:World)(hv:FtIn W W.heap.size A xs)(hu:Reads yV W W.heap.size B of)(hn:of.length<=5000)(ht:∀ s∈of,s.length<=1000000):YC 174 #[.slice A xs.length cap,.slice B of.length capb] W (YR (.bool (kH (yO xs) of)) W):=by
 refine zE Tryz.func174 ?_
 by_cases h1:(6:Int)<(of.length:Int)
 ·refine zB 11 [] ((6:Int)<(of.length:Int)) (λ_=> ?_) (λhq=>absurd (h1) hq)
  exact z7 [] Z5 (λw hO=>⟨by rw [show kH (yO xs) of=false from d6 (.inl Om)],hO.below⟩)
 refine zB 11 [] ((6:Int)<(of.length:Int)) (λhq=>absurd hq (h1)) (λ_=>z8 (k:=230) (args:= #[.slice B of.length capb]) (v:= .bool (qK of)) [] (λw hO=>r1Rising_any B capb of w (hu.on hO.below hO.size) Om) ?_)
 cases h2:qK of with
 |true=>
  refine zO (α:=Nat) (λk=>[(0,.slice A xs.length cap),(1,.slice B of.length capb),(5,YI (k:Int))]) (λk=>[]) (λk m=>(k<=of.length∧∀ s∈of.take k,jY (yO xs) s=true)/\m=of.length-k) (0) (of.length-0) [] ⟨⟨Nat.zero_le _,λs hs=>by simp at hs⟩,rfl⟩ ?_
  rintro k m g kk ⟨hrel,hmm⟩ nx hkk
  subst hkk
  have hk6:=hrel.1
  by_cases h3:(k:Int)<(of.length:Int)
  ·have hkl:k<of.length:=by omega
   obtain ⟨bp,off,hB,hlt,hcell⟩:=hu Om
   obtain ⟨s,hs⟩:∃ s,of[k]=s:=⟨_,rfl⟩
   have hsm:s∈of:=hs▸List.getElem_mem hkl
   refine zB 20 [] ((k:Int)<(of.length:Int)) (λ_=> ?_) (λhq=>absurd (h3) hq)
   refine zJ 26 [] hB of.length capb k 1 (by first|omega|(simp;omega)) (zH 27 [] 9 bp (off+k*1) (.string (mkS s)) (λw hO=>Reads.load zX (hu.on hO.below hO.size) hB k 0 hkl Om _ (by rw [hs];kernel_rfl)) (z8 (k:=175) (args:= #[.string (mkS s)]) (v:= .tuple #[YI ((zM s).1),.string (mkS (zM s).2.1),.string (mkS (zM s).2.2)]) [] (λw hO=>r11Item_any s w (ht s hsm)) ?_))
   by_cases h4:((zM s).1:Int)=0
   ·refine zB 33 [] (((zM s).1:Int)=0) (λ_=> ?_) (λhq=>absurd (h4) hq)
    exact z7 [] Z5 (λw hO=>⟨by rw [show kH (yO xs) of=false from d6 (.inr (.inr ⟨s,hsm,by unfold jY;simp [h4]⟩))],hO.below⟩)
   refine zB 33 [] (((zM s).1:Int)=0) (λhq=>absurd hq (h4)) (λ_=> ?_)
   by_cases h5:((zM s).1:Int)=1
   ·refine zB 36 [] (((zM s).1:Int)=1) (λ_=> ?_) (λhq=>absurd (h5) hq)
    refine z8 (k:=231) (args:= #[.slice A xs.length cap,.string (mkS (zM s).2.1)]) (v:= .bool (isT (yO xs) (zM s).2.1)) [] (λw hO=>r11Is_any A cap xs (zM s).2.1 w (hv.on hO.below hO.size)) ?_
    cases h6:isT (yO xs) (zM s).2.1 with
    |true=>
     exact x_i 22 [] (((k+1:Nat):Int)) (nx (k+1) (of.length-(k+1)) [] Om ⟨⟨by omega,y9 hkl hrel.2 (by rw [hs];exact by unfold jY;simp [h4,h5,h6])⟩,rfl⟩ Kr Kr)
    |false=>
     exact z7 [] Z5 (λw hO=>⟨by rw [show kH (yO xs) of=false from d6 (.inr (.inr ⟨s,hsm,by unfold jY;simp [h4,h5,h6]⟩))],hO.below⟩)
   exact zB 36 [] (((zM s).1:Int)=1) (λhq=>absurd hq (h5)) (λ_=>x_i 22 [] (((k+1:Nat):Int)) (nx (k+1) (of.length-(k+1)) [] Om ⟨⟨by omega,y9 hkl hrel.2 (by rw [hs];exact by unfold jY;simp [h4,h5])⟩,rfl⟩ Kr Kr))
  exact zB 20 [] ((k:Int)<(of.length:Int)) (λhq=>absurd hq (h3)) (λ_=>z7 [] Z4 (λw hO=>⟨by rw [show kH (yO xs) of=true from items_yes Om h2 (yQ (i:=k) Om hrel.2)],hO.below⟩))
 |false=>
  exact z7 [] Z5 (λw hO=>⟨by rw [show kH (yO xs) of=false from d6 (.inr (.inl h2))],hO.below⟩)
end
section
theorem eq_below {k:FuncId}{args:Array Value}{w:World}{v:Value}(h:Calls Tryz.prog k args w λe w'=>e= .returned v/\w=w'):Calls Tryz.prog k args w (YR v w):=h.mono λe w' ⟨q1,q2⟩=>⟨q1,q2▸Below.refl _ _⟩
theorem num_q (n:Int)(W:World):YC 110 #[YI n] W (YR (.bool (zP n)) W):=by
 unfold zP
 refine zE Tryz.func110 (zB 4 [] (n>=0) (λh=>zB 7 [] (n<=9999) (λh2=> ?_) (λh2=> ?_)) (λh=> ?_))
 ·exact z7 [] Z4 λw hO=>⟨by rw [decide_eq_true ⟨h,h2⟩],hO.below⟩
 ·exact z7 [] Z5 λw hO=>⟨by rw [decide_eq_false λq=>h2 q.2],hO.below⟩
 ·exact z7 [] Z5 λw hO=>⟨by rw [decide_eq_false λq=>h q.1],hO.below⟩
theorem numer_q (t:List UInt8)(W:World)(ht:t.length<=1000000):YC 169 #[.string (mkS t)] W (YR (.bool (vJ t)) W):=by
 have hno:∀ c∈t,yJ c.toNat=false->vJ t=false:=λc hc h=>by
  unfold vJ yK
  rw [List.all_eq_false.2 ⟨c,hc,by rw [h];decide⟩,Bool.and_false]
 refine zE Tryz.func169 (zO (α:=Nat) (λi=>[(0,.string (mkS t)),(3,YI (i:Int))]) (λ_=>[]) (λi m=>(i<=t.length∧∀ c∈t.take i,yJ c.toNat=true)/\m=t.length-i) 0 t.length [] ⟨⟨Nat.zero_le _,λc h=>by simp at h⟩,rfl⟩ ?_)
 rintro i mm g kk ⟨⟨hi,hd⟩,hmm⟩ nx hkk
 subst hkk
 refine zB 7 [] ((i:Int)<(t.length:Int)) (λh7=> ?_) (λh7=> ?_)
 rotate_left
 ·refine z7 [] (.bool (decide ((t.length:Int)>0))) λw hO=>⟨?_,hO.below⟩
  have ha:=yQ (p:=λc:UInt8=>yJ c.toNat=true) (show t.length<=i by omega) hd
  unfold vJ yK
  rw [List.all_eq_true.2 ha]
  cases t<;>simp
 have hj:i<t.length:=by omega
 have hst:=y9 (p:=λc:UInt8=>yJ c.toNat=true) hj hd
 have hn:=hno _ (List.getElem_mem hj)
 obtain ⟨c,hc⟩:∃ c,t[i]=c:=⟨_,rfl⟩
 rw [hc] at hst hn
 refine bV 12 [] t i hj c hc (zB 13 [] ((c.toNat:Int)<48) (λh=> ?_) (λh=>bV 17 [] t i hj c hc (zB 18 [] ((c.toNat:Int)>57) (λh2=> ?_) (λh2=> ?_))))
 ·exact z7 [] Z5 λw hO=>⟨by rw [hn (by unfold yJ;simp;omega)],hO.below⟩
 ·exact z7 [] Z5 λw hO=>⟨by rw [hn (by unfold yJ;simp;omega)],hO.below⟩
 ·exact x_i 9 [] ((i+1:Nat):Int) (nx (i+1) (t.length-(i+1)) [] Om ⟨⟨hj,hst (by unfold yJ;simp;omega)⟩,rfl⟩ Kr Kr)
theorem tag_q (t:List UInt8)(W:World):YC 167 #[.string (mkS t)] W (YR (.bool (kR t)) W):=by
 have hno:∀ c∈t,fZ c=false->kR t=false:=λc hc h=>by
  unfold kR
  rw [List.all_eq_false.2 ⟨c,hc,by rw [h];decide⟩,Bool.and_false]
 refine zE Tryz.func167 (zB 7 [] ((t.length:Int)<1) (λh=> ?_) (λh=>zB 11 [] ((t.length:Int)>8) (λh2=> ?_) (λh2=> ?_)))
 ·exact z7 [] Z5 λw hO=>⟨by unfold kR;rw [decide_eq_false Om];rfl,hO.below⟩
 ·exact z7 [] Z5 λw hO=>⟨by unfold kR;rw [decide_eq_false Om];rfl,hO.below⟩
 refine zO (α:=Nat) (λi=>[(0,.string (mkS t)),(3,YI (i:Int))]) (λ_=>[]) (λi m=>(i<=t.length∧∀ c∈t.take i,fZ c=true)/\m=t.length-i) 0 t.length [] ⟨⟨Nat.zero_le _,λc h=>by simp at h⟩,rfl⟩ ?_
 rintro i mm g kk ⟨⟨hi,hd⟩,hmm⟩ nx hkk
 subst hkk
 refine zB 16 [] ((i:Int)<(t.length:Int)) (λh7=> ?_) (λh7=> ?_)
 rotate_left
 ·refine z7 [] Z4 λw hO=>⟨?_,hO.below⟩
  unfold kR
  rw [decide_eq_true Om,List.all_eq_true.2 (yQ (p:=λc:UInt8=>fZ c=true) (show t.length<=i by omega) hd)];rfl
 have hj:i<t.length:=by omega
 have hst:=y9 (p:=λc:UInt8=>fZ c=true) hj hd
 have hn:=hno _ (List.getElem_mem hj)
 obtain ⟨c,hc⟩:∃ c,t[i]=c:=⟨_,rfl⟩
 rw [hc] at hst hn
 have hC:fZ c=(decide (97<=(c.toNat:Int)/\(c.toNat:Int)<=122)||decide (48<=(c.toNat:Int)/\(c.toNat:Int)<=57)||decide ((c.toNat:Int)=45)):=rfl
 rw [hC] at hst hn
 generalize (c.toNat:Int)=z at*
 have good:∀ m',m'=t.length-(i+1)->(decide (97<=z/\z<=122)||decide (48<=z/\z<=57)||decide (z=45))=true->(i+1<=t.length∧∀ c∈t.take (i+1),fZ c=true)/\m'=t.length-(i+1):=λm' e q=>⟨⟨hj,hst q⟩,e⟩
 refine bV 21 [] t i hj c hc (zB 23 [] (z<97) (λh1=>zB 30 [] (z<48) (λh3=>jW 38 [] (z=45) (λh5=> ?_) (λh5=> ?_)) (λh3=>zB 33 [] (z>57) (λh4=>jW 38 [] (z=45) (λh5=>absurd h5 (by omega)) (λh5=> ?_)) (λh4=> ?_))) (λh1=>zB 26 [] (z>122) (λh2=>zB 30 [] (z<48) (λh3=>absurd h3 (by omega)) (λh3=>zB 33 [] (z>57) (λh4=>jW 38 [] (z=45) (λh5=>absurd h5 (by omega)) (λh5=> ?_)) (λh4=>absurd h4 (by omega)))) (λh2=> ?_)))
 ·exact x_i 18 [] ((i+1:Nat):Int) (nx (i+1) _ [] Om (good _ rfl (by simp;omega)) Kr Kr)
 ·exact z7 [] Z5 λw hO=>⟨by rw [hn (by simp;omega)],hO.below⟩
 ·exact z7 [] Z5 λw hO=>⟨by rw [hn (by simp;omega)],hO.below⟩
 ·exact x_i 18 [] ((i+1:Nat):Int) (nx (i+1) _ [] Om (good _ rfl (by simp;omega)) Kr Kr)
 ·exact z7 [] Z5 λw hO=>⟨by rw [hn (by simp;omega)],hO.below⟩
 ·exact x_i 18 [] ((i+1:Nat):Int) (nx (i+1) _ [] Om (good _ rfl (by simp;omega)) Kr Kr)
theorem slt_elem {A:Option Addr}{cap:Nat}{l:List (List UInt8)}{ob:List Blk}(h:SlT (.slice A l.length cap) l ob){i:Nat}(hi:i<l.length):∃ g,A=some ⟨g,0,none⟩∧∀ {M:List Nat} {W:World} {L:List Blk} (w:World),Own M W w L->(∀ x∈ob,x∈L)->(loadVar 9 ⟨g,0+i*1+0,none⟩).run Tryz.prog w= .ok (.string (mkS l[i])) w:=by
 obtain ⟨g,cur,rfl,_⟩:=Sl.block h Om
 refine ⟨g,rfl,λw hO hs=> ?_⟩
 obtain ⟨b,o,e,hel⟩:=(SlT.reads h rfl hO hs).elem zX i hi
 simp only [Option.some.injEq,Addr.mk.injEq,and_true] at e
 obtain ⟨rfl,rfl⟩:=e
 exact hel w (Below.refl _ _) _ 0 _ Kr
theorem rnum_q (t:List UInt8)(W:World)(ht:t.length<=1000000):YC 168 #[.string (mkS t)] W (YR (.tuple #[YI (zI t),.bool (qA t)]) W):=eq_below (rnumber_mk t W (by unfold maxLen;omega))
theorem tags_q (s:List UInt8)(b:Bool)(W:World)(hs:s.length<=1000000):YC 111 #[.string (mkS s),.bool b] W (YR (.bool (nF s b)) W):=by
 have hT:s≠[]->nF s b=(decide ((pcs s).length<=4) && (pcs s).all (tagF b)):=λh=>by
  rw [tagsB_eq];cases s with
  |nil=>exact absurd rfl h
  |cons x r=>rfl
 have hln:=pcs_mem_len s
 refine zE Tryz.func111 (x2 10 [] s [] (λh=> ?_) (λh=> ?_))
 ·exact z7 [] Z4 λw hO=>⟨by rw [h];rfl,hO.below⟩
 have hT:=hT h
 rw [hT]
 refine kP (R:=λv ob=>SlT v (pcs s) ob) [] (λw hO=>(rsplit_own s w hs).mono λe w' ⟨v,ob,q1,q2,q3⟩=>⟨v,ob,q1,q2,q3⟩) ?_
 intro v ob hS
 obtain ⟨A,cap,rfl⟩:=SlT.form hS
 clear hT
 generalize pcs s=l at*
 refine zB 15 [] ((l.length:Int)>4) (λh4=> ?_) (λh4=> ?_)
 ·exact z7 [] Z5 λw hO=>⟨by rw [decide_eq_false Om];rfl,hO.below⟩
 rw [decide_eq_true (show l.length<=4 by omega),Bool.true_and]
 refine yT [] ([]++ob) (λw hO=>hO.past 0 _) (zO (α:=Nat) (λi=>[(1,.bool b),(5,.slice A l.length cap),(6,YI (i:Int))]) (λ_=>[]++ob) (λi m=>(i<=l.length∧∀ t∈l.take i,tagF b t=true)/\m=l.length-i) 0 l.length [] ⟨⟨Nat.zero_le _,λc h=>by simp at h⟩,rfl⟩ ?_)
 rintro i mm g kk ⟨⟨hi,hd⟩,hmm⟩ nx hkk
 subst hkk
 refine zB 19 [] ((i:Int)<(l.length:Int)) (λh7=> ?_) (λh7=> ?_)
 rotate_left
 ·exact z7 [] Z4 λw hO=>⟨by rw [List.all_eq_true.2 (yQ (p:=λt=>tagF b t=true) (show l.length<=i by omega) hd)],hO.below⟩
 have hj:i<l.length:=by omega
 have hst:=y9 (p:=λt=>tagF b t=true) hj hd
 have hn:tagF b l[i]=false->l.all (tagF b)=false:=λq=>all_cut i hj q
 have htl:l[i].length<=1000000:=by have:=hln _ (List.getElem_mem hj);omega
 obtain ⟨ga,rfl,hel⟩:=slt_elem hS hj
 have hF:tagF b l[i]=(kR l[i] && !(b && vJ l[i] && !qA l[i])):=rfl
 rw [hF] at hst hn
 generalize l[i]=t at*
 have ld:∀ w,Own [] W w ([]++ob)->(loadVar 9 ⟨ga,0+i*1+0,none⟩).run Tryz.prog w= .ok (.string (mkS t)) w:=λw hO=>hel w hO (λx hx=>hx)
 refine zJ 24 [] (b:=ga) (off:=0) rfl l.length cap i 1 hj (zH 25 [] 9 ga (0+i*1+0) (.string (mkS t)) (λw hO=>ld w (hO.past 0 _)) (z8 (v:= .bool (kR t)) [] (λw hO=>tag_q t w) (zU 26 (kR t) (λg1=> ?_) (λg1=> ?_))))
 rotate_left
 ·exact z7 [] Z5 λw hO=>⟨by rw [hn (by rw [g1];rfl)],hO.below⟩
 refine zJ 31 [] (b:=ga) (off:=0) rfl l.length cap i 1 hj (zH 32 [] 9 ga (0+i*1+0) (.string (mkS t)) (λw hO=>ld w (hO.past 0 _)) (z8 (v:= .tuple #[YI (zI t),.bool (qA t)]) [] (λw hO=>rnum_q t w htl) (x_bb 37 [] b (λg2=> ?_) (λg2=> ?_))))
 rotate_left
 ·exact x_i 21 [] ((i+1:Nat):Int) (nx (i+1) (l.length-(i+1)) [] Om ⟨⟨hj,hst (by rw [g1,g2];rfl)⟩,rfl⟩ Kr Kr)
 refine zJ 40 [] (b:=ga) (off:=0) rfl l.length cap i 1 hj (zH 41 [] 9 ga (0+i*1+0) (.string (mkS t)) (λw hO=>ld w (hO.past 0 _)) (z8 (v:= .bool (vJ t)) [] (λw hO=>numer_q t w htl) (x_bb 43 [] (vJ t) (λg3=>x_bb 46 [] (!qA t) (λg4=> ?_) (λg4=> ?_)) (λg3=> ?_))))
 ·exact z7 [] Z5 λw hO=>⟨by rw [hn (by rw [g1,g2,g3,g4];rfl)],hO.below⟩
 ·exact x_i 21 [] ((i+1:Nat):Int) (nx (i+1) (l.length-(i+1)) [] Om ⟨⟨hj,hst (by rw [g1,g2,g3,g4];rfl)⟩,rfl⟩ Kr Kr)
 ·exact x_i 21 [] ((i+1:Nat):Int) (nx (i+1) (l.length-(i+1)) [] Om ⟨⟨hj,hst (by rw [g1,g2,g3];rfl)⟩,rfl⟩ Kr Kr)
theorem rmayQ_any (v:Ver)(W:World)(hp:v.pre.length<=1000000)(hq:v.build.length<=1000000):YC 60 #[k8 v] W (YR (.bool v.may) W):=by
 have hM:v.may=(zP v.maj && zP v.min && zP v.pat && nF v.pre true && nF v.build false):=by rw [tagsB_pre,tagsB_build];rfl
 rw [hM]
 have cP:=λw=>tags_q v.pre true w hp
 have cQ:=λw=>tags_q v.build false w hq
 have hno:∀ w,Below W.heap.size W w→∀ b,b=false->Ending.returned (.bool false)= .returned (.bool b)/\Below W.heap.size W w:=λw hb b e=>⟨by rw [e],hb⟩
 refine zE Tryz.func60 (yN [] λb1=>z8 (v:= .bool (zP v.maj)) [0] (λw hO=>num_q v.maj w) (zU 5 (zP v.maj) (λg1=>z8 (v:= .bool (zP v.min)) [0] (λw hO=>num_q v.min w) (zU 9 (zP v.min) (λg2=>z8 (v:= .bool (zP v.pat)) [0] (λw hO=>num_q v.pat w) (zU 14 (zP v.pat) (λg3=>z8 (v:= .bool (nF v.pre true)) [0] (λw hO=>cP w) (zU 19 (nF v.pre true) (λg4=>z8 (v:= .bool (nF v.build false)) [0] (λw hO=>cQ w) (z7 [] (.bool (nF v.build false)) λw hO=>⟨by rw [g1,g2,g3,g4];rfl,hO.below⟩)) (λg4=> ?_))) (λg3=> ?_))) (λg2=> ?_))) (λg1=> ?_)))
 ·exact z7 [] Z5 λw hO=>hno w hO.below _ (by rw [g4];simp)
 ·exact z7 [] Z5 λw hO=>hno w hO.below _ (by rw [g3];simp)
 ·exact z7 [] Z5 λw hO=>hno w hO.below _ (by rw [g2];simp)
 ·exact z7 [] Z5 λw hO=>hno w hO.below _ (by rw [g1];simp)
end
section
end
section
abbrev ZQ (x:Co):Array Value:= #[YI x.op,YI x.parts,YI x.v.maj,YI x.v.min,YI x.v.pat,.string (mkS x.v.pre),.string (mkS x.v.build)]
def coV (c:Co):Value:= .agg #[YI c.op,YI c.parts,YI c.v.maj,YI c.v.min,YI c.v.pat,.string (mkS c.v.pre),.string (mkS c.v.build)]
def Co.short (c:Co):Prop:=c.v.short
def toldV (p:Int)(v:Ver):Ver:=⟨if p<1 then 0 else v.maj,if p<2 then 0 else v.min,if p<3 then 0 else v.pat,if p<3 then [] else v.pre,[]⟩
def genCo (l:List Int)(i:Nat):Co:=
 ⟨1+plc (atL l (i+5)) 9,if 1+plc (atL l (i+5)) 9=9 then plc (atL l (i+6)) 3 else 1+plc (atL l (i+6)) 3,toldV (if 1+plc (atL l (i+5)) 9=9 then plc (atL l (i+6)) 3 else 1+plc (atL l (i+6)) 3) (genV l i)⟩
end
section
end
section
def ordSp (c d:Cu):Sp:=if 0<vW c d then ⟨d,c⟩ else ⟨c,d⟩
def spG (l:List Int)(i n:Nat):Sp:=ordSp (genC l (i+12*n-11)) (genC l (i+12*n-5))
def spansG (l:List Int)(i:Nat):Nat->List Sp
 |0=>[]
 |n+1=>(if (spG l i (n+1)).may then [spG l i (n+1)] else [])++spansG l i n
end
section
def rowG (l:List Int)(i:Nat):List Sp:=makeL (spansG l i (plc (atL l i) (4+1:Nat)).toNat)
end
section
end
section
end
section
def highZ (v:Ver)(z:Int):Cu:=if z<0 then d9 1 else highC v z.toNat
theorem rcMay_any (c:Co)(W:World)(hc:c.short):YC 189 #[coV c] W (YR (.bool c.may) W):=by
 obtain ⟨op,parts,v⟩:=c
 have hm:= @Co.may_iff ⟨op,parts,v⟩
 simp only at hm
 have no:∀ w,Below W.heap.size W w→¬ (Co.may ⟨op,parts,v⟩=true)->Ending.returned (.bool false)= .returned (.bool (Co.may ⟨op,parts,v⟩))/\Below W.heap.size W w:=λw hb h=>⟨by rw [Bool.eq_false_iff.2 h],hb⟩
 have hmay:∀ w,YC 60 #[k8 v] w (YR (.bool v.may) w):=λw=>rmayQ_any v w hc.1 hc.2
 refine zE Tryz.func189 (yN [] λb1=>zB 7 [0] (op<1) (λh1=>(z7 [] Z5 λw hO=>no w hO.below λq=>by have:=hm.1 q;grind)) (λh1=>zB 11 [0] (op>9) (λh2=>(z7 [] Z5 λw hO=>no w hO.below λq=>by have:=hm.1 q;grind)) (λh2=>z8 (v:= .bool v.may) [0] (λw hO=>hmay w) (zU 16 v.may (λe3=>gX 23 [0] v.build [] (λh4=> ?_) (λh4=>(z7 [] Z5 λw hO=>no w hO.below λq=>by have:=hm.1 q;grind))) (λe3=>(z7 [] Z5 λw hO=>no w hO.below λq=>by have:=hm.1 q;grind))))))
 refine dB 27 (α:=Int×Int) (λq=>[(1,Zp b1 0),(3,YI q.1),(4,YI q.2)]) (λ_=>[⟨b1,(coV ⟨op,parts,v⟩).cells,166⟩]) (λq=>(op=9->q.1=0/\q.2=2)/\(¬ op=9->q.1=1/\q.2=3)) [0] (λnj=>x_now 27 (op=9) (λh=>nj (0,2) [] ⟨λ_=>⟨rfl,rfl⟩,λq=>absurd h q⟩ Kr) (λh=>nj (1,3) [] ⟨λq=>absurd q h,λ_=>⟨rfl,rfl⟩⟩ Kr)) ?_
 rintro ⟨lo,hi⟩ g hr
 simp only at hr
 refine zB 31 [0] (parts<lo) (λh5=>(z7 [] Z5 λw hO=>no w hO.below λq=>by have:=hm.1 q;grind)) (λh5=>zB 36 [0] (parts>hi) (λh6=>(z7 [] Z5 λw hO=>no w hO.below λq=>by have:=hm.1 q;grind)) (λh6=> ?_))
 rcases (by omega:parts=0\/parts=1\/parts=2\/parts=3) with rfl|rfl|rfl|rfl
 ·exact gX 46 [0,0] v.pre [] (λh8=>zB 56 [0,0] (v.maj=0) (λa1=>zB 66 [0,0] (v.min=0) (λa2=>zB 77 [0,0] (v.pat=0) (λa3=>(z7 [] Z4 λw hO=>⟨by rw [hm.2 ⟨by omega,e3,h4,by omega,by omega,by first|exact .inl Om|exact .inr h8,by omega,by omega,by omega⟩],hO.below⟩)) (λa3=>(z7 [] Z5 λw hO=>no w hO.below λq=>by have:=hm.1 q;grind))) (λa2=>(z7 [] Z5 λw hO=>no w hO.below λq=>by have:=hm.1 q;grind))) (λa1=>(z7 [] Z5 λw hO=>no w hO.below λq=>by have:=hm.1 q;grind))) (λh8=>(z7 [] Z5 λw hO=>no w hO.below λq=>by have:=hm.1 q;grind))
 ·exact gX 46 [0,0] v.pre [] (λh8=>zB 66 [0,0,0] (v.min=0) (λa2=>zB 77 [0,0] (v.pat=0) (λa3=>(z7 [] Z4 λw hO=>⟨by rw [hm.2 ⟨by omega,e3,h4,by omega,by omega,by first|exact .inl Om|exact .inr h8,by omega,by omega,by omega⟩],hO.below⟩)) (λa3=>(z7 [] Z5 λw hO=>no w hO.below λq=>by have:=hm.1 q;grind))) (λa2=>(z7 [] Z5 λw hO=>no w hO.below λq=>by have:=hm.1 q;grind))) (λh8=>(z7 [] Z5 λw hO=>no w hO.below λq=>by have:=hm.1 q;grind))
 ·exact gX 46 [0,0] v.pre [] (λh8=>zB 77 [0,0,0,0] (v.pat=0) (λa3=>(z7 [] Z4 λw hO=>⟨by rw [hm.2 ⟨by omega,e3,h4,by omega,by omega,by first|exact .inl Om|exact .inr h8,by omega,by omega,by omega⟩],hO.below⟩)) (λa3=>(z7 [] Z5 λw hO=>no w hO.below λq=>by have:=hm.1 q;grind))) (λh8=>(z7 [] Z5 λw hO=>no w hO.below λq=>by have:=hm.1 q;grind))
 ·exact z7 [0,0,0,0] Z4 λw hO=>⟨by rw [hm.2 ⟨by omega,e3,h4,by omega,by omega,by first|exact .inl Om|exact .inr h8,by omega,by omega,by omega⟩],hO.below⟩
theorem rcsign_any (op:Int)(W:World):YC 191 #[YI op] W (YR (.string (mkS (y7 op))) W):=by
 exact zE Tryz.func191 (zB 5 [] (op=1) (λh=>z7 [] (.string (mkS [61])) λw hO=>⟨by subst h;rfl,hO.below⟩) (λh1=>zB 7 [] (op=2) (λh=>z7 [] (.string (mkS [33,61])) λw hO=>⟨by subst h;rfl,hO.below⟩) (λh2=>zB 9 [] (op=3) (λh=>z7 [] (.string (mkS [60])) λw hO=>⟨by subst h;rfl,hO.below⟩) (λh3=>zB 11 [] (op=4) (λh=>z7 [] (.string (mkS [60,61])) λw hO=>⟨by subst h;rfl,hO.below⟩) (λh4=>zB 13 [] (op=5) (λh=>z7 [] (.string (mkS [62])) λw hO=>⟨by subst h;rfl,hO.below⟩) (λh5=>zB 15 [] (op=6) (λh=>z7 [] (.string (mkS [62,61])) λw hO=>⟨by subst h;rfl,hO.below⟩) (λh6=>zB 17 [] (op=7) (λh=>z7 [] (.string (mkS [94])) λw hO=>⟨by subst h;rfl,hO.below⟩) (λh7=>zB 19 [] (op=8) (λh=>z7 [] (.string (mkS [126])) λw hO=>⟨by subst h;rfl,hO.below⟩) (λh8=>z7 [] (.string (mkS [])) λw hO=>⟨by unfold y7;rw [if_neg h1,if_neg h2,if_neg h3,if_neg h4,if_neg h5,if_neg h6,if_neg h7,if_neg h8],hO.below⟩)))))))))
theorem rcbegins_any (s t:List UInt8)(W:World):YC 346 #[.string (mkS s),.string (mkS t)] W (YR (.bool (yL s t)) W):=by
 have hs:=zQ s
 have ht:=zQ t
 refine Z2 (n:=18) Tryz.func346 rfl (ZO (Zv Z5 (ZR (Zv (.string (mkS s)) (Zv (YI ((mkS s).size)) (Zv (.string (mkS t)) (Zv (YI ((mkS t).size)) ?_)))))))
 by_cases h1:((mkS t).size:Int)<=(mkS s).size
 ·refine Zg h1 (Zv Z4 (Zv (.string (mkS s)) (Zv (.string (mkS t)) (Zv (YI ((mkS t).size)) (kC (.string (mkS (s.take (mkS t).size))) Kr (run_strhi (s:=s) (k:= .i64) (j:=((mkS t).size:Int)) rfl Kr Kr Tryz.underlying9 Om Om) (Zv (.string (mkS t)) ?_))))))
  by_cases h2:((s.take (mkS t).size):List UInt8)=t
  ·exact kC Z4 Kr (gE (a:=(s.take (mkS t).size)) (b:=t) rfl Kr Kr (decide_eq_true (h2))) (Zv Z4 (Zv Z4 (ZN (kG (ZF Z4 Tryz.results346 (λw hO=>⟨by rw [show yL s t=true from decide_eq_true (by rw [←ht];assumption)],hO.below⟩))))))
  exact kC Z5 Kr (gE (a:=(s.take (mkS t).size)) (b:=t) rfl Kr Kr (decide_eq_false (h2))) (Zv Z5 (Zv Z5 (ZN (kG (ZF Z5 Tryz.results346 (λw hO=>⟨by rw [show yL s t=false from decide_eq_false (by rw [←ht];assumption)],hO.below⟩))))))
 refine Zh h1 (Zv Z5 (Zk (Zk (Zk (Zk (Zk (Zk (Zv Z5 (Zv Z5 (dN (g7 ?_)))))))))))
 exact kG (ZF Z5 Tryz.results346 (λw hO=>⟨by rw [show yL s t=false from decide_eq_false λq0=>by have q1:=congrArg List.length q0;rw [List.length_take] at q1;omega],hO.below⟩))
end
section
end
section
def triV (l:List (List UInt8)):Ver:=if l.length=3 then ⟨zI (tg l 0),zI (tg l 1),zI (tg l 2),[],[]⟩ else Ver.zero
def triB (l:List (List UInt8)):Bool:=decide (l.length=3) && (qA (tg l 0) && qA (tg l 1) && qA (tg l 2))
theorem one_keep {w w' w2:World}{v1 v2 v3:Value}(hS:w'.cell? ⟨w.heap.size,0,none⟩=some v1/\w'.cell? ⟨w.heap.size,1,none⟩=some v2/\w'.cell? ⟨w.heap.size,2,none⟩=some v3/\Below w.heap.size w w'/\w.heap.size<w'.heap.size)(hb:Below w'.heap.size w' w2):w2.cell? ⟨w.heap.size,0,none⟩=some v1/\w2.cell? ⟨w.heap.size,1,none⟩=some v2/\w2.cell? ⟨w.heap.size,2,none⟩=some v3/\Below w.heap.size w w2/\w.heap.size<w2.heap.size:=by
 obtain ⟨a0,a1,a2,h,hA⟩:=hS
 have k:∀ C i v,C<w'.heap.size->w'.cell? ⟨C,i,none⟩=some v->w2.cell? ⟨C,i,none⟩=some v:=λC i v hC e=>(hb.cell (p:=⟨C,i,none⟩) hC).trans e
 exact ⟨k _ _ _ hA a0,k _ _ _ hA a1,k _ _ _ hA a2,h.trans (hb.mono h.size),Nat.lt_of_lt_of_le hA hb.size⟩
theorem one_start (w:World)(v1 v2 v3 v4 v5:Value)(T:TypeId):(w.alloc (.cells #[v1,v2,v3,v4,v5] T)).drew.cell? ⟨w.heap.size,0,none⟩=some v1/\(w.alloc (.cells #[v1,v2,v3,v4,v5] T)).drew.cell? ⟨w.heap.size,1,none⟩=some v2/\(w.alloc (.cells #[v1,v2,v3,v4,v5] T)).drew.cell? ⟨w.heap.size,2,none⟩=some v3/\Below w.heap.size w (w.alloc (.cells #[v1,v2,v3,v4,v5] T)).drew/\w.heap.size<(w.alloc (.cells #[v1,v2,v3,v4,v5] T)).drew.heap.size:=by
 have h0:(w.alloc (.cells #[v1,v2,v3,v4,v5] T)).drew.heap[w.heap.size]?=some (.cells #[v1,v2,v3,v4,v5] T):=dY w _
 have k0:∀ i v,(#[v1,v2,v3,v4,v5]:Array Value)[i]?=some v->(w.alloc (.cells #[v1,v2,v3,v4,v5] T)).drew.cell? ⟨w.heap.size,i,none⟩=some v:=λi v e=>(cell_of_row _ _ i _ _ _ h0).trans e
 have hs:(w.alloc (.cells #[v1,v2,v3,v4,v5] T)).drew.heap.size=w.heap.size+1:=wA w _
 have hB:Below w.heap.size w (w.alloc (.cells #[v1,v2,v3,v4,v5] T)):=(Below.refl _ w).alloc (Nat.le_refl _) _
 exact ⟨k0 0 _ rfl,k0 1 _ rfl,k0 2 _ rfl,hB.drew,by omega⟩
theorem d2 (n:Int)(h:zP n=true)(w:World):
  YC 232 #[YI n] w (YR (.string (mkS (Lib.itoa n))) w):=by
 unfold zP at h;simp at h
 exact rdigits_any n Om Om w
theorem numsL_mk (a b c:Int)(p q:List UInt8):mkS (bT ⟨a,b,c,p,q⟩)=mkS (Lib.itoa a)++⟨#[46]⟩++mkS (Lib.itoa b)++⟨#[46]⟩++mkS (Lib.itoa c):=by
 rw [show (⟨#[46]⟩:ByteArray)=mkS [46] from rfl,yZ,yZ,yZ,yZ]
 congr 1
 unfold bT
 simp
theorem rnumbers_any (v:Ver)(w:World)(h1:zP v.maj=true)(h2:zP v.min=true)(h3:zP v.pat=true):
  YC 178 #[k8 v] w (YR (.string (mkS (bT v))) w):=by
 obtain ⟨a,b,c,p,q⟩:=v
 have HN:=Lib.hid (numsL_mk a b c p q)
 dsimp only at h1 h2 h3
 have cA:=λw'=>d2 a h1 w'
 have cB:=λw'=>d2 b h2 w'
 have cC:=λw'=>d2 c h3 w'
 have la:=mA h1
 have lb:=mA h2
 have lc:=mA h3
 rw [←zQ] at la lb lc
 unfold k8
 dsimp only
 obtain ⟨x,hx⟩:∃ x,mkS (Lib.itoa a)=x:=⟨_,rfl⟩
 obtain ⟨y,hy⟩:∃ x,mkS (Lib.itoa b)=x:=⟨_,rfl⟩
 obtain ⟨z,hz⟩:∃ x,mkS (Lib.itoa c)=x:=⟨_,rfl⟩
 rw [hx] at cA la HN
 rw [hy] at cB lb HN
 rw [hz] at cC lc HN
 clear hx hy hz h1 h2 h3
 have s1:(x++(⟨#[46]⟩:ByteArray)).size<=5:=by rw [ByteArray.size_append];show x.size+1<=5;omega
 have s2:(x++(⟨#[46]⟩:ByteArray)++y).size<=9:=by rw [ByteArray.size_append];omega
 have s3:(x++(⟨#[46]⟩:ByteArray)++y++(⟨#[46]⟩:ByteArray)).size<=10:=by rw [ByteArray.size_append];show _+1<=10;omega
 go_enter Tryz.func178,Tryz.ntmps178
 go_wp2_with fail
 have hS0:=one_start w (YI a) (YI b) (YI c) (.string (mkS p)) (.string (mkS q)) 23
 go_region_with (first
   |(go_at_call 232;with_reducible refine (cA _).mono ?_;rintro e w1 ⟨rfl,hb1⟩;have hS1:=one_keep ‹_› hb1)
   |(go_at_call 232;with_reducible refine (cB _).mono ?_;rintro e w2 ⟨rfl,hb2⟩;have hS2:=one_keep ‹_› hb2))
 all_goals
  obtain ⟨_,_,k1,hbk1,_⟩:=hS1
  obtain ⟨_,_,k2,hbk2,_⟩:=hS2
  go_wp2_with (go_at_call 232;refine (cC _).mono ?_;rintro e w3 ⟨rfl,hb3⟩)
  go_ret
  first
   |exact ⟨wI HN.out.symm,hbk2.trans (hb3.mono hbk2.size)⟩
   |exact ⟨wI HN.out.symm,hbk1.trans (hb3.mono hbk1.size)⟩
theorem rprint_good (v:Ver)(w:World)(hp:v.pre.length<=1000000)(hq:v.build.length<=1000000)(hm:v.may=true):
  YC 116 #[k8 v] w (YR (.string (mkS v.text)) w):=by
 have cM:=λw'=>rmayQ_any v w' hp hq
 obtain ⟨n1,n2,n3⟩:=qB hm
 have cN:=λw'=>rnumbers_any v w' n1 n2 n3
 have hT:v.text=bT v++xR 45 v.pre++xR 43 v.build:=rfl
 have hnl:(bT v).length<=14:=nums_len n1 n2 n3
 obtain ⟨J,hJ⟩:∃ J,bT v=J:=⟨_,rfl⟩
 rw [hJ] at cN hT hnl
 obtain ⟨a,b,c,p,q⟩:=v
 rw [hm] at cM
 unfold k8 at cN cM ⊢
 dsimp only at cN cM hp hq hT ⊢
 have HT:=Lib.hid hT
 clear hT hm n1 n2 n3 hJ
 have hj0:(mkS J).size<=14:=by rw [zQ];exact hnl
 have hp0:(mkS p).size<=1000000:=by rw [zQ];exact hp
 have hq0:(mkS q).size<=1000000:=by rw [zQ];exact hq
 have hj1:(mkS J++(⟨#[45]⟩:ByteArray)).size<=15:=by rw [ByteArray.size_append];show _+1<=_;omega
 have hj2:(mkS J++(⟨#[45]⟩:ByteArray)++mkS p).size<=1000015:=by rw [ByteArray.size_append];omega
 have hj3:(mkS J++(⟨#[45]⟩:ByteArray)++mkS p++(⟨#[43]⟩:ByteArray)).size<=1000016:=by rw [ByteArray.size_append];show _+1<=_;omega
 have hj4:(mkS J++(⟨#[43]⟩:ByteArray)).size<=15:=by rw [ByteArray.size_append];show _+1<=_;omega
 have hpe0:(mkS p).toList.isEmpty=p.isEmpty:=by rw [Lib.toList_data,mk_data]
 have hqe0:(mkS q).toList.isEmpty=q.isEmpty:=by rw [Lib.toList_data,mk_data]
 have hcase:(p.isEmpty=true/\xR 45 p=[]\/p.isEmpty=false/\xR 45 p=45::p)/\(q.isEmpty=true/\xR 43 q=[]\/q.isEmpty=false/\xR 43 q=43::q):=by
  unfold xR;cases p<;>cases q<;>simp
 obtain ⟨hc1,hc2⟩:=hcase
 rcases hc1 with ⟨e1,t1⟩|⟨e1,t1⟩<;>rcases hc2 with ⟨e2,t2⟩|⟨e2,t2⟩
 all_goals
  rw [e1] at hpe0
  rw [e2] at hqe0
  have T1:=Lib.hid t1
  have T2:=Lib.hid t2
  clear t1 t2 e1 e2
  go_enter Tryz.func116,Tryz.ntmps116
  go_wp2_with fail
  refine (cM _).mono ?_
  rintro e w1 ⟨rfl,hb1⟩
  have hg1:=Lib.hid ((hb1.block w.heap.size (by simp)).trans (dY w _))
  have hbw1:Below w.heap.size w w1:=((Below.refl _ _).alloc (Nat.le_refl _) _).trans (hb1.mono (by simp))
  have hsw:w.heap.size<w1.heap.size:=by have:=hb1.size;rw [wA] at this;omega
  go_wp2_with (first
   |(refine wpList_load_row rfl 23 _ rfl w.heap.size rfl _ _ _ _ hg1.out Tryz.underlying23 rfl Kr ?_)
   |(go_at_call 178;refine (cN _).mono ?_;rintro e w2 ⟨rfl,hb2⟩;obtain ⟨c3,f3⟩:=qD (j:=3) ((hb2.block w.heap.size hsw).trans hg1.out) (by simp);obtain ⟨c4,f4⟩:=qD (j:=4) ((hb2.block w.heap.size hsw).trans hg1.out) (by simp);simp only [List.getElem_toArray,List.getElem_cons_succ,List.getElem_cons_zero] at c3 c4))
  go_ret
  exact ⟨wI (by
   rw [HT.out,T1.out,T2.out];try rw [show (⟨#[45]⟩:ByteArray)=mkS [45] from rfl]
   try rw [show (⟨#[43]⟩:ByteArray)=mkS [43] from rfl]
   simp [yZ]),hbw1.trans (hb2.mono hbw1.size)⟩
theorem rprint_none (v:Ver)(w:World)(hp:v.pre.length<=1000000)(hq:v.build.length<=1000000)(hm:v.may=false):
  YC 116 #[k8 v] w (YR (.string (mkS [])) w):=by
 have cM:=λw'=>rmayQ_any v w' hp hq
 rw [hm] at cM
 obtain ⟨a,b,c,p,q⟩:=v
 unfold k8 at cM ⊢
 dsimp only at cM ⊢
 clear hm
 go_enter Tryz.func116,Tryz.ntmps116
 go_wp2_with (go_at_call 60;refine (cM _).mono ?_;rintro e w1 ⟨rfl,hb1⟩)
 go_ret
 exact ⟨rfl,((Below.refl _ _).alloc (Nat.le_refl _) _).trans (hb1.mono (by simp))⟩
theorem rprint_any (v:Ver)(w:World)(hp:v.pre.length<=1000000)(hq:v.build.length<=1000000):
  YC 116 #[k8 v] w (YR (.string (mkS v.print)) w):=by
 cases hm:v.may with
 |true=>rw [print_eq hm];exact rprint_good v w hp hq hm
 |false=>rw [print_bad hm];exact rprint_none v w hp hq hm
end
section
theorem signL_len (op:Int):(y7 op).length<=2:=by
 unfold y7
 repeat' split
 all_goals decide
theorem join_len (b:UInt8)(m:Nat):∀ (l:List (List UInt8)),(∀ x∈l,x.length<=m)->(zG b l).length<=l.length*(m+1)
 | [],_=>by simp [zG]
 | [x],h=>by
  have:=h x (List.mem_singleton.2 rfl)
  simp [zG];omega
 |x::y::r,h=>by
  have h1:=h x (List.mem_cons_self ..)
  have h2:=join_len b m (y::r) λz hz=>h z (List.mem_cons_of_mem _ hz)
  rw [zG,List.length_append,List.length_cons]
  simp only [List.length_cons,Nat.add_mul] at h2 ⊢
  omega
theorem nums_len9 {v:Ver}(hv:v.may=true){n:Nat}:∀ x∈zZ v n,x.length<=21:=λx hx=>by
 obtain ⟨k,hk,rfl⟩:=nums_mem hv hx
 have:=mA hk
 omega
theorem tN (v:Ver)(n:Nat):(zZ v n).length<=3:=by unfold zZ;rw [List.length_take];simp;omega
theorem njoin_len {v:Ver}(hv:v.may=true)(n:Nat):(zG 46 (zZ v n)).length<=100:=by
 have h:=join_len 46 21 (zZ v n) (nums_len9 hv)
 have:=tN v n
 omega
theorem sjoin_len {v:Ver}(hv:v.may=true)(n:Nat):(zG 46 (zZ v n++[[42]])).length<=200:=by
 have h:=join_len 46 21 (zZ v n++[[42]]) (λx hx=>by
  rcases List.mem_append.1 hx with hx|hx
  ·exact nums_len9 hv x hx
  ·rw [List.mem_singleton.1 hx];decide)
 have:=tN v n
 rw [List.length_append] at h
 simp at h;omega
def tD (v:Ver):Array Value:= #[.string (mkS (Lib.itoa v.maj)),.string (mkS (Lib.itoa v.min)),.string (mkS (Lib.itoa v.pat))]
theorem told_take (v:Ver){n:Nat}(h:n<=3):(tD v).toList.take (n*1)=jM (zZ v n):=by
 rw [Nat.mul_one]
 unfold jM zZ
 rw [List.map_take];rfl
theorem told_slt (v:Ver){n:Nat}(h:n<=3)(g:Nat):SlT (.slice (some ⟨g,0,none⟩) n 3) (zZ v n) [⟨g,tD v,9⟩]:=by
 have e:=jP v h
 refine ⟨by rw [wT,e];omega,.inr ⟨g,3,tD v,by rw [e],rfl,by rw [e];exact h,by decide,rfl, ?_⟩⟩
 rw [e];exact told_take v h
theorem parts_nat {c:Co}(h:c.may=true):((c.parts.toNat:Nat):Int)=c.parts/\c.parts.toNat<=3:=by
 obtain ⟨_,_,_,h9,hn,_⟩:=Co.facts h
 by_cases e:c.op=9
 ·have:=h9 e;omega
 ·have:=hn e;omega
theorem star_text {c:Co}(h9:c.op=9):zG 46 (zZ c.v c.parts.toNat++[[42]])=c.text:=by
 unfold Co.text Co.rest
 rw [h9,if_pos rfl];rfl
theorem text_pre {c:Co}(h9:¬ c.op=9)(hp:¬ c.v.pre=[]):y7 c.op++zG 46 (zZ c.v c.parts.toNat)++[45]++c.v.pre=c.text:=by
 unfold Co.text Co.rest xR
 rw [if_neg h9]
 cases hq:c.v.pre with
 |nil=>exact absurd hq hp
 |cons a r=>simp
theorem text_bare {c:Co}(h9:¬ c.op=9)(hp:c.v.pre=[]):y7 c.op++zG 46 (zZ c.v c.parts.toNat)=c.text:=by
 unfold Co.text Co.rest xR
 rw [if_neg h9,hp];simp
theorem rctold_any (c:Co)(W:World)(hc:c.short)(hm:c.may=true):YC 190 #[coV c] W λe w'=>∃ v' ob',e= .returned v'/\(∃ g,v'= .slice (some ⟨g,0,none⟩) c.parts.toNat 3/\ob'=[⟨g,tD c.v,9⟩])/\Own [] W w' ob':=by
 obtain ⟨m1,m2,m3⟩:=qB (Co.facts hm).2.1
 have hpn:=parts_nat hm
 exact zE Tryz.func190 (yN [] λb1=>x_draw 13 [] (kY [0,0,0] 3 (z8 (k:=232) (args:= #[YI c.v.maj]) (v:= .string (mkS (Lib.itoa c.v.maj))) [] (λw _=>d2 c.v.maj m1 w) (kY [] 7 (z8 (k:=232) (args:= #[YI c.v.min]) (v:= .string (mkS (Lib.itoa c.v.min))) [] (λw _=>d2 c.v.min m2 w) (kY [] 11 (z8 (k:=232) (args:= #[YI c.v.pat]) (v:= .string (mkS (Lib.itoa c.v.pat))) [] (λw _=>d2 c.v.pat m3 w) (kY [] 12 (fE 3 9 (tD c.v) λb2=>x_slhi 20 [1] (A:=some ⟨b2,0,none⟩) rfl 3 3 1 c.parts Om Om (.slice (some ⟨b2,0,none⟩) c.parts.toNat 3) rfl (z7 [] (.slice (some ⟨b2,0,none⟩) c.parts.toNat 3) λw hO=>⟨_,_,rfl,⟨b2,rfl,rfl⟩,Own.nth 0 ⟨b2,tD c.v,9⟩ hO⟩))))))))))
theorem rcPrint_any (c:Co)(W:World)(hc:c.short):YC 137 #[coV c] W (YR (.string (mkS c.print)) W):=by
 refine zE Tryz.func137 (yN [] λb1=>z8 (k:=189) (args:= #[coV c]) (v:= .bool c.may) [0] (λw _=>rcMay_any c w hc) ?_)
 cases hcm:c.may with
 |false=>exact z7 [] (.string (mkS [])) λw hO=>⟨by unfold Co.print;simp [hcm],hO.below⟩
 |true=>
  have hcv:=(Co.facts hcm).2.1
  have hpn:=parts_nat hcm
  have q1:=signL_len c.op
  have q2:=njoin_len hcv c.parts.toNat
  have q3:=hc.1
  refine kP (R:=λv' ob'=>∃ g,v'= .slice (some ⟨g,0,none⟩) c.parts.toNat 3/\ob'=[⟨g,tD c.v,9⟩]) [0] (λw hO=>rctold_any c w hc hcm) ?_
  rintro v' ob' ⟨g1,rfl,rfl⟩
  refine zB 12 [0] (c.op=9) (λh2=> ?_) (λh2=> ?_)
  ·refine x_slhm 18 [0,0] g1 c.parts.toNat 3 1 c.parts c.parts Om (.slice (some ⟨g1,0,none⟩) c.parts.toNat c.parts.toNat) rfl (qO [] 1 9 #[.string ⟨#[42]⟩] λb2=>x_appF (N:=c.parts.toNat) (cap:=c.parts.toNat) (m:=1) (cp:=1) (sz:=1) (T:=9) [] 2 0 [⟨b2, #[.string ⟨#[42]⟩],9⟩,⟨b1,(coV c).cells,166⟩,⟨g1,tD c.v,9⟩] (by show c.parts.toNat*1<=3;omega) Om Om λva oa hva0=> ?_)
   have hva:SlT va (zZ c.v c.parts.toNat++[[42]]) oa:=Sl.to hva0 (by rw [List.length_append,jP c.v hpn.2];rfl) (by show (tD c.v).toList.take _++_=_;rw [told_take c.v hpn.2];unfold jM;rw [List.map_append];rfl)
   exact z8 (k:=119) (args:= #[va,.int .u8 46]) (v:= .string (mkS (zG 46 (zZ c.v c.parts.toNat++[[42]])))) [] (λw hO=>rjoin_any va _ 46 w (SlT.readsT hva (hO.past 0 (oa++[⟨b2, #[.string ⟨#[42]⟩],9⟩,⟨b1,(coV c).cells,166⟩,⟨g1,tD c.v,9⟩])) (λx hx=>List.mem_append_left _ hx)) (Nat.le_trans (sjoin_len hcv _) (by decide)) (by rw [List.length_append];have:=tN c.v c.parts.toNat;simp;omega)) (z7 [] (.string (mkS (zG 46 (zZ c.v c.parts.toNat++[[42]])))) λw hO=>⟨by rw [v6 hcm,←star_text h2],hO.below⟩)
  ·refine z8 (k:=191) (args:= #[YI c.op]) (v:= .string (mkS (y7 c.op))) [0] (λw _=>rcsign_any c.op w) (z8 (k:=119) (args:= #[.slice (some ⟨g1,0,none⟩) c.parts.toNat 3,.int .u8 46]) (v:= .string (mkS (zG 46 (zZ c.v c.parts.toNat)))) [] (λw hO=>rjoin_any _ _ 46 w (SlT.readsT (told_slt c.v hpn.2 g1) (hO.past 1 [⟨g1,tD c.v,9⟩]) (λx hx=>hx)) (Nat.le_trans q2 (by decide)) (Nat.le_trans (tN _ _) (by decide))) (zW 27 [] (y7 c.op) (zG 46 (zZ c.v c.parts.toNat)) (gX 31 [0] c.v.pre [] (λh3=>z7 [] (.string (mkS (y7 c.op++zG 46 (zZ c.v c.parts.toNat)))) λw hO=>⟨by rw [v6 hcm,←text_bare h2 h3],hO.below⟩) (λh3=> ?_))))
   exact zW 33 [] (y7 c.op++zG 46 (zZ c.v c.parts.toNat)) [45] (zW 37 [0] (y7 c.op++zG 46 (zZ c.v c.parts.toNat)++[45]) c.v.pre (z7 [] (.string (mkS (y7 c.op++zG 46 (zZ c.v c.parts.toNat)++[45]++c.v.pre))) λw hO=>⟨by rw [v6 hcm,←text_pre h2 h3],hO.below⟩))
end
section
def opF (k:Nat):Int:=if k=0 then 9 else if k=1 then 7 else if k=2 then 6 else if k=3 then 3 else if k=4 then 1 else 2
structure FewC (c:Co):Prop where
 op:c.op=7\/c.op=6\/c.op=3\/c.op=1\/c.op=2
 parts:c.parts=3
 v:∃ a b:Nat,a<3/\b<2/\c.v=⟨a,b,0,[],[]⟩
def FewT (t:List UInt8):Prop:=t=[42]∨∃ c,FewC c/\t=c.print
end
section
structure Wv where
 name:List UInt8
 rng:List UInt8
 A:Option Addr
 cap:Nat
 fs:List (List UInt8)
 bare:Bool
def wvC (x:Wv):List Value:=[.string (mkS x.name),.string (mkS x.rng),.slice x.A x.fs.length x.cap,.bool x.bare]
def wvV (x:Wv):Value:= .agg #[.string (mkS x.name),.string (mkS x.rng),.slice x.A x.fs.length x.cap,.bool x.bare]
structure WishG (own:Nat)(alone:Bool)(x:Wv):Prop where
 name:∃ k,k<4/\x.name=nameT ((own+1+k) % 5)
 rng:FewT x.rng
 fs:x.fs=[]\/alone=true/\(x.fs=[[120]]\/x.fs=[[120],[121]])
end
section
set_option linter.unnecessarySimpa false
def sepT (c:Nat):List UInt8:=if c=0 then [32,61,32] else [32,33,61,32]
def WhenT (t:List UInt8):Prop:=t=[]∨∃ k c j,k<3/\t=x1 k++sepT c++wordT j
end
section
structure Nv where
 A:Option Addr
 cap:Nat
 any:List Wv
 wh:List UInt8
 opt:List UInt8
def nvC (x:Nv):List Value:=[.slice x.A x.any.length x.cap,.string (mkS x.wh),.string (mkS x.opt)]
def nvV (x:Nv):Value:= .agg #[.slice x.A x.any.length x.cap,.string (mkS x.wh),.string (mkS x.opt)]
structure WsO (A:Option Addr)(cap:Nat)(xs:List Wv)(ob:List Blk):Prop where
 ex:∃ o1 o2,ob=o1++o2/\Sl 77 4 (.slice A xs.length cap) xs.length (xs.flatMap wvC) o1∧∀ x∈xs,∃ o,SlT (.slice x.A x.fs.length x.cap) x.fs o∧∀ b∈o,b∈o2
structure NeedG (own:Nat)(x:Nv):Prop where
 any:(∃ w,x.any=[w]/\WishG own true w)∨∃ w u,x.any=[w,u]/\WishG own false w/\WishG own false u
 wh:WhenT x.wh
 opt:x.opt=[]∨∃ j,j<4/\x.opt=wordT j
def WishR (own:Nat)(alone:Bool)(v:Value)(ob:List Blk):Prop:=∃ x,v=wvV x/\WishG own alone x/\SlT (.slice x.A x.fs.length x.cap) x.fs ob
end
section
set_option linter.unnecessarySimpa false
structure UpTo (xs:List Fv)(i:Nat):Prop where
 le:i<=xs.length
 wd:∀ x∈xs.take i,wdL x.name=true
 up:∀ z (hz:z+1<xs.length),z+1<i->Op.bytesLess (xs[z]'Om).name xs[z+1].name=true
 it:∀ x∈xs.take i,kH (yO xs) x.of=true
theorem UpTo.zero (xs:List Fv):UpTo xs 0:=⟨Nat.zero_le _,λx hx=>by simp at hx,λz hz h=>by omega,λx hx=>by simp at hx⟩
theorem UpTo.next {xs:List Fv}{i:Nat}(h:UpTo xs i)(hi:i<xs.length)(h1:wdL xs[i].name=true)(h2:∀ h0:0<i,Op.bytesLess (xs[i-1]'Om).name xs[i].name=true)(h3:kH (yO xs) xs[i].of=true):UpTo xs (i+1):=by
 refine ⟨hi,y9 hi h.wd h1,λz hz hzi=> ?_,y9 hi h.it h3⟩
 rcases Nat.lt_succ_iff_lt_or_eq.1 hzi with q|q
 ·exact h.up z hz q
 ·subst q;exact h2 Om
theorem UpTo.may {xs:List Fv}{i:Nat}(h:UpTo xs i)(hi:xs.length<=i)(h8:xs.length<=8):d4 (yO xs)=true:=by
 refine may_yes (by rw [wE];exact h8) (λf hf=> ?_) (ft_rise.2 λz hz=>h.up z hz (by omega)) λf hf=> ?_
 ·obtain ⟨x,hx,rfl⟩:=List.mem_map.1 hf;exact yQ hi h.wd x hx
 ·obtain ⟨x,hx,rfl⟩:=List.mem_map.1 hf;exact yQ hi h.it x hx
theorem may_no1 {xs:List Fv}{x:Fv}(hx:x∈xs)(h:wdL x.name=false):d4 (yO xs)=false:=nO (.inr (.inl ⟨x.ft,ft_mem hx,h⟩))
theorem may_no2 {xs:List Fv}{z:Nat}(hz:z+1<xs.length)(h:Op.bytesLess (xs[z]'Om).name xs[z+1].name=false):d4 (yO xs)=false:=nO (.inr (.inr (.inl (by
 cases hq:qK ((yO xs).map Ft.name) with
 |false=>rfl
 |true=>have q:=ft_rise.1 hq z hz;rw [h] at q;cases q))))
theorem may_no3 {xs:List Fv}{x:Fv}(hx:x∈xs)(h:kH (yO xs) x.of=false):d4 (yO xs)=false:=nO (.inr (.inr (.inr ⟨x.ft,ft_mem hx,h⟩)))
theorem r11May_any (A:Option Addr)(cap:Nat)(xs:List Fv)(W:World)(hv:FtIn W W.heap.size A xs):YC 114 #[.slice A xs.length cap] W (YR (.bool (d4 (yO xs))) W):=by
 refine zE Tryz.func114 ?_
 by_cases h1:(8:Int)<(xs.length:Int)
 ·refine zB 6 [] ((8:Int)<(xs.length:Int)) (λ_=> ?_) (λhq=>absurd (h1) hq)
  exact z7 [] Z5 (λw hO=>⟨by rw [show d4 (yO xs)=false from nO (.inl (by rw [wE];omega))],hO.below⟩)
 refine zB 6 [] ((8:Int)<(xs.length:Int)) (λhq=>absurd hq (h1)) (λ_=>zO (α:=Nat) (λi=>[(0,.slice A xs.length cap),(3,YI (i:Int))]) (λi=>[]) (λi m=>(UpTo xs i)/\m=xs.length-i) (0) (xs.length-0) [] ⟨UpTo.zero xs,rfl⟩ ?_)
 rintro i m g kk ⟨hrel,hmm⟩ nx hkk
 subst hkk
 have hi6:=hrel.le;have hxn:=hv.n
 by_cases h2:(i:Int)<(xs.length:Int)
 ·have hil:i<xs.length:=by omega
  obtain ⟨bp,off,hA,hlt,hcell⟩:=hv.top Om
  obtain ⟨x,hx⟩:∃ x,xs[i]=x:=⟨_,rfl⟩
  have hxm:x∈xs:=hx▸List.getElem_mem hil
  refine zB 10 [] ((i:Int)<(xs.length:Int)) (λ_=> ?_) (λhq=>absurd (h2) hq)
  refine zJ 15 [] hA xs.length cap i 2 (by first|omega|(simp;omega)) (zH 17 [] 9 bp (off+i*2+0) (.string (mkS x.name)) (λw hO=>Reads.load vU (hv.top.on hO.below hO.size) hA i 0 Om Om _ (by rw [hx];kernel_rfl)) (z8 (k:=172) (args:= #[.string (mkS x.name)]) (v:= .bool (wdL x.name)) [] (λw hO=>j8 x.name w (hv.name x hxm)) ?_))
  cases h3:wdL x.name with
  |true=>
   by_cases h4:(0:Int)<(i:Int)
   ·have hi0:0<i:=by omega
    obtain ⟨y,hy⟩:∃ y,xs[i-1]'Om=y:=⟨_,rfl⟩
    refine zB 22 [] ((0:Int)<(i:Int)) (λ_=> ?_) (λhq=>absurd (h4) hq)
    refine dF 26 [] (YI (IntKind.i64.wrap ((i:Int) -1))) (YI ((i-1:Nat):Int)) (by rw [IntWalk.i64_in _ Om,show (i:Int) -1=((i-1:Nat):Int) by omega]) (zJ 27 [] hA xs.length cap (i-1) 2 (by first|omega|(simp;omega)) (zH 29 [] 9 bp (off+(i-1)*2+0) (.string (mkS y.name)) (λw hO=>Reads.load vU (hv.top.on hO.below hO.size) hA (i-1) 0 Om Om _ (by rw [hy];kernel_rfl)) (zJ 32 [] hA xs.length cap i 2 (by first|omega|(simp;omega)) (zH 34 [] 9 bp (off+i*2+0) (.string (mkS x.name)) (λw hO=>Reads.load vU (hv.top.on hO.below hO.size) hA i 0 Om Om _ (by rw [hx];kernel_rfl)) ?_))))
    cases h5:Op.bytesLess y.name x.name with
    |true=>
     refine x_sge 35 [] y.name x.name (λ_=> ?_) (λhq=>absurd (hq.symm.trans h5) (by decide))
     refine zJ 42 [] hA xs.length cap i 2 (by first|omega|(simp;omega)) (zH 44 [] 75 bp (off+i*2+1) (.slice x.A x.of.length x.cap) (λw hO=>Reads.load vU (hv.top.on hO.below hO.size) hA i 1 Om Om _ (by rw [hx];kernel_rfl)) (z8 (k:=174) (args:= #[.slice A xs.length cap,.slice x.A x.of.length x.cap]) (v:= .bool (kH (yO xs) x.of)) [] (λw hO=>r11items_any A cap xs x.A x.cap x.of w (hv.on hO.below hO.size) ((hv.each x hxm).on hO.below hO.size) (hv.m x hxm) (hv.text x hxm)) ?_))
     cases h6:kH (yO xs) x.of with
     |true=>
      exact x_i 12 [] (((i+1:Nat):Int)) (nx (i+1) (xs.length-(i+1)) [] Om ⟨hrel.next hil (by rw [hx];exact h3) (λh0=>by rw [hx,hy];exact h5) (by rw [hx];exact h6),rfl⟩ Kr Kr)
     |false=>
      exact z7 [] Z5 (λw hO=>⟨by rw [show d4 (yO xs)=false from may_no3 hxm h6],hO.below⟩)
    |false=>
     exact x_sge 35 [] y.name x.name (λhq=>absurd (hq.symm.trans h5) (by decide)) (λ_=>z7 [] Z5 (λw hO=>⟨by rw [show d4 (yO xs)=false from may_no2 (z:=i-1) Om (by simp only [show i-1+1=i by omega,hx,hy];exact h5)],hO.below⟩))
   refine zB 22 [] ((0:Int)<(i:Int)) (λhq=>absurd hq (h4)) (λ_=>zJ 42 [] hA xs.length cap i 2 (by first|omega|(simp;omega)) (zH 44 [] 75 bp (off+i*2+1) (.slice x.A x.of.length x.cap) (λw hO=>Reads.load vU (hv.top.on hO.below hO.size) hA i 1 Om Om _ (by rw [hx];kernel_rfl)) (z8 (k:=174) (args:= #[.slice A xs.length cap,.slice x.A x.of.length x.cap]) (v:= .bool (kH (yO xs) x.of)) [] (λw hO=>r11items_any A cap xs x.A x.cap x.of w (hv.on hO.below hO.size) ((hv.each x hxm).on hO.below hO.size) (hv.m x hxm) (hv.text x hxm)) ?_)))
   cases h7:kH (yO xs) x.of with
   |true=>
    exact x_i 12 [] (((i+1:Nat):Int)) (nx (i+1) (xs.length-(i+1)) [] Om ⟨hrel.next hil (by rw [hx];exact h3) (λh0=>absurd h0 Om) (by rw [hx];exact h7),rfl⟩ Kr Kr)
   |false=>
    exact z7 [] Z5 (λw hO=>⟨by rw [show d4 (yO xs)=false from may_no3 hxm h7],hO.below⟩)
  |false=>
   exact z7 [] Z5 (λw hO=>⟨by rw [show d4 (yO xs)=false from may_no1 hxm h3],hO.below⟩)
 exact zB 10 [] ((i:Int)<(xs.length:Int)) (λhq=>absurd hq (h2)) (λ_=>z7 [] Z4 (λw hO=>⟨by rw [hrel.may Om Om],hO.below⟩))
end
section
set_option linter.unnecessarySimpa false
structure RdP (w:World)(v:Value)(l:List (List UInt8)):Prop where
 ex:∃ A cap,v= .slice A l.length cap/\Reads yV w w.heap.size A l/\l.length<=cap/\(l=[]->A=none/\cap=0)
end
section
section
variable {M:List Nat}{P:Program}{n:Nat}{ops:Array Oper}{W:World}{L0:List Blk}{Q:Exit->Act->World->Prop}{fuel:Nat}{listed:Array Bool}{f:Nat->Value}
theorem hl_appendR {α:Type}{g:α->List Value}{i0:Nat}{E ob R:List Blk}(oi:Oper){t T:TypeId}{s x:Operand}{i:TypeInfo}{z:Value}{sz:Nat}(hg:∀ y,(g y).length=sz)(hi0:ops[i0]?=some oi)(hw:zS ops n f oi=true)(ho:oi.op= .call {callee:= .builtin .append,args:= #[s,x],argTypes:= #[t,t]})
  (ht:P.underlying t=some (.slice T)) (hi:P.info? T=some i) (hz:i.zero=some z) (hsz:i.size=sz) (hzs:z.cells.size=sz)
  {v:Value} {m0:Nat} {xs:List Value} (hs:ev n f s=v) (hv:Sl T sz v m0 xs ob) {A:Option Addr} {c:Nat} {l:List α} (hx:ev n f x= .slice A l.length c)
  (hR:∀ w,Own M W w (E++ob++R)->Reads g w w.heap.size A l) (h1:∀ y,∀ u∈g y,u.oneCell'=true)
  (h63:m0+l.length<=maxLen) (hbytes:(m0+l.length)*i.bytes<=140737488355328) (hsub:∀ ob' w,Own M W w (E++ob'++R)->Own M W w L0)
  (h:∀ v' ob',Sl T sz v' (m0+l.length) (xs++l.flatMap g) ob'->p6 M P n ops W L0 Q fuel (listed.setIfInBounds i0 true) (E++ob'++R) (upd f oi.dst v')):tA M P n ops W L0 Q fuel listed i0 (E++ob++R) f:=
 hs_step hi0 hw λw hO=>by
  have hone:∀ u∈l.flatMap g,u.oneCell'=true:=λu hu=>by
   obtain ⟨y,_,hy⟩:=List.mem_flatMap.1 hu
   exact h1 y u hy
  cases A with
  |none=>
   have h0:l=[]:=by
    cases l with
    |nil=>rfl
    |cons y l=>obtain ⟨b,off,e,_⟩:=hR w hO (by simp);cases e
   subst h0
   have hv':Sl T sz v (m0+([]:List α).length) (xs++([]:List α).flatMap g) ob:=by simpa using hv
   refine qP v (w':=w) ?_ ⟨hsub ob w hO,(h v ob hv').go w hO⟩
   have hx':ev n f x= .slice none 0 c:=hx
   unfold execOp
   simp only [ho,resolve,invoke,builtin,Sem.run_bind,Sem.run_pure,Result.andThen_ok,List.map_toArray,List.map_cons,List.map_nil,hs,hx',pZ ht hi hv c]
  |some a=>
   have hnews:∀ j u,(l.flatMap g)[j]?=some u->w.cell? (a.add j)=some u:=λj u hj=>by
    have h0:0<l.length:=by
     cases l with
     |nil=>simp at hj
     |cons y l=>simp
    obtain ⟨b,off,e,_,hc⟩:=hR w hO h0
    obtain rfl:=Option.some.inj e
    rw [xG]
    exact hc j u hj
   obtain ⟨v',w',ob',hr,h2,h3⟩:=pM (P:=P) (ty:=oi.type) (c:=c) ht hi hz hsz hzs hv hO (jF hg l) hnews hone h63 hbytes
   refine qP v' (w':=w') ?_ ⟨hsub ob' w' h3,(h v' ob' h2).go w' h3⟩
   unfold execOp
   simp only [ho,resolve,invoke,builtin,Sem.run_bind,Sem.run_pure,Result.andThen_ok,List.map_toArray,List.map_cons,List.map_nil,hs,hx,hr]
end
section
variable {M:List Nat}{P:Program}{n:Nat}{W:World}{Q:Exit->Act->World->Prop}{c:Xc}
theorem xh_appR {α:Type}{g:α->List Value}{T:TypeId}{sz k cp:Nat}{v:Value}{xs:List Value}{A:Option Addr}(l:List α)(E ob R:List Blk)(L1 L0:List Blk)(hs:∀ w,Own M W w L1->Own M W w (E++ob++R))(hsub:∀ ob' w,Own M W w (E++ob'++R)->Own M W w L0)
  (hgl:∀ y,(g y).length=sz) (h1:∀ y,∀ u∈g y,u.oneCell'=true) (hR:∀ w,Own M W w (E++ob++R)->Reads g w w.heap.size A l) (hv:Sl T sz v k xs ob) (hN:k+l.length<=1000000)
  (hg:∀ v' ob',Sl T sz v' (k+l.length) (xs++l.flatMap g) ob'->zF M P n W Q (aNext c (E++ob'++R) v'))
  (hkt:(c.L,hL c,c.top,(xA c)[hI c]?,zS (xA c) n c.f (xO c),(xO c).op,ev n c.f (aX (xO c) 0),ev n c.f (aX (xO c) 1),P.underlying (aT (xO c)),aInfo P T)
   =(L1,L0,.hst (xA c) (hS c) (hU c) (hL c) (hI c),some (xO c),true,aOp (xO c),v,.slice A l.length cp,some (.slice T),some (true,sz,some sz)):=by kernel_rfl):zF M P n W Q c:=by
 simp only [Prod.mk.injEq] at hkt
 obtain ⟨f1,f2,e1,e2,e3,e4,e5,e6,e8,e9⟩:=hkt
 rw [←f1] at hs
 rw [←f2] at hsub
 have:c=⟨.hst (xA c) (hS c) (hU c) (hL c) (hI c),c.k,c.L,c.f⟩:=by rw [←e1]
 rw [this]
 obtain ⟨i,z,hi,hz,hsz,hzs,hby⟩:=tZ e9
 refine ⟨λhq hs0=>hs_take' hs (hl_appendR (E:=E) (ob:=ob) (R:=R) (xO c) hgl e2 e3 e4 e8 hi hz hsz hzs e5 hv e6 hR h1 ?_ ?_ hsub λv' ob' h=>(hg v' ob' h).go hq (hsub ob'))⟩
 ·unfold maxLen;omega
 ·have:=Nat.mul_le_mul hN hby;omega
theorem sl_block {T:TypeId}{b N sz:Nat}{cs:Array Value}(h:cs.size=N*sz)(hN:N<=maxLen):Sl T sz (.slice (some ⟨b,0,none⟩) N N) N cs.toList [⟨b,cs,T⟩]:=
 ⟨by rw [Array.length_toList];exact h,.inr ⟨b,N,cs,rfl,rfl,Nat.le_refl _,hN,h,by rw [List.take_of_length_le (by rw [Array.length_toList,h];exact Nat.le_refl _)]⟩⟩
end
end
section
def xIns (ρ:Operand->Value)(o:Oper):Option (Sem Value):=match o.op with
 | .makeMap t none=>some (Instr.makeMap t none)
 | .lookup t m x c=>some (Instr.lookup t (ρ m) (ρ x) c)
 | .range t x=>some (Instr.range t (ρ x))
 | .next it s=>some (Instr.next (ρ it) s o.type)
 | .entry it=>some (Instr.entry (ρ it))
 |_=>none
def xUpd (ρ:Operand->Value)(o:Oper):Option (Sem Unit):=match o.op with
 | .mapUpdate t m k x=>some (Instr.mapUpdate t (ρ m) (ρ k) (ρ x))
 |_=>none
section
variable {M:List Nat}{P:Program}{n:Nat}{W:World}{Q:Exit->Act->World->Prop}{c:Xc}
theorem x_drawF (fu:Fuel1)(m:Nat)(h:List Nat)(hg:zF M P n W Q ⟨.hps ((xDr (x6 P n nS fu h c)).toList.take m).toArray (Array.replicate m false) m (x6 P n nS fu h c).L,.tl (xDr (x6 P n nS fu h c)) ((xDr (x6 P n nS fu h c)).toList.drop m)::(x6 P n nS fu h c).k,(x6 P n nS fu h c).L,(x6 P n nS fu h c).f⟩)
  (hkt:(xl P n nS fu h c,(x6 P n nS fu h c).top,P.follows .mixedOrders,preB .any (xDr (x6 P n nS fu h c)).toList m)=(xr P n nS (tS fu) h c,.code (.region (xId (x6 P n nS fu h c)) (xDr (x6 P n nS fu h c)) true),true,true):=by kernel_rfl):zF M P n W Q c:=by
 simp only [Prod.mk.injEq] at hkt
 obtain ⟨hk,e1,e2,e3⟩:=hkt
 refine xrun_ok fu h c hk ?_
 generalize x6 P n nS fu h c=d at hg e1 e3 ⊢
 generalize xDr d=a at hg e1 e3
 obtain ⟨l,rfl⟩:∃ l:List Oper,a=l.toArray:=⟨a.toList,by simp⟩
 have:d=⟨.code (.region (xId d) l.toArray true),d.k,d.L,d.f⟩:=by rw [←e1]
 rw [this]
 have hg':zF M P n W Q ⟨.hps (l.take m).toArray (Array.replicate m false) m d.L,.tl l.toArray (l.drop m)::d.k,d.L,d.f⟩:=by simpa using hg
 exact ⟨λhq=>ok_drawh m d.L e2 (by simpa using e3) (hg'.go hq λ_ h=>h)⟩
end
end
section
section
variable {M:List Nat}{P:Program}{n:Nat}{W:World}{Q:Exit->Act->World->Prop}{c:Xc}
theorem x_callO {k:FuncId}{args:Array Value}{Rr:Value->List Blk->Prop}(h:List Nat)(L1:List Blk)(hc:∀ w,Own M W w L1->Calls P k args w λe w'=>∃ v L',e= .returned v/\Rr v L'/\Own M W w' L')
  (hg:∀ v L',Rr v L'->zF M P n W Q ⟨.ops (xA (xgo P n nS h c)) (xT (xgo P n nS h c)),(xgo P n nS h c).k,L',upd (xgo P n nS h c).f (xO (xgo P n nS h c)).dst v⟩)
  (hkt:(xgl P n nS h c,(xgo P n nS h c).L,(xgo P n nS h c).top,zS (xA (xgo P n nS h c)) n (xgo P n nS h c).f (xO (xgo P n nS h c)),mW P n (xgo P n nS h c))=(xgr P n nS h c,L1,.ops (xA (xgo P n nS h c)) (xO (xgo P n nS h c)::xT (xgo P n nS h c)),true,λw=> .ok (.enter k args) w):=by kernel_rfl):zF M P n W Q c:=by
 simp only [Prod.mk.injEq] at hkt
 obtain ⟨hk,f1,e1,e3,e4⟩:=hkt
 refine zK h c hk ?_
 generalize xgo P n nS h c=d at*
 have e5:∀ w,(execOp (ev n d.f) (xO d)).run P w= .ok (.enter k args) w:=λw=>by
  have h1:=congrFun e4 w
  unfold mW at h1
  rw [e1] at h1
  dsimp only at h1
  rw [e3] at h1
  exact h1
 have:d=⟨.ops (xA d) (xO d::xT d),d.k,d.L,d.f⟩:=by rw [←e1]
 rw [this]
 rw [←f1] at hc
 exact ⟨λhq=>s_callo Rr e3 e5 hc λv L' k2=>(hg v L' k2).go hq⟩
theorem x8 {k:FuncId}{args:Array Value}{Rr:Value->List Blk->Prop}(h:List Nat)(L1 R ob:List Blk)(hs:∀ w,Own M W w L1->Own M W w (R++ob))(hc:∀ w,Own M W w (R++ob)->Calls P k args w λe w'=>∃ v ob',e= .returned v/\Rr v ob'/\Own (ob.map Blk.b) w w' ob')
  (hg:∀ v ob',Rr v ob'->zF M P n W Q ⟨.ops (xA (xgo P n nS h c)) (xT (xgo P n nS h c)),(xgo P n nS h c).k,R++ob',upd (xgo P n nS h c).f (xO (xgo P n nS h c)).dst v⟩)
  (hkt:(xgl P n nS h c,(xgo P n nS h c).L,(xgo P n nS h c).top,zS (xA (xgo P n nS h c)) n (xgo P n nS h c).f (xO (xgo P n nS h c)),mW P n (xgo P n nS h c))=(xgr P n nS h c,L1,.ops (xA (xgo P n nS h c)) (xO (xgo P n nS h c)::xT (xgo P n nS h c)),true,λw=> .ok (.enter k args) w):=by kernel_rfl):zF M P n W Q c:=by
 simp only [Prod.mk.injEq] at hkt
 obtain ⟨hk,f1,e1,e3,e4⟩:=hkt
 refine zK h c hk ?_
 generalize xgo P n nS h c=d at*
 have e5:∀ w,(execOp (ev n d.f) (xO d)).run P w= .ok (.enter k args) w:=λw=>by
  have h1:=congrFun e4 w
  unfold mW at h1
  rw [e1] at h1
  dsimp only at h1
  rw [e3] at h1
  exact h1
 have:d=⟨.ops (xA d) (xO d::xT d),d.k,d.L,d.f⟩:=by rw [←e1]
 rw [this]
 rw [←f1] at hs
 refine ⟨λhq=>m4 hs (s_callo (λv L'=>∃ ob',Rr v ob'/\L'=R++ob') e3 e5 (λw hO=>(hc w hO).mono λe w' ⟨v,ob',k1,k2,k3⟩=>⟨v,_,k1,⟨ob',k2,rfl⟩,(Own.back (hO.perm List.perm_append_comm) k3).perm List.perm_append_comm⟩) λv L' ⟨ob',k2,k3⟩=> ?_)⟩
 subst k3
 exact (hg v ob' k2).go hq
theorem xh_callL {k:FuncId}{args:Array Value}{Rr:Value->List Blk->Prop}(L1 R ob L0:List Blk)(hs:∀ w,Own M W w L1->Own M W w (R++ob))(hsub:∀ ob' w,Own M W w (R++ob')->Own M W w L0)(hc:∀ w,Own M W w (R++ob)->Calls P k args w λe w'=>∃ v ob',e= .returned v/\Rr v ob'/\Own (ob.map Blk.b) w w' ob')
  (hg:∀ v ob',Rr v ob'->zF M P n W Q (aNext c (R++ob') v))
  (hkt:(c.L,hL c,c.top,(xA c)[hI c]?,zS (xA c) n c.f (xO c),λw=>(execOp (ev n c.f) (xO c)).run P w)=(L1,L0,.hst (xA c) (hS c) (hU c) (hL c) (hI c),some (xO c),true,λw=> .ok (.enter k args) w):=by kernel_rfl):zF M P n W Q c:=by
 simp only [Prod.mk.injEq] at hkt
 obtain ⟨f1,f2,e1,e2,e3,e4⟩:=hkt
 rw [←f1] at hs
 rw [←f2] at hsub
 have:c=⟨.hst (xA c) (hS c) (hU c) (hL c) (hI c),c.k,c.L,c.f⟩:=by rw [←e1]
 rw [this]
 refine ⟨λhq hs0=>hs_take' hs (hl_callx (xO c) (λv L'=>∃ ob',Rr v ob'/\L'=R++ob') e2 e3 (λw=>congrFun e4 w) (λw hO=>(hc w hO).mono λe w' ⟨v,ob',k1,k2,k3⟩=>⟨v,_,k1,⟨ob',k2,rfl⟩,(Own.back (hO.perm List.perm_append_comm) k3).perm List.perm_append_comm⟩) (λv L' ⟨ob',_,k3⟩ w hO=>hsub ob' w (k3▸hO)) λv L' ⟨ob',k2,k3⟩=> ?_)⟩
 subst k3
 exact (hg v ob' k2).go hq (hsub ob')
theorem x_drawLF (fu:Fuel1)(m:Nat)(h:List Nat)(L0:List Blk)(hs:∀ w,Own M W w (x6 P n nS fu h c).L->Own M W w L0)(hg:zF M P n W Q ⟨.hps ((xDr (x6 P n nS fu h c)).toList.take m).toArray (Array.replicate m false) m L0,.tl (xDr (x6 P n nS fu h c)) ((xDr (x6 P n nS fu h c)).toList.drop m)::(x6 P n nS fu h c).k,(x6 P n nS fu h c).L,(x6 P n nS fu h c).f⟩)
  (hkt:(xl P n nS fu h c,(x6 P n nS fu h c).top,P.follows .mixedOrders,preB .any (xDr (x6 P n nS fu h c)).toList m)=(xr P n nS (tS fu) h c,.code (.region (xId (x6 P n nS fu h c)) (xDr (x6 P n nS fu h c)) true),true,true):=by kernel_rfl):zF M P n W Q c:=by
 simp only [Prod.mk.injEq] at hkt
 obtain ⟨hk,e1,e2,e3⟩:=hkt
 refine xrun_ok fu h c hk ?_
 generalize x6 P n nS fu h c=d at hg hs e1 e3 ⊢
 generalize xDr d=a at hg e1 e3
 obtain ⟨l,rfl⟩:∃ l:List Oper,a=l.toArray:=⟨a.toList,by simp⟩
 have:d=⟨.code (.region (xId d) l.toArray true),d.k,d.L,d.f⟩:=by rw [←e1]
 rw [this]
 have hg':zF M P n W Q ⟨.hps (l.take m).toArray (Array.replicate m false) m L0,.tl l.toArray (l.drop m)::d.k,d.L,d.f⟩:=by simpa using hg
 exact ⟨λhq=>ok_drawh m L0 e2 (by simpa using e3) (hg'.go hq hs)⟩
theorem x_appR {α:Type}{g:α->List Value}{T:TypeId}{sz k cp:Nat}{v:Value}{xs:List Value}{A:Option Addr}(h:List Nat)(l:List α)(E ob R:List Blk)(L1:List Blk)(hs:∀ w,Own M W w L1->Own M W w (E++ob++R))
  (hgl:∀ y,(g y).length=sz) (h1:∀ y,∀ u∈g y,u.oneCell'=true) (hR:∀ w,Own M W w (E++ob++R)->Reads g w w.heap.size A l) (hv:Sl T sz v k xs ob) (hN:k+l.length<=1000000)
  (hg:∀ v' ob',Sl T sz v' (k+l.length) (xs++l.flatMap g) ob'->zF M P n W Q ⟨.ops (xA (xgo P n nS h c)) (xT (xgo P n nS h c)),(xgo P n nS h c).k,E++ob'++R,upd (xgo P n nS h c).f (xO (xgo P n nS h c)).dst v'⟩)
  (hkt:(xgl P n nS h c,(xgo P n nS h c).L,(xgo P n nS h c).top,zS (xA (xgo P n nS h c)) n (xgo P n nS h c).f (xO (xgo P n nS h c)),(xO (xgo P n nS h c)).op,ev n (xgo P n nS h c).f (aX (xO (xgo P n nS h c)) 0),ev n (xgo P n nS h c).f (aX (xO (xgo P n nS h c)) 1),P.underlying (aT (xO (xgo P n nS h c))),aInfo P T)
   =(xgr P n nS h c,L1,.ops (xA (xgo P n nS h c)) (xO (xgo P n nS h c)::xT (xgo P n nS h c)),true,aOp (xO (xgo P n nS h c)),v,.slice A l.length cp,some (.slice T),some (true,sz,some sz)):=by kernel_rfl):zF M P n W Q c:=by
 simp only [Prod.mk.injEq] at hkt
 obtain ⟨hk,f1,e1,e3,e4,e5,e6,e8,e9⟩:=hkt
 refine zK h c hk ?_
 generalize xgo P n nS h c=d at*
 rw [←f1] at hs
 have:d=⟨.ops (xA d) (xO d::xT d),d.k,d.L,d.f⟩:=by rw [←e1]
 rw [this]
 obtain ⟨i,z,hi,hz,hsz,hzs,hby⟩:=tZ e9
 have h63:k+l.length<=maxLen:=by unfold maxLen;omega
 have hbytes:(k+l.length)*i.bytes<=140737488355328:=by have:=Nat.mul_le_mul hN hby;omega
 have hone:∀ u∈l.flatMap g,u.oneCell'=true:=λu hu=>by
  obtain ⟨y,_,hy⟩:=List.mem_flatMap.1 hu
  exact h1 y u hy
 refine ⟨λhq=>m4 hs (vO e3 λw hO=> ?_)⟩
 cases A with
 |none=>
  have h0:l=[]:=by
   cases l with
   |nil=>rfl
   |cons y l=>obtain ⟨b,off,e,_⟩:=hR w hO (by simp);cases e
  subst h0
  have hv':Sl T sz v (k+([]:List α).length) (xs++([]:List α).flatMap g) ob:=by simpa using hv
  refine qP v (w':=w) ?_ (((hg v ob hv').go hq).go w hO)
  have hx':ev n d.f (aX (xO d) 1)= .slice none 0 cp:=e6
  unfold execOp
  rw [e4]
  simp only [aOp,resolve,invoke,builtin,Sem.run_bind,Sem.run_pure,Result.andThen_ok,List.map_toArray,List.map_cons,List.map_nil,e5,hx',pZ e8 hi hv cp]
 |some a=>
  have hnews:∀ j u,(l.flatMap g)[j]?=some u->w.cell? (a.add j)=some u:=λj u hj=>by
   have h0:0<l.length:=by
    cases l with
    |nil=>simp at hj
    |cons y l=>simp
   obtain ⟨b,off,e,_,hc⟩:=hR w hO h0
   obtain rfl:=Option.some.inj e
   rw [xG]
   exact hc j u hj
  obtain ⟨v',w',ob',hr,h2,h3⟩:=pM (P:=P) (ty:=(xO d).type) (c:=cp) e8 hi hz hsz hzs hv hO (jF hgl l) hnews hone h63 hbytes
  refine qP v' (w':=w') ?_ (((hg v' ob' h2).go hq).go w' h3)
  unfold execOp
  rw [e4]
  simp only [aOp,resolve,invoke,builtin,Sem.run_bind,Sem.run_pure,Result.andThen_ok,List.map_toArray,List.map_cons,List.map_nil,e5,e6,hr]
end
end
end Go.Proofs.YteghandhpbmpgaaGreatDoor
