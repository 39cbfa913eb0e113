/-
 What the statement's proof leans on: the ways of walking, plain mathematics, and what the program's functions return; each theorem says on what conditions.
-/
import Derived.Lib.AppendStr
import Derived.Deep.RegionHeld3
import Derived.Outline
import Derived.WalkKit
import Derived.Lib.Hide
import Derived.Lib.MakeNoZero
import Derived.Laws.IdiomCopy
import Derived.Test.YtjimgokkpcfgpaaGreatDoorRS2
set_option maxRecDepth 1000000
set_option maxHeartbeats 8000000
set_option linter.unusedVariables false
set_option linter.unusedSimpArgs false
set_option linter.unnecessarySimpa false
namespace Go.Proofs.YtjimgokkpcfgpaaGreatDoor
open Go.RowKit

section
abbrev nS : Nat := 40000
noncomputable def xgo (P : Program) (n t : Nat) (h : List Nat) (c : Xc) : Xc := x2 P n t fuelA h c
noncomputable def xgl (P : Program) (n t : Nat) (h : List Nat) (c : Xc) : List XK := xl P n t fuelA h c
noncomputable def xgr (P : Program) (n t : Nat) (h : List Nat) (c : Xc) : List XK := xr P n t fuelB h c
theorem zQ {M : List Nat} {P : Program} {n t : Nat} {W : World} {Q : Exit → Act → World → Prop} (h : List Nat) (c : Xc) (hk : xgl P n t h c = xgr P n t h c) (hg : zI M P n W Q (xgo P n t h c)) : zI M P n W Q c := tO fuelA h c hk hg
def xA (c : Xc) : Array Oper := match c.top with
 | .ops a _ => a
 | .qps a _ => a
 | .hps a _ _ _ => a
 | .hst a _ _ _ _ => a
 | _ => #[]
def xL (c : Xc) : List Oper := match c.top with
 | .ops _ r => r
 | .qps _ r => r
 | _ => []
def xO (c : Xc) : Oper := match c.top with
 | .hst a _ _ _ i => a.getD i default
 | _ => (xL c).headD default
def xT (c : Xc) : List Oper := (xL c).tail
def xC (c : Xc) : Code := match c.top with
 | .code x => x
 | _ => .skip
def pT (c : Xc) : Code := match xC c with
 | .loop b => b
 | _ => .skip
def xTy (o : Oper) : TypeId := match o.op with
 | .alloc T => T
 | .box T _ => T
 | _ => 0
def xZ (P : Program) (o : Oper) : Value := ((P.info? (xTy o)).bind (·.zero)).getD undef
def xX (n : Nat) (f : Nat → Value) (o : Oper) : Value := match o.op with
 | .box _ x => ev n f x
 | _ => undef
def xBx (o : Oper) : Operand := match o.op with
 | .box _ x => x
 | _ => .tmp 0
def Xc.st (c : Xc) (t : Nat) (v : Value) : Xc := { c with f := upd c.f (some t) v }
def Xc.put (c : Xc) (v : Value) : Xc := match c.top with
 | .ops a (o :: r) => ⟨.ops a r, c.k, c.L, upd c.f o.dst v⟩
 | .qps a (o :: r) => ⟨.qps a r, c.k, c.L, upd c.f o.dst v⟩
 | .hst a s u L0 i => ⟨.hps a (s.setIfInBounds i true) u L0, c.k, c.L, upd c.f (a.getD i default).dst v⟩
 | _ => c
def xEnt (P : Program) (n : Nat) (c : Xc) : XR := match c.top with
 | .ops a (o :: _) => bif zP a n c.f o then (fun w => (execOp (ev n c.f) o).run P w) else fun w => .ok .skip w
 | .qps a (o :: _) => bif zP a n c.f o then (fun w => (execOp (ev n c.f) o).run P w) else fun w => .ok .skip w
 | .hst a _ _ _ i => bif zP a n c.f (a.getD i default) then (fun w => (execOp (ev n c.f) (a.getD i default)).run P w) else fun w => .ok .skip w
 | _ => fun w => .ok .skip w
def xNew (c : Xc) (x : Blk) : Xc := ⟨.ops (xA c) (xT c), c.k, x :: c.L, upd c.f (xO c).dst (.pointer (some ⟨x.b, 0, none⟩))⟩
def xQ (c : Xc) : Bool := match c.top with
 | .qps _ _ => true
 | .hps _ _ _ _ => true
 | .hst _ _ _ _ _ => true
 | _ => false
def xAdd (c : Xc) (ob : List Blk) : Xc := { c with L := c.L ++ ob }
section
variable {M : List Nat} {P : Program} {n : Nat} {W : World} {Q : Exit → Act → World → Prop} {c : Xc}
theorem ent_ne {k : FuncId} {args : Array Value} (h : (fun w : World => (Result.ok Next.skip w)) = fun w => .ok (.enter k args) w) : False := by
 have := congrFun h default
 simp at this
theorem no_ent {P : Program} {n : Nat} {f : Nat → Value} {k : FuncId} {args : Array Value} (h : (fun w : World => (execOp (ev n f) (default : Oper)).run P w) = fun w => .ok (.enter k args) w) : False := by
 have := congrFun h default
 unfold execOp at this
 simp [default, instInhabitedOper.default, instInhabitedOp.default] at this
theorem xput_call {k : FuncId} {args : Array Value} {v : Value} (hc : ∀ w, Own M W w c.L → Calls P k args w (YR v w)) (hg : zI M P n W Q (c.put v))
  (he : xEnt P n c = fun w => .ok (.enter k args) w) : zI M P n W Q c := by
 obtain ⟨top, kk, L, f⟩ := c
 unfold xEnt at he
 unfold Xc.put at hg
 dsimp only at he hg hc
 cases top with
 | ops a r => cases r with
  | nil => exact (ent_ne he).elim
  | cons o r =>
   dsimp only at he hg
   cases hw : zP a n f o with
   | false => rw [hw] at he; exact (ent_ne he).elim
   | true => rw [hw] at he; exact ⟨fun hq => s_call v hw (fun w => congrFun he w) hc (hg.go hq)⟩
 | qps a r => cases r with
  | nil => exact (ent_ne he).elim
  | cons o r =>
   dsimp only at he hg
   cases hw : zP a n f o with
   | false => rw [hw] at he; exact (ent_ne he).elim
   | true => rw [hw] at he; exact ⟨fun hq => q_call v hw (fun w => congrFun he w) hc (hg.go hq)⟩
 | hst a s u L0 i =>
  dsimp only at he hg
  cases hw : zP a n f (a.getD i default) with
  | false => rw [hw] at he; exact (ent_ne he).elim
  | true =>
   rw [hw] at he
   cases ha : a[i]? with
   | none =>
    have hd : a.getD i default = default := by rw [Array.getD_eq_getD_getElem?, ha]; rfl
    rw [hd] at he
    exact (no_ent (P := P) (n := n) he).elim
   | some o =>
    have hd : a.getD i default = o := by rw [Array.getD_eq_getD_getElem?, ha]; rfl
    rw [hd] at he hg hw
    exact ⟨fun hq hs => hl_call o v ha hw hs (fun w => congrFun he w) hc (hg.go hq hs)⟩
 | _ => exact (ent_ne he).elim
theorem zE {k : FuncId} {args : Array Value} {v : Value} (h : List Nat) (hc : ∀ w, Own M W w (xgo P n nS h c).L → Calls P k args w (YR v w)) (hg : zI M P n W Q ((xgo P n nS h c).put v))
  (hkt : (xgl P n nS h c, xEnt P n (xgo P n nS h c)) = (xgr P n nS h c, (fun w => .ok (.enter k args) w)) := by kernel_rfl) : zI M P n W Q c :=  by
 obtain ⟨hk, he⟩ := Prod.mk.inj hkt
 exact zQ h c hk (xput_call hc hg he)
theorem jX {k : FuncId} {args : Array Value} {R : Value → List Blk → Prop} (h : List Nat) (hc : ∀ w, Own M W w (xgo P n nS h c).L → Calls P k args w fun e w' => ∃ v ob, e = .returned v ∧ R v ob ∧ Own [] w w' ob)
  (hg : ∀ v ob, R v ob → zI M P n W Q (xAdd ((xgo P n nS h c).put v) ob)) (hkt : (xgl P n nS h c, ((xgo P n nS h c).top, zP (xA (xgo P n nS h c)) n (xgo P n nS h c).f (xO (xgo P n nS h c)))) = (xgr P n nS h c, (.ops (xA (xgo P n nS h c)) (xO (xgo P n nS h c) :: xT (xgo P n nS h c)), true)) := by kernel_rfl)
  (he : xEnt P n (xgo P n nS h c) = (fun w => .ok (.enter k args) w) := by kernel_rfl) : zI M P n W Q c := by
 obtain ⟨hk, ht⟩ := Prod.mk.inj hkt
 refine zQ h c hk ?_
 generalize xgo P n nS h c = d at hc hg ht he ⊢
 obtain ⟨top, kk, L, f⟩ := d
 generalize hA : xA ⟨top, kk, L, f⟩ = a at ht
 generalize hO : xO ⟨top, kk, L, f⟩ = o at ht
 generalize hT : xT ⟨top, kk, L, f⟩ = r at ht
 simp only [Prod.mk.injEq] at ht
 obtain ⟨rfl, hw⟩ := ht
 have hg' : ∀ v ob, R v ob → zI M P n W Q ⟨.ops a r, kk, L ++ ob, upd f o.dst v⟩ := hg
 simp only [xEnt, hw, cond_true] at he
 refine ⟨fun hq => s_callx (fun v L' => ∃ ob, L' = L ++ ob ∧ R v ob) hw (fun w => congrFun he w) (fun w hO => ((hc w hO).mono fun e w' ⟨v, ob, e1, e2, e3⟩ => ⟨v, L ++ ob, e1, ⟨ob, rfl, e2⟩, (Own.joinN hO e3).perm List.perm_append_comm⟩)) ?_⟩
 rintro v L' ⟨ob, rfl, hR⟩
 exact (hg' v ob hR).go hq
def xW0 (n : Nat) (c : Xc) : Bool := match c.top with
 | .ops a (o :: _) => zP a n c.f o
 | .hst a _ _ _ i => zP a n c.f (a.getD i default) && decide (i < a.size)
 | _ => false
theorem m7 {k : FuncId} {args : Array Value} {R : Value → Prop} (h : List Nat) (hc : ∀ w, Own M W w (xgo P n nS h c).L → Calls P k args w fun e w' => ∃ v, e = .returned v ∧ R v ∧ Below w.heap.size w w') (hg : ∀ v, R v → zI M P n W Q ((xgo P n nS h c).put v))
  (hkt : (xgl P n nS h c, xW0 n (xgo P n nS h c), xEnt P n (xgo P n nS h c)) = (xgr P n nS h c, true, fun w => .ok (.enter k args) w) := by kernel_rfl) : zI M P n W Q c := by
 simp only [Prod.mk.injEq] at hkt
 obtain ⟨hk, e1, e2⟩ := hkt
 refine zQ h c hk ?_
 generalize xgo P n nS h c = d at *
 obtain ⟨top, kk, L, f⟩ := d
 unfold xW0 at e1
 unfold xEnt at e2
 cases top with
 | ops a r => cases r with
  | nil => cases e1
  | cons o r =>
   dsimp only at e1 e2
   rw [e1] at e2
   have hg' : ∀ v, R v → zI M P n W Q ⟨.ops a r, kk, L, upd f o.dst v⟩ := hg
   refine ⟨fun hq => s_callx (fun v L' => L' = L ∧ R v) e1 (fun w => congrFun e2 w) (fun w hO => (hc w hO).mono fun e w' ⟨v, q1, q2, q3⟩ => ⟨v, L, q1, ⟨rfl, q2⟩, hO.on q3⟩) ?_⟩
   rintro v L' ⟨rfl, hR⟩
   exact (hg' v hR).go hq
 | hst a s u L0 i =>
  dsimp only at e1 e2
  rw [Bool.and_eq_true] at e1
  obtain ⟨hw, hi⟩ := e1
  have hi' : i < a.size := of_decide_eq_true hi
  rw [hw] at e2
  have hd : a[i]? = some (a.getD i default) := by rw [Array.getElem?_eq_getElem hi']; simp [Array.getD, hi']
  have hg' : ∀ v, R v → zI M P n W Q ⟨.hps a (s.setIfInBounds i true) u L0, kk, L, upd f (a.getD i default).dst v⟩ := hg
  refine ⟨fun hq hs => nU (a.getD i default) (fun v L' => L' = L ∧ R v) hd hw (fun w => congrFun e2 w) (fun w hO => (hc w hO).mono fun e w' ⟨v, q1, q2, q3⟩ => ⟨v, L, q1, ⟨rfl, q2⟩, hO.on q3⟩) (fun v L' ⟨e, _⟩ w hO => by subst e; exact hs w hO) ?_⟩
  rintro v L' ⟨rfl, hR⟩
  exact (hg' v hR).go hq hs
 | _ => cases e1
theorem x_set (t : Nat) (h : List Nat) (v : Value) (hv : (xgo P n t h c).f t = v) (hg : zI M P n W Q ((xgo P n t h c).st t v)) (hk : xgl P n t h c = xgr P n t h c := by kernel_rfl) : zI M P n W Q c := by
 refine zQ h c hk ?_
 unfold Xc.st at hg
 rw [← fH hv] at hg
 exact hg
theorem y9 (t : Nat) (h : List Nat) (p : Prop) [Decidable p] (h1 : p → zI M P n W Q ((xgo P n t h c).st t (.bool true))) (h2 : ¬ p → zI M P n W Q ((xgo P n t h c).st t (.bool false)))
  (hkt : (xgl P n t h c, (xgo P n t h c).f t) = (xgr P n t h c, .bool (decide p)) := by kernel_rfl) : zI M P n W Q c := by
 obtain ⟨hk, hv⟩ := Prod.mk.inj hkt
 by_cases hp : p
 ·exact x_set t h _ (hv.trans (by rw [decide_eq_true hp])) (h1 hp) hk
 ·exact x_set t h _ (hv.trans (by rw [decide_eq_false hp])) (h2 hp) hk
theorem d9 (t : Nat) (h : List Nat) (p : Prop) [Decidable p] (h1 : p → zI M P n W Q ((xgo P n t h c).st t (.bool false))) (h2 : ¬ p → zI M P n W Q ((xgo P n t h c).st t (.bool true)))
  (hkt : (xgl P n t h c, (xgo P n t h c).f t) = (xgr P n t h c, .bool (!decide p)) := by kernel_rfl) : zI M P n W Q c := by
 obtain ⟨hk, hv⟩ := Prod.mk.inj hkt
 by_cases hp : p
 ·exact x_set t h _ (hv.trans (by rw [decide_eq_true hp]; rfl)) (h1 hp) hk
 ·exact x_set t h _ (hv.trans (by rw [decide_eq_false hp]; rfl)) (h2 hp) hk
theorem tQ (t : Nat) (h : List Nat) (b : Bool) (h1 : b = true → zI M P n W Q ((xgo P n t h c).st t (.bool true))) (h2 : b = false → zI M P n W Q ((xgo P n t h c).st t (.bool false)))
  (hkt : (xgl P n t h c, (xgo P n t h c).f t) = (xgr P n t h c, .bool b) := by kernel_rfl) : zI M P n W Q c := by
 obtain ⟨hk, hv⟩ := Prod.mk.inj hkt
 cases b with
 | true => exact x_set t h _ hv (h1 rfl) hk
 | false => exact x_set t h _ hv (h2 rfl) hk
theorem x_sum {k : IntKind} (t : Nat) (h : List Nat) (z : Int) (hz : k.wrap z = z) (hg : zI M P n W Q ((xgo P n t h c).st t (.int k z)))
  (hkt : (xgl P n t h c, (xgo P n t h c).f t) = (xgr P n t h c, .int k (k.wrap z)) := by kernel_rfl) : zI M P n W Q c :=  by
 obtain ⟨hk, hv⟩ := Prod.mk.inj hkt
 exact x_set t h _ (hv.trans (by rw [hz])) hg hk
theorem kP (h : List Nat) (L' : List Blk) (hs : ∀ w, Own M W w (xgo P n nS h c).L → Own M W w L') (hg : zI M P n W Q { xgo P n nS h c with L := L' }) (hk : xgl P n nS h c = xgr P n nS h c := by kernel_rfl) (hqq : xQ (xgo P n nS h c) = false := by kernel_rfl) : zI M P n W Q c := by
 refine zQ h c hk ?_
 generalize xgo P n nS h c = d at hs hg hqq ⊢
 obtain ⟨top, kk, L, f⟩ := d
 cases top with
 | ops a r => exact ⟨fun hq => wV hs (hg.go hq)⟩
 | code x => exact ⟨fun hq => ok_take hs (hg.go hq)⟩
 | fin e => exact ⟨fun hq => vG hs (hg.go hq)⟩
 | _ => cases hqq
theorem zY (h : List Nat) (hg : ∀ b, zI M P n W Q (xNew (xgo P n nS h c) ⟨b, (xZ P (xO (xgo P n nS h c))).cells, xTy (xO (xgo P n nS h c))⟩)) (hkt : (xgl P n nS h c, ((xgo P n nS h c).top, zP (xA (xgo P n nS h c)) n (xgo P n nS h c).f (xO (xgo P n nS h c)), (xO (xgo P n nS h c)).op, (P.info? (xTy (xO (xgo P n nS h c)))).map (·.zero))) = (xgr P n nS h c, (.ops (xA (xgo P n nS h c)) (xO (xgo P n nS h c) :: xT (xgo P n nS h c)), true, .alloc (xTy (xO (xgo P n nS h c))), some (some (xZ P (xO (xgo P n nS h c)))))) := by kernel_rfl) : zI M P n W Q c := by
 obtain ⟨hk, ht⟩ := Prod.mk.inj hkt
 refine zQ h c hk ?_
 generalize xgo P n nS h c = d at hg ht ⊢
 simp only [Prod.mk.injEq] at ht
 obtain ⟨e1, e2, e3, e4⟩ := ht
 have key := fun hq => s_alloc_at (M := M) (W := W) (Q := KQ M P n W Q d.k) (rest := xT d) (L := d.L) _ e2 e3 e4 fun b => (hg b).go hq
 have : d = ⟨.ops (xA d) (xO d :: xT d), d.k, d.L, d.f⟩ := by rw [← e1]
 rw [this]
 exact ⟨key⟩
theorem xN (h : List Nat) (hg : ∀ b, zI M P n W Q (xNew (xgo P n nS h c) ⟨b, (xX n (xgo P n nS h c).f (xO (xgo P n nS h c))).cells, xTy (xO (xgo P n nS h c))⟩))
  (hkt : (xgl P n nS h c, (xgo P n nS h c).top, zP (xA (xgo P n nS h c)) n (xgo P n nS h c).f (xO (xgo P n nS h c)), (xO (xgo P n nS h c)).op)
   = (xgr P n nS h c, .ops (xA (xgo P n nS h c)) (xO (xgo P n nS h c) :: xT (xgo P n nS h c)), true, .box (xTy (xO (xgo P n nS h c))) (xBx (xO (xgo P n nS h c)))) := by kernel_rfl) : zI M P n W Q c := by
 simp only [Prod.mk.injEq] at hkt
 obtain ⟨hk, e1, e2, e3⟩ := hkt
 refine zQ h c hk ?_
 generalize xgo P n nS h c = d at *
 have hx : xX n d.f (xO d) = ev n d.f (xBx (xO d)) := by unfold xX; rw [e3]
 rw [hx] at hg
 have key := fun hq => s_box (M := M) (W := W) (Q := KQ M P n W Q d.k) (rest := xT d) (L := d.L) (ev n d.f (xBx (xO d))) e2 e3 rfl fun b => (hg b).go hq
 have : d = ⟨.ops (xA d) (xO d :: xT d), d.k, d.L, d.f⟩ := by rw [← e1]
 rw [this]
 exact ⟨key⟩
def xDr (c : Xc) : Array Oper := match xC c with
 | .region _ a true => a
 | _ => #[]
def xId (c : Xc) : Nat := match xC c with
 | .region i _ _ => i
 | _ => 0
theorem g6 (m : Nat) (h : List Nat) (L0 : List Blk) (hs : ∀ w, Own M W w (xgo P n nS h c).L → Own M W w L0) (hg : zI M P n W Q ⟨.hps ((xDr (xgo P n nS h c)).toList.take m).toArray (Array.replicate m false) m L0, .tl (xDr (xgo P n nS h c)) ((xDr (xgo P n nS h c)).toList.drop m) :: (xgo P n nS h c).k, (xgo P n nS h c).L, (xgo P n nS h c).f⟩)
  (hkt : (xgl P n nS h c, (xgo P n nS h c).top, P.follows .mixedOrders, preB .any (xDr (xgo P n nS h c)).toList m) = (xgr P n nS h c, .code (.region (xId (xgo P n nS h c)) (xDr (xgo P n nS h c)) true), true, true) := by kernel_rfl) : zI M P n W Q c := by
 simp only [Prod.mk.injEq] at hkt
 obtain ⟨hk, e1, e2, e3⟩ := hkt
 refine zQ h c hk ?_
 generalize xgo P n nS h c = d at hs hg e1 e3 ⊢
 generalize xDr d = a at hg e1 e3
 obtain ⟨l, rfl⟩ : ∃ l : List Oper, a = l.toArray := ⟨a.toList, by simp⟩
 have : d = ⟨.code (.region (xId d) l.toArray true), d.k, d.L, d.f⟩ := by rw [← e1]
 rw [this]
 have hg' : zI M P n W Q ⟨.hps (l.take m).toArray (Array.replicate m false) m L0, .tl l.toArray (l.drop m) :: d.k, d.L, d.f⟩ := by simpa using hg
 exact ⟨fun hq => ok_drawh m L0 e2 (by simpa using e3) (hg'.go hq hs)⟩
def xS (c : Xc) : Array Bool := match c.top with
 | .hps _ s _ _ => s
 | _ => #[]
def xU (c : Xc) : Nat := match c.top with
 | .hps _ _ u _ => u.pred
 | _ => 0
def xL0 (c : Xc) : List Blk := match c.top with
 | .hps _ _ _ l => l
 | _ => []
def xHs (c : Xc) (i : Nat) : Xc := { c with top := .hst (xA c) (xS c) (xU c) (xL0 c) i }
theorem gR (h : List Nat) (i : Nat) (hg : zI M P n W Q (xHs (xgo P n nS h c) i))
  (hkt : (xgl P n nS h c, (xgo P n nS h c).top, Region.ready .any (xA (xgo P n nS h c)) (xS (xgo P n nS h c))) = (xgr P n nS h c, .hps (xA (xgo P n nS h c)) (xS (xgo P n nS h c)) (xU (xgo P n nS h c) + 1) (xL0 (xgo P n nS h c)), [i]) := by kernel_rfl) : zI M P n W Q c := by
 simp only [Prod.mk.injEq] at hkt
 obtain ⟨hk, e1, e2⟩ := hkt
 refine zQ h c hk ?_
 generalize xgo P n nS h c = d at hg e1 e2 ⊢
 have : d = ⟨.hps (xA d) (xS d) (xU d + 1) (xL0 d), d.k, d.L, d.f⟩ := by rw [← e1]
 rw [this]
 exact ⟨fun hq hs => h_one i e2 (hg.go hq hs)⟩
def hS (c : Xc) : Array Bool := match c.top with
 | .hst _ s _ _ _ => s
 | _ => #[]
def hU (c : Xc) : Nat := match c.top with
 | .hst _ _ u _ _ => u
 | _ => 0
def hL (c : Xc) : List Blk := match c.top with
 | .hst _ _ _ l _ => l
 | _ => []
def hI (c : Xc) : Nat := match c.top with
 | .hst _ _ _ _ i => i
 | _ => 0
def hNew (c : Xc) (x : Blk) (v : Value) : Xc := ⟨.hps (xA c) ((hS c).setIfInBounds (hI c) true) (hU c) (hL c), c.k, x :: c.L, upd c.f (xO c).dst v⟩
theorem Own.left {L ob : List Blk} {w : World} (h : Own M W w (L ++ ob)) : Own M W w L := Own.sub ob (h.perm List.perm_append_comm)
theorem xh_alloc (hg : ∀ b, zI M P n W Q (hNew c ⟨b, (xZ P (xO c)).cells, xTy (xO c)⟩ (.pointer (some ⟨b, 0, none⟩))))
  (hkt : (c.top, (xA c)[hI c]?, zP (xA c) n c.f (xO c), (xO c).op, (P.info? (xTy (xO c))).map (·.zero)) = (.hst (xA c) (hS c) (hU c) (hL c) (hI c), some (xO c), true, .alloc (xTy (xO c)), some (some (xZ P (xO c)))) := by kernel_rfl) : zI M P n W Q c := by
 simp only [Prod.mk.injEq] at hkt
 obtain ⟨e1, e2, e3, e4, e5⟩ := hkt
 have : c = ⟨.hst (xA c) (hS c) (hU c) (hL c) (hI c), c.k, c.L, c.f⟩ := by rw [← e1]
 rw [this]
 refine ⟨fun hq hs => hl_step (xO c) e2 e3 (fun _ _ _ => True) fun w hO => ?_⟩
 cases hi : P.info? (xTy (xO c)) with
 | none => rw [hi] at e5; cases e5
 | some i =>
  rw [hi] at e5
  have hz : i.zero = some (xZ P (xO c)) := Option.some.inj e5
  refine gT (Zp w.heap.size 0) (w' := w.alloc (.cells (xZ P (xO c)).cells (xTy (xO c)))) ?_ ⟨_, _, rfl, hO.alloc _ _, hs _ (Own.sub [_] (hO.alloc _ _)), (hg w.heap.size).go hq fun w hO => hs w (Own.sub [_] hO)⟩
  unfold execOp
  simp [e4, Instr.alloc, zeroValue, typeInfo, hi, hz, newVar, newRow, Sem.run_bind]
theorem m6 (len : Nat) (T : TypeId) (cs : Array Value) (hg : ∀ b, zI M P n W Q (hNew c ⟨b, cs, T⟩ (.slice (some ⟨b, 0, none⟩) len len)))
  (hkt : (c.top, (xA c)[hI c]?, zP (xA c) n c.f (xO c), fun w => (execOp (ev n c.f) (xO c)).run P w) = (.hst (xA c) (hS c) (hU c) (hL c) (hI c), some (xO c), true, fun w => .ok (.value (.slice (some ⟨w.heap.size, 0, none⟩) len len)) (w.alloc (.cells cs T))) := by kernel_rfl) : zI M P n W Q c := by
 simp only [Prod.mk.injEq] at hkt
 obtain ⟨e1, e2, e3, e4⟩ := hkt
 have : c = ⟨.hst (xA c) (hS c) (hU c) (hL c) (hI c), c.k, c.L, c.f⟩ := by rw [← e1]
 rw [this]
 exact ⟨fun hq hs => hl_step (xO c) e2 e3 (fun _ _ _ => True) fun w hO => gT _ (congrFun e4 w) ⟨_, _, rfl, hO.alloc _ _, hs _ (Own.sub [_] (hO.alloc _ _)), (hg w.heap.size).go hq fun w hO => hs w (Own.sub [_] hO)⟩⟩
theorem fE (h : List Nat) (len : Nat) (T : TypeId) (cs : Array Value) (hg : ∀ b, zI M P n W Q ⟨.ops (xA (xgo P n nS h c)) (xT (xgo P n nS h c)), (xgo P n nS h c).k, ⟨b, cs, T⟩ :: (xgo P n nS h c).L, upd (xgo P n nS h c).f (xO (xgo P n nS h c)).dst (.slice (some ⟨b, 0, none⟩) len len)⟩)
  (hkt : (xgl P n nS h c, (xgo P n nS h c).top, zP (xA (xgo P n nS h c)) n (xgo P n nS h c).f (xO (xgo P n nS h c)), fun w => (execOp (ev n (xgo P n nS h c).f) (xO (xgo P n nS h c))).run P w)
   = (xgr P n nS h c, .ops (xA (xgo P n nS h c)) (xO (xgo P n nS h c) :: xT (xgo P n nS h c)), true, fun w => .ok (.value (.slice (some ⟨w.heap.size, 0, none⟩) len len)) (w.alloc (.cells cs T))) := by kernel_rfl) : zI M P n W Q c := by
 simp only [Prod.mk.injEq] at hkt
 obtain ⟨hk, e1, e3, e4⟩ := hkt
 refine zQ h c hk ?_
 generalize xgo P n nS h c = d at *
 have : d = ⟨.ops (xA d) (xO d :: xT d), d.k, d.L, d.f⟩ := by rw [← e1]
 rw [this]
 exact ⟨fun hq => v6 e3 fun w hO => gT _ (congrFun e4 w) (((hg w.heap.size).go hq).go _ (hO.alloc _ _))⟩
theorem nB {k : FuncId} {args : Array Value} {R : Value → List Blk → Prop} (hc : ∀ w, Own M W w c.L → Calls P k args w fun e w' => ∃ v ob, e = .returned v ∧ R v ob ∧ Own [] w w' ob)
  (hg : ∀ v ob, R v ob → zI M P n W Q (xAdd (c.put v) ob))
  (hkt : (c.top, (xA c)[hI c]?, zP (xA c) n c.f (xO c), fun w => (execOp (ev n c.f) (xO c)).run P w) = (.hst (xA c) (hS c) (hU c) (hL c) (hI c), some (xO c), true, fun w => .ok (.enter k args) w) := by kernel_rfl) : zI M P n W Q c := by
 simp only [Prod.mk.injEq] at hkt
 obtain ⟨e1, e2, e3, e4⟩ := hkt
 have hc' : c = ⟨.hst (xA c) (hS c) (hU c) (hL c) (hI c), c.k, c.L, c.f⟩ := by rw [← e1]
 have hg' : ∀ v ob, R v ob → zI M P n W Q ⟨.hps (xA c) ((hS c).setIfInBounds (hI c) true) (hU c) (hL c), c.k, c.L ++ ob, upd c.f (xO c).dst v⟩ := fun v ob h => by
  have hp : xAdd (c.put v) ob = ⟨.hps (xA c) ((hS c).setIfInBounds (hI c) true) (hU c) (hL c), c.k, c.L ++ ob, upd c.f (xO c).dst v⟩ := by
   have ho : xO c = (xA c).getD (hI c) default := by unfold xO; rw [e1]
   unfold Xc.put
   rw [e1, ho]
   rfl
  rw [← hp]; exact hg v ob h
 rw [hc']
 refine ⟨fun hq hs => nU (xO c) (fun v L' => ∃ ob, L' = c.L ++ ob ∧ R v ob) e2 e3 (fun w => congrFun e4 w) (fun w hO => ((hc w hO).mono fun e w' ⟨v, ob, q1, q2, q3⟩ => ⟨v, c.L ++ ob, q1, ⟨ob, rfl, q2⟩, (Own.joinN hO q3).perm List.perm_append_comm⟩)) (fun v L' ⟨ob, e, _⟩ w hO => by subst e; exact hs w hO.left) ?_⟩
 rintro v L' ⟨ob, rfl, hR⟩
 exact (hg' v ob hR).go hq fun w hO => hs w hO.left
def xV (f : Nat → Value) (l : List (Nat × Value)) : List Value := l.map fun p => f p.1
theorem gQ {f : Nat → Value} : ∀ {l : List (Nat × Value)}, xV f l = l.map Prod.snd → tN f l
 | [], _ => trivial
 | p :: r, h => ⟨(List.cons.inj h).1, gQ (List.cons.inj h).2⟩
def xJ {α : Type} (lv : α → List (Nat × Value)) (Lf : α → List Blk) (rel : α → Prop) : List Blk → (Nat → Value) → Prop := fun L f => ∃ x, rel x ∧ L = Lf x ∧ tN f (lv x)
def Nj (M : List Nat) (P : Program) (n : Nat) (W : World) {α : Type} (lv : α → List (Nat × Value)) (Lf : α → List Blk) (rel : α → Prop) : Prop :=
 ∀ (x' : α) (h : List Nat) {c' : Xc}, rel x' → (xgl P n nS h c', (xgo P n nS h c').top, (xgo P n nS h c').k, (xgo P n nS h c').L, xV (xgo P n nS h c').f (lv x')) = (xgr P n nS h c', .fin .normal, [], Lf x', (lv x').map Prod.snd) → zI M P n W (JoinQ M n W (xJ lv Lf rel)) c'
theorem x_join {α : Type} (lv : α → List (Nat × Value)) (Lf : α → List Blk) (rel : α → Prop) (h : List Nat) (h1 : Nj M P n W lv Lf rel → zI M P n W (JoinQ M n W (xJ lv Lf rel)) ⟨.code (xC (xgo P n nS h c)), [], (xgo P n nS h c).L, (xgo P n nS h c).f⟩)
  (h2 : ∀ x g, rel x → zI M P n W Q ⟨.fin .normal, (xgo P n nS h c).k, Lf x, j6 g (lv x)⟩) (hkt : (xgl P n nS h c, (xgo P n nS h c).top) = (xgr P n nS h c, .code (xC (xgo P n nS h c))) := by kernel_rfl) : zI M P n W Q c := by
 obtain ⟨hk, e1⟩ := Prod.mk.inj hkt
 refine zQ h c hk ?_
 generalize xgo P n nS h c = d at *
 have : d = ⟨.code (xC d), d.k, d.L, d.f⟩ := by rw [← e1]
 rw [this]
 refine ⟨fun hq => ok_join (xJ lv Lf rel) ((h1 fun x' h c' hr hkt' => ?_).go pq_join) fun L f ⟨x, hr, hL, hA⟩ => ?_⟩
 ·simp only [Prod.mk.injEq] at hkt'
  obtain ⟨hk', f1, f2, f3, f4⟩ := hkt'
  refine zQ h c' hk' ?_
  generalize xgo P n nS h c' = d' at *
  have : d' = ⟨.fin .normal, [], d'.L, d'.f⟩ := by rw [← f1, ← f2]
  rw [this]
  exact ⟨fun _ => fin_join ⟨x', hr, f3, gQ f4⟩⟩
 ·subst hL
  rw [qN _ hA]
  exact (h2 x f hr).go hq
theorem x_joinC {α : Type} (d0 : Nat) (lv : α → List (Nat × Value)) (Lf : α → List Blk) (rel : α → Prop) (h : List Nat) (h1 : Nj M P n W lv Lf rel → zI M P n W (JoinQ M n W (xJ lv Lf rel)) ⟨.code (xC (xgo P n (xCt d0) h c)), [], (xgo P n (xCt d0) h c).L, (xgo P n (xCt d0) h c).f⟩)
  (h2 : ∀ x g, rel x → zI M P n W Q ⟨.fin .normal, (xgo P n (xCt d0) h c).k, Lf x, j6 g (lv x)⟩) (hkt : (xgl P n (xCt d0) h c, (xgo P n (xCt d0) h c).top) = (xgr P n (xCt d0) h c, .code (xC (xgo P n (xCt d0) h c))) := by kernel_rfl) : zI M P n W Q c := by
 obtain ⟨hk, e1⟩ := Prod.mk.inj hkt
 refine zQ h c hk ?_
 generalize xgo P n (xCt d0) h c = d at *
 have : d = ⟨.code (xC d), d.k, d.L, d.f⟩ := by rw [← e1]
 rw [this]
 refine ⟨fun hq => ok_join (xJ lv Lf rel) ((h1 fun x' h c' hr hkt' => ?_).go pq_join) fun L f ⟨x, hr, hL, hA⟩ => ?_⟩
 ·simp only [Prod.mk.injEq] at hkt'
  obtain ⟨hk', f1, f2, f3, f4⟩ := hkt'
  refine zQ h c' hk' ?_
  generalize xgo P n nS h c' = d' at *
  have : d' = ⟨.fin .normal, [], d'.L, d'.f⟩ := by rw [← f1, ← f2]
  rw [this]
  exact ⟨fun _ => fin_join ⟨x', hr, f3, gQ f4⟩⟩
 ·subst hL
  rw [qN _ hA]
  exact (h2 x f hr).go hq
theorem bS (t : Nat) (p : Prop) [Decidable p] (h1 : p → zI M P n W Q (c.st t (.bool true))) (h2 : ¬ p → zI M P n W Q (c.st t (.bool false))) (hv : c.f t = .bool (decide p) := by kernel_rfl) : zI M P n W Q c := by
 by_cases hp : p
 ·have h := h1 hp
  unfold Xc.st at h
  rw [← fH (hv.trans (by rw [decide_eq_true hp]))] at h
  exact h
 ·have h := h2 hp
  unfold Xc.st at h
  rw [← fH (hv.trans (by rw [decide_eq_false hp]))] at h
  exact h
def xI {α : Type} (lv : α → List (Nat × Value)) (Lf : α → List Blk) (rel : α → Nat → Prop) : List Blk → (Nat → Value) → Nat → Prop := fun L f m => ∃ x, rel x m ∧ L = Lf x ∧ tN f (lv x)
def Nx (M : List Nat) (P : Program) (n : Nat) (W : World) (Q : Exit → Act → World → Prop) {α : Type} (lv : α → List (Nat × Value)) (Lf : α → List Blk) (rel : α → Nat → Prop) (kk : List XIt) (k : Nat) : Prop :=
 ∀ (x' : α) (k' : Nat) (h : List Nat) {c' : Xc}, k' < k → rel x' k' → xgl P n nS h c' = xgr P n nS h c' → ((xgo P n nS h c').top, (xgo P n nS h c').k, (xgo P n nS h c').L, xV (xgo P n nS h c').f (lv x')) = (.fin .normal, kk, Lf x', (lv x').map Prod.snd) → zI M P n W Q c'
theorem yY {α : Type} (lv : α → List (Nat × Value)) (Lf : α → List Blk) (rel : α → Nat → Prop) (x0 : α) (m0 : Nat) (h : List Nat) (h0 : rel x0 m0)
  (hg : ∀ x k g kk, rel x k → Nx M P n W Q lv Lf rel (kk :: (xgo P n nS h c).k) k → kk = .lp (xI lv Lf rel) k → zI M P n W Q ⟨.code (pT (xgo P n nS h c)), .lp (xI lv Lf rel) k :: (xgo P n nS h c).k, Lf x, j6 g (lv x)⟩)
  (hkt : (xgl P n nS h c, ((xgo P n nS h c).top, (xgo P n nS h c).L, xV (xgo P n nS h c).f (lv x0))) = (xgr P n nS h c, (.code (.loop (pT (xgo P n nS h c))), Lf x0, (lv x0).map Prod.snd)) := by kernel_rfl) : zI M P n W Q c := by
 obtain ⟨hk, ht⟩ := Prod.mk.inj hkt
 refine zQ h c hk ?_
 generalize xgo P n nS h c = d at hg ht ⊢
 simp only [Prod.mk.injEq] at ht
 obtain ⟨e1, e2, e3⟩ := ht
 have : d = ⟨.code (.loop (pT d)), d.k, d.L, d.f⟩ := by rw [← e1]
 rw [this]
 refine ⟨fun hq => vJ (xI lv Lf rel) m0 ⟨x0, h0, e2, gQ e3⟩ fun L f k ⟨x, hr, hL, hA⟩ => ?_⟩
 subst hL
 rw [qN _ hA]
 refine (hg x k f _ hr (fun x' k' h c' hlt hr' hk' ht' => zQ h c' hk' ?_) rfl).go hq
 generalize xgo P n nS h c' = d' at ht' ⊢
 simp only [Prod.mk.injEq] at ht'
 obtain ⟨f1, f2, f3, f4⟩ := ht'
 have : d' = ⟨.fin .normal, .lp (xI lv Lf rel) k :: d.k, d'.L, d'.f⟩ := by rw [← f1, ← f2]
 rw [this]
 exact ⟨fun _ => yZ hlt ⟨x', hr', f3, gQ f4⟩⟩
def Nex (M : List Nat) (P : Program) (n : Nat) (W : World) (Q : Exit → Act → World → Prop) {β : Type} (lv : β → List (Nat × Value)) (Lf : β → List Blk) (rel : β → Prop) (kk : List XIt) : Prop :=
 ∀ (y : β) (h : List Nat) {c' : Xc}, rel y → (xgl P n (xAt (xlen kk)) h c', (xgo P n (xAt (xlen kk)) h c').top, (xgo P n (xAt (xlen kk)) h c').k, (xgo P n (xAt (xlen kk)) h c').L, xV (xgo P n (xAt (xlen kk)) h c').f (lv y)) = (xgr P n (xAt (xlen kk)) h c', .fin .normal, kk, Lf y, (lv y).map Prod.snd) → zI M P n W Q c'
theorem bR (m : Nat) (h : List Nat) (hg : zI M P n W Q ⟨.code (pT (xgo P n nS h c)), .rd (pT (xgo P n nS h c)) m :: (xgo P n nS h c).k, (xgo P n nS h c).L, (xgo P n nS h c).f⟩)
  (hkt : (xgl P n nS h c, (xgo P n nS h c).top) = (xgr P n nS h c, .code (.loop (pT (xgo P n nS h c)))) := by kernel_rfl) : zI M P n W Q c := by
 obtain ⟨hk, e1⟩ := Prod.mk.inj hkt
 refine zQ h c hk ?_
 generalize xgo P n nS h c = d at *
 have : d = ⟨.code (.loop (pT d)), d.k, d.L, d.f⟩ := by rw [← e1]
 rw [this]
 exact ⟨fun hq => ⟨fun w hO => wp_loop_rounds (m + 1) ((hg.go hq).go w hO)⟩⟩
theorem zL {k : FuncId} {fn : Func} {args : Array Value} {R : Ending → World → Prop} (hf : P.funcs[k]? = some fn) (hg : zI [] P fn.ntmps W (bodyPost P fn R) ⟨.code (fn.body.getD .skip), [], [], fun t => args.getD t undef⟩)
  (hb : fn.body.isSome = true := by kernel_rfl) (hle : Nat.ble args.size fn.ntmps = true := by kernel_rfl) : Calls P k args W R := by
 cases hb' : fn.body with
 | none => rw [hb'] at hb; cases hb
 | some b => rw [hb'] at hg; exact calls_ok hf hb' rfl hle (hg.go qA)
def xRt (fn : Func) (i : Nat) : Tmp := match fn.results[i]? with
 | some (.tmp t) => t
 | some (.cell t _) => t
 | _ => 0
def xRy (fn : Func) (i : Nat) : TypeId := match fn.results[i]? with
 | some (.cell _ y) => y
 | _ => 0
theorem zB {fn : Func} {R : Ending → World → Prop} (h : List Nat) (v : Value) (hR : ∀ w, Own M W w (xgo P n nS h c).L → R (.returned v) w) (hkt : (xgl P n nS h c, ((xgo P n nS h c).top, (xgo P n nS h c).k, fn.results, ev n (xgo P n nS h c).f (.tmp (xRt fn 0)))) = (xgr P n nS h c, (.fin .ret, [], #[.tmp (xRt fn 0)], v)) := by kernel_rfl) : zI M P n W (bodyPost P fn R) c := by
 obtain ⟨hk, ht⟩ := Prod.mk.inj hkt
 refine zQ h c hk ?_
 generalize xgo P n nS h c = d at hR ht ⊢
 obtain ⟨top, kk, L, f⟩ := d
 simp only [Prod.mk.injEq] at ht
 obtain ⟨rfl, rfl, e3, e4⟩ := ht
 exact ⟨fun _ => fin_ret v e3 e4 hR⟩
theorem qG {fn : Func} {R : Ending → World → Prop} (h : List Nat) (v v' : Value) (hR : ∀ w, Own M W w (xgo P n nS h c).L → R (.returned (.tuple #[v, v'])) w) (hkt : (xgl P n nS h c, ((xgo P n nS h c).top, (xgo P n nS h c).k, fn.results, ev n (xgo P n nS h c).f (.tmp (xRt fn 0)), ev n (xgo P n nS h c).f (.tmp (xRt fn 1)))) = (xgr P n nS h c, (.fin .ret, [], #[.tmp (xRt fn 0), .tmp (xRt fn 1)], v, v')) := by kernel_rfl) : zI M P n W (bodyPost P fn R) c := by
 obtain ⟨hk, ht⟩ := Prod.mk.inj hkt
 refine zQ h c hk ?_
 generalize xgo P n nS h c = d at hR ht ⊢
 obtain ⟨top, kk, L, f⟩ := d
 simp only [Prod.mk.injEq] at ht
 obtain ⟨rfl, rfl, e3, e4, e5⟩ := ht
 exact ⟨fun _ => fin_ret2 v v' e3 e4 e5 hR⟩
end
end
section
theorem mk_take (s : List UInt8) (j : Nat) : (mkS s).extract 0 j = mkS (s.take j) := by rw [mS, mk_data]; simp
theorem mk_drop (s : List UInt8) (j : Nat) : (mkS s).extract j (mkS s).size = mkS (s.drop j) := by
 rw [mS, mk_data, yC]
 congr 1
 exact List.take_of_length_le (by rw [List.length_drop]; omega)
theorem run_strhi {P : Program} {ρ : Operand → Value} {o : Oper} {t : TypeId} {x z : Operand} {s : List UInt8} {k : IntKind} {j : Int} (ho : o.op = .slice t x none (some z) none) (hx : ρ x = .string (mkS s)) (hz : ρ z = .int k j)
  (hu : P.underlying t = some .string) (h0 : 0 ≤ j) (h1 : j ≤ s.length) (w : World) : (execOp ρ o).run P w = .ok (.value (.string (mkS (s.take j.toNat)))) w := by
 unfold execOp
 have h2 : j ≤ ((mkS s).size : Int) := by rw [yC]; exact h1
 simp [ho, hx, hz, Instr.sliceAt, Instr.slice, Instr.sliceBounds, Instr.sliceBound, Sem.run_bind, asIntOf, run_underlying hu, h0, h2, mk_take]
theorem run_strlo {P : Program} {ρ : Operand → Value} {o : Oper} {t : TypeId} {x y : Operand} {s : List UInt8} {k : IntKind} {j : Int} (ho : o.op = .slice t x (some y) none none) (hx : ρ x = .string (mkS s)) (hy : ρ y = .int k j)
  (hu : P.underlying t = some .string) (h0 : 0 ≤ j) (h1 : j ≤ s.length) (w : World) : (execOp ρ o).run P w = .ok (.value (.string (mkS (s.drop j.toNat)))) w := by
 unfold execOp
 have h2 : j ≤ ((mkS s).size : Int) := by rw [yC]; exact h1
 simp [ho, hx, hy, Instr.sliceAt, Instr.slice, Instr.sliceBounds, Instr.sliceBound, Sem.run_bind, asIntOf, run_underlying hu, h0, h2, mk_drop]
theorem bV {P : Program} {ρ : Operand → Value} {o : Oper} {t t' : TypeId} {x y : Operand} {a b : List UInt8} (ho : o.op = .binOp .add t x y t') (hx : ρ x = .string (mkS a)) (hy : ρ y = .string (mkS b)) (hb : a.length + b.length ≤ 4000000000) (w : World) : (execOp ρ o).run P w = .ok (.value (.string (mkS (a ++ b)))) w := by
 unfold execOp
 have h1 : ¬ (9223372036854775807 : Int) < ((mkS a).size : Int) + ((mkS b).size : Int) := by rw [yC, yC]; omega
 simp [ho, hx, hy, Sem.run_bind, eqGuard, binOp, Op.stringOp, gH, h1]
section
variable {M : List Nat} {P : Program} {n0 : Nat} {ops : Array Oper} {W : World} {Q : Exit → Act → World → Prop} {rest : List Oper} {o : Oper} {L : List Blk} {f : Nat → Value}
end
section
variable {M : List Nat} {P : Program} {n : Nat} {ops : Array Oper} {W : World} {L0 : List Blk} {Q : Exit → Act → World → Prop} {fuel : Nat} {listed : Array Bool} {f : Nat → Value}
end
end
section
section
variable {M : List Nat} {P : Program} {n : Nat} {ops : Array Oper} {W : World} {L0 : List Blk} {Q : Exit → Act → World → Prop} {fuel : Nat} {listed : Array Bool} {f : Nat → Value}
end
end
section
end
section
section
variable {M : List Nat} {P : Program} {n : Nat} {ops : Array Oper} {W : World} {L0 : List Blk} {Q : Exit → Act → World → Prop} {fuel : Nat} {listed : Array Bool} {f : Nat → Value}
theorem hs_cast {i : Nat} {L L' : List Blk} (e : L = L') (h : bD M P n ops W L0 Q fuel listed i L' f) : bD M P n ops W L0 Q fuel listed i L f := by subst e; exact h
theorem qB {L L' : List Blk} {w : World} (D : List Blk) (h : Own M W w L) (e : ∀ p : Blk → Bool, L.countP p = (D ++ L').countP p) : Own M W w L' := by
 classical
 refine Own.sub D (h.perm ?_)
 rw [List.perm_iff_count]
 intro a
 exact e fun x => x == a
end
end
section
structure Fv where
 name : List UInt8
 A : Option Addr
 of : List (List UInt8)
 cap : Nat
def fvC (x : Fv) : List Value := [.string (mkS x.name), .slice x.A x.of.length x.cap]
theorem wA (x : Fv) : (fvC x).length = 2 := rfl
def fvV (x : Fv) : Value := .agg #[.string (mkS x.name), .slice x.A x.of.length x.cap]
def Fv.ft (x : Fv) : Ft := ⟨x.name, x.of⟩
def kC (xs : List Fv) : List Ft := xs.map Fv.ft
theorem d3 (xs : List Fv) : (kC xs).length = xs.length := List.length_map ..
theorem ftOf_take (xs : List Fv) (k : Nat) : kC (xs.take k) = (kC xs).take k := by unfold kC; rw [List.map_take]
theorem ftOf_get {xs : List Fv} {i : Nat} (hi : i < xs.length) {x : Fv} (h : xs[i] = x) : (kC xs)[i]'(by rw [d3]; exact hi) = x.ft := by
 unfold kC; rw [List.getElem_map, h]
structure FtIn (w : World) (B : Nat) (A : Option Addr) (xs : List Fv) : Prop where
 top : Reads fvC w B A xs
 each : ∀ x ∈ xs, Reads yE w B x.A x.of
 n : xs.length ≤ 5000
 m : ∀ x ∈ xs, x.of.length ≤ 5000
 name : ∀ x ∈ xs, x.name.length ≤ 1000000
 text : ∀ x ∈ xs, ∀ s ∈ x.of, s.length ≤ 1000000
theorem FtIn.on {w w' : World} {B B' : Nat} {A : Option Addr} {xs : List Fv} (h : FtIn w B A xs) (hb : Below B w w') (hB : B ≤ B') : FtIn w' B' A xs := ⟨h.top.on hb hB, fun x hx => (h.each x hx).on hb hB, h.n, h.m, h.name, h.text⟩
def findI (l : List Ft) (n : List UInt8) : Int := match findT l n with
 | some i => (i : Int)
 | none => -1
theorem findI_at {l : List Ft} {n : List UInt8} {i : Nat} (hi : i < l.length) (h : l[i].name = n) (h0 : ∀ f ∈ l.take i, ¬ f.name = n) : findT l n = some i := by
 unfold findT
 rw [List.findIdx?_eq_some_iff_getElem]
 refine ⟨hi, decide_eq_true h, fun j hj => ?_⟩
 simpa using h0 l[j] (List.mem_take_iff_getElem.2 ⟨j, by omega, rfl⟩)
theorem findI_none {l : List Ft} {n : List UInt8} (h0 : ∀ f ∈ l, ¬ f.name = n) : findT l n = none := by
 unfold findT
 rw [List.findIdx?_eq_none_iff]
 exact fun x hx => decide_eq_false (h0 x hx)
theorem findI_isT {l : List Ft} {n : List UInt8} : isT l n = (decide (n = dfl) || decide (0 ≤ findI l n)) := by
 unfold isT findI
 cases findT l n <;> simp
end
section
set_option linter.unnecessarySimpa false
def wordT (k : Nat) : List UInt8 := if k = 0 then [120] else if k = 1 then [121] else if k = 2 then [122] else [119, 95, 49]
def nameT (k : Nat) : List UInt8 := if k = 0 then [97, 112, 112] else if k = 1 then [98] else if k = 2 then [99] else if k = 3 then [100] else [101, 45, 50]
end
section
def oT (o : Oper) : TypeId := match o.op with
 | .index t _ _ => t
 | .indexAddr t _ _ => t
 | .binOp _ t _ _ _ => t
 | .load t _ => t
 | _ => 0
def oU (o : Oper) : TypeId := match o.op with
 | .binOp _ _ _ _ t => t
 | _ => 0
def oX (o : Oper) : Operand := match o.op with
 | .index _ x _ => x
 | .indexAddr _ x _ => x
 | .binOp _ _ x _ _ => x
 | .load _ x => x
 | _ => .tmp 0
def oY (o : Oper) : Operand := match o.op with
 | .index _ _ y => y
 | .indexAddr _ _ y => y
 | .binOp _ _ _ y _ => y
 | _ => .tmp 0
def xAg : Value → Array Value
 | .agg vs => vs
 | _ => #[]
def xEl (P : Program) (t : TypeId) : TypeId := match P.underlying t with
 | some (.array _ e) => e
 | some (.slice e) => e
 | _ => 0
def xW (n : Nat) (c : Xc) : Bool := match c.top with
 | .ops a (o :: _) => zP a n c.f o
 | .qps a (o :: _) => zP a n c.f o
 | _ => false
section
variable {M : List Nat} {P : Program} {n : Nat} {W : World} {Q : Exit → Act → World → Prop} {c : Xc}
theorem fD (t : Nat) (h : List Nat) (v0 v : Value) (e : v0 = v) (hg : zI M P n W Q ((xgo P n t h c).st t v)) (hkt : (xgl P n t h c, (xgo P n t h c).f t) = (xgr P n t h c, v0) := by kernel_rfl) : zI M P n W Q c := by
 obtain ⟨hk, hv⟩ := Prod.mk.inj hkt
 exact x_set t h v (hv.trans e) hg hk
theorem x_i (t : Nat) (h : List Nat) (z : Int) (hg : zI M P n W Q ((xgo P n t h c).st t (YI z))) (hz : -9223372036854775808 ≤ z ∧ z ≤ 9223372036854775807 := by omega)
  (hkt : (xgl P n t h c, (xgo P n t h c).f t) = (xgr P n t h c, YI (IntKind.i64.wrap z)) := by kernel_rfl) : zI M P n W Q c :=  by
 obtain ⟨hk, hv⟩ := Prod.mk.inj hkt
 exact x_sum t h z (IntWalk.i64_in _ hz) hg hkt
theorem Own.nth {L : List Blk} {w : World} (i : Nat) (x : Blk) (hO : Own M W w L) (h : L[i]? = some x := by kernel_rfl) : Own M W w [x] := hO.take (fun y hy => by rw [List.mem_singleton.1 hy]; exact List.mem_of_getElem? h) (by simp)
theorem Own.past {L : List Blk} {w : World} (i : Nat) (L' : List Blk) (hO : Own M W w L) (h : L.drop i = L' := by kernel_rfl) : Own M W w L' := by
 rw [← h]
 exact Own.sub (L.take i) (by rw [List.take_append_drop]; exact hO)
theorem Own.cast {L L' : List Blk} {w : World} (hO : Own M W w L) (e : L = L') : Own M W w L' := e ▸ hO
theorem Own.no {L : List Blk} {w : World} (hO : Own M W w L) : Own M W w [] := hO.take (fun y hy => by simp at hy) (by simp)
theorem qR {v : Value} (hw : xW n c = true) (hr : ∀ w, (execOp (ev n c.f) (xO c)).run P w = .ok (.value v) w) (hg : zI M P n W Q (c.put v)) : zI M P n W Q c := by
 obtain ⟨top, kk, L, f⟩ := c
 unfold xW at hw
 unfold Xc.put at hg
 cases top with
 | ops a r => cases r with
  | nil => cases hw
  | cons o r => exact ⟨fun hq => yO v hw hr (hg.go hq)⟩
 | qps a r => cases r with
  | nil => cases hw
  | cons o r => exact ⟨fun hq => vU v hw hr (hg.go hq)⟩
 | _ => cases hw
theorem x_val (d : Nat) (h : List Nat) (v : Value) (hr : ∀ w, (execOp (ev n (xgo P n (d + 50000) h c).f) (xO (xgo P n (d + 50000) h c))).run P w = .ok (.value v) w) (hg : zI M P n W Q ((xgo P n (d + 50000) h c).put v))
  (hkt : (xgl P n (d + 50000) h c, xW n (xgo P n (d + 50000) h c)) = (xgr P n (d + 50000) h c, true) := by kernel_rfl) : zI M P n W Q c :=  by
 obtain ⟨hk, hw⟩ := Prod.mk.inj hkt
 exact zQ h c hk (qR hw hr hg)
theorem bT (d : Nat) (h : List Nat) (a b : List UInt8) (hg : zI M P n W Q ((xgo P n (d + 50000) h c).put (.string (mkS (a ++ b))))) (hb : a.length + b.length ≤ 4000000000 := by (try simp only [List.length_append, List.length_cons, List.length_nil]); omega)
  (hkt : (xgl P n (d + 50000) h c, (xW n (xgo P n (d + 50000) h c), (xO (xgo P n (d + 50000) h c)).op, ev n (xgo P n (d + 50000) h c).f (oX (xO (xgo P n (d + 50000) h c))), ev n (xgo P n (d + 50000) h c).f (oY (xO (xgo P n (d + 50000) h c))))) = (xgr P n (d + 50000) h c, (true, .binOp .add (oT (xO (xgo P n (d + 50000) h c))) (oX (xO (xgo P n (d + 50000) h c))) (oY (xO (xgo P n (d + 50000) h c))) (oU (xO (xgo P n (d + 50000) h c))), .string (mkS a), .string (mkS b))) := by kernel_rfl) : zI M P n W Q c := by
 obtain ⟨hk, ht⟩ := Prod.mk.inj hkt
 simp only [Prod.mk.injEq] at ht
 exact zQ h c hk (qR ht.1 (bV ht.2.1 ht.2.2.1 ht.2.2.2 hb) hg)
def xPb : Value → Nat
 | .pointer (some a) => a.block
 | _ => 0
def xOi (i : Nat) (c : Xc) : Oper := (xA c).getD i default
def xHn (c : Xc) (i : Nat) (v : Value) : Xc := ⟨.hps (xA c) ((xS c).setIfInBounds i true) (xU c) (xL0 c), c.k, c.L, upd c.f (xOi i c).dst v⟩
def pS (n : Nat) (i : Nat) (c : Xc) : XTop × Option Oper × Bool × Bool × Bool × Bool :=
 (c.top, (xA c)[i]?, zP (xA c) n c.f (xOi i c), Region.noSelect (xA c), Region.free .any (xA c) (xS c) i, (Region.ready .any (xA c) (xS c)).contains i)
def dU (i : Nat) (c : Xc) : XTop × Option Oper × Bool × Bool × Bool × Bool := (.hps (xA c) (xS c) (xU c + 1) (xL0 c), some (xOi i c), true, true, true, true)
theorem xtake {i : Nat} {v : Value} (hv : ∀ w, Own M W w (xL0 c) → (execOp (ev n c.f) (xOi i c)).run P w = .ok (.value v) w) (hg : zI M P n W Q (xHn c i v)) (hf : pS n i c = dU i c) : zI M P n W Q c := by
 simp only [pS, dU, Prod.mk.injEq] at hf
 obtain ⟨e1, e2, e3, e4, e5, e6⟩ := hf
 have : c = ⟨.hps (xA c) (xS c) (xU c + 1) (xL0 c), c.k, c.L, c.f⟩ := by rw [← e1]
 rw [this]
 exact ⟨fun hq hs => hl_take i _ v e2 e4 e5 e6 (pY hq c.k) hs e3 hv (hg.go hq hs)⟩
theorem xh_ixa (t : Nat) (h : List Nat) (i N k sz : Nat) (hN : k < N) (hg : zI M P n W Q (xHn (xgo P n t h c) i (.pointer (some ⟨xPb (ev n (xgo P n t h c).f (oX (xOi i (xgo P n t h c)))), xOff (ev n (xgo P n t h c).f (oX (xOi i (xgo P n t h c)))) + (k : Int).toNat * sz, none⟩))))
  (hkt : (xgl P n t h c, pS n i (xgo P n t h c), (xOi i (xgo P n t h c)).op, ev n (xgo P n t h c).f (oX (xOi i (xgo P n t h c))), ev n (xgo P n t h c).f (oY (xOi i (xgo P n t h c))), P.underlying (oT (xOi i (xgo P n t h c))), (P.info? (xEl P (oT (xOi i (xgo P n t h c))))).map (·.size))
   = (xgr P n t h c, dU i (xgo P n t h c), .indexAddr (oT (xOi i (xgo P n t h c))) (oX (xOi i (xgo P n t h c))) (oY (xOi i (xgo P n t h c))), .pointer (some ⟨xPb (ev n (xgo P n t h c).f (oX (xOi i (xgo P n t h c)))), xOff (ev n (xgo P n t h c).f (oX (xOi i (xgo P n t h c)))), none⟩), YI (k : Int), some (.array N (xEl P (oT (xOi i (xgo P n t h c))))), some sz) := by kernel_rfl) : zI M P n W Q c := by
 simp only [Prod.mk.injEq] at hkt
 obtain ⟨hk, e1, e2, e3, e4, e5, e6⟩ := hkt
 exact zQ h c hk (xtake (fun w _ => run_ixarr e2 e3 e4 e5 e6 Om Om rfl w) hg e1)
theorem xh_ldk (t : Nat) (h : List Nat) (i q : Nat) (cs : Array Value) (off : Nat) (ty : TypeId) (v : Value) (hv : yN P ty cs off = some v) (hg : zI M P n W Q (xHn (xgo P n t h c) i v))
  (hkt : (xgl P n t h c, pS n i (xgo P n t h c), (xOi i (xgo P n t h c)).op, (xL0 (xgo P n t h c))[q]?, (vL (xL0 (xgo P n t h c)) q).cs, ev n (xgo P n t h c).f (oX (xOi i (xgo P n t h c))))
   = (xgr P n t h c, dU i (xgo P n t h c), .load ty (oX (xOi i (xgo P n t h c))), some (vL (xL0 (xgo P n t h c)) q), cs, .pointer (some ⟨(vL (xL0 (xgo P n t h c)) q).b, off, none⟩)) := by kernel_rfl) : zI M P n W Q c := by
 simp only [Prod.mk.injEq] at hkt
 obtain ⟨hk, e1, e2, e3, e4, e5⟩ := hkt
 exact zQ h c hk (xtake (fun w hO => kF e2 e5 (yR (by rw [e4]; exact hv) (hO.get e3))) hg e1)
def aT (o : Oper) : TypeId := match o.op with
 | .call c => c.argTypes.getD 0 0
 | _ => 0
def aX (o : Oper) (i : Nat) : Operand := match o.op with
 | .call c => c.args.getD i (.tmp 0)
 | _ => .tmp 0
def aOp (o : Oper) : Op := .call { callee := .builtin .append, args := #[aX o 0, aX o 1], argTypes := #[aT o, aT o] }
def aInfo (P : Program) (T : TypeId) : Option (Bool × Nat × Option Nat) := (P.info? T).map fun i => (Nat.ble i.bytes 1000000, i.size, i.zero.map fun z => z.cells.size)
def aNext (c : Xc) (L : List Blk) (v : Value) : Xc := ⟨.hps (xA c) ((hS c).setIfInBounds (hI c) true) (hU c) (hL c), c.k, L, upd c.f (xO c).dst v⟩
theorem hs_take' {ops : Array Oper} {L L' L0 : List Blk} {u i : Nat} {s : Array Bool} {f : Nat → Value} (hs : ∀ w, Own M W w L → Own M W w L') (h : bD M P n ops W L0 Q u s i L' f) : bD M P n ops W L0 Q u s i L f := ⟨fun w hO => h.go w (hs w hO)⟩
theorem aInfo_is {T : TypeId} {sz : Nat} (h : aInfo P T = some (true, sz, some sz)) : ∃ i z, P.info? T = some i ∧ i.zero = some z ∧ i.size = sz ∧ z.cells.size = sz ∧ i.bytes ≤ 1000000 := by
 unfold aInfo at h
 cases hi : P.info? T with
 | none => rw [hi] at h; cases h
 | some i =>
  rw [hi] at h
  simp only [Option.map_some, Option.some.injEq, Prod.mk.injEq] at h
  obtain ⟨h1, h2, h3⟩ := h
  cases hz : i.zero with
  | none => rw [hz] at h3; cases h3
  | some z => rw [hz] at h3; exact ⟨i, z, rfl, hz, h2, Option.some.inj h3, Nat.le_of_ble_eq_true h1⟩
theorem nD {T : TypeId} {sz k m cp : Nat} {v : Value} {xs : List Value} (E ob R : List Blk) (q : Nat) (L1 L0 : List Blk) (hs : ∀ w, Own M W w L1 → Own M W w (E ++ ob ++ R)) (hsub : ∀ ob' w, Own M W w (E ++ ob' ++ R) → Own M W w L0) (hv : Sl T sz v k xs ob) (hN : k + m ≤ 1000000)
  (hg : ∀ v' ob', Sl T sz v' (k + m) (xs ++ (vL E q).cs.toList) ob' → zI M P n W Q (aNext c (E ++ ob' ++ R) v'))
  (hkt : (c.L, hL c, c.top, (xA c)[hI c]?, zP (xA c) n c.f (xO c), (xO c).op, ev n c.f (aX (xO c) 0), ev n c.f (aX (xO c) 1), E[q]?, P.underlying (aT (xO c)), aInfo P T, (vL E q).cs.toList.length, (vL E q).cs.toList.all fun u => u.oneCell')
   = (L1, L0, .hst (xA c) (hS c) (hU c) (hL c) (hI c), some (xO c), true, aOp (xO c), v, .slice (some ⟨(vL E q).b, 0, none⟩) m cp, some (vL E q), some (.slice T), some (true, sz, some sz), m * sz, true) := by kernel_rfl) : zI M P n W Q c := by
 simp only [Prod.mk.injEq] at hkt
 obtain ⟨f1, f2, e1, e2, e3, e4, e5, e6, e7, e8, e9, e10, e11⟩ := hkt
 rw [← f1] at hs
 rw [← f2] at hsub
 have : c = ⟨.hst (xA c) (hS c) (hU c) (hL c) (hI c), c.k, c.L, c.f⟩ := by rw [← e1]
 rw [this]
 obtain ⟨i, z, hi, hz, hsz, hzs, hby⟩ := aInfo_is e9
 refine ⟨fun hq hs0 => hs_take' hs (hl_append (E := E) (ob := ob) (R := R) (xO c) e2 e3 e4 e8 hi hz hsz hzs e5 hv e6 e10 (fun w hO j u hj => ?_) (List.all_eq_true.1 e11) ?_ ?_ hsub fun v' ob' h => (hg v' ob' h).go hq (hsub ob'))⟩
 ·have hmem : vL E q ∈ E ++ ob ++ R := List.mem_append_left _ (List.mem_append_left _ (List.mem_of_getElem? e7))
  rw [yX, cell_of_row w _ _ _ _ _ (hO.held _ hmem), Nat.zero_add]
  simpa using hj
 ·unfold maxLen; omega
 ·have := Nat.mul_le_mul hN hby; omega
theorem put_read {v : Value} (hw : xW n c = true) (hr : ∀ w, Own M W w c.L → (execOp (ev n c.f) (xO c)).run P w = .ok (.value v) w) (hg : zI M P n W Q (c.put v)) : zI M P n W Q c := by
 obtain ⟨top, kk, L, f⟩ := c
 unfold xW at hw
 unfold Xc.put at hg
 cases top with
 | ops a r => cases r with
  | nil => cases hw
  | cons o r => exact ⟨fun hq => s_read v hw hr (hg.go hq)⟩
 | qps a r => cases r with
  | nil => cases hw
  | cons o r => exact ⟨fun hq => q_read v hw hr (hg.go hq)⟩
 | _ => cases hw
theorem y7 (d : Nat) (h : List Nat) {A : Option Addr} {b off : Nat} (hA : A = some ⟨b, off, none⟩) (N cp j sz : Nat) (hj : j < N) (hg : zI M P n W Q ((xgo P n (d + 50000) h c).put (.pointer (some ⟨b, off + (j : Int).toNat * sz, none⟩))))
  (hkt : (xgl P n (d + 50000) h c, xW n (xgo P n (d + 50000) h c), (xO (xgo P n (d + 50000) h c)).op, ev n (xgo P n (d + 50000) h c).f (oX (xO (xgo P n (d + 50000) h c))), ev n (xgo P n (d + 50000) h c).f (oY (xO (xgo P n (d + 50000) h c))), P.underlying (oT (xO (xgo P n (d + 50000) h c))), (P.info? (xEl P (oT (xO (xgo P n (d + 50000) h c))))).map (·.size))
   = (xgr P n (d + 50000) h c, true, .indexAddr (oT (xO (xgo P n (d + 50000) h c))) (oX (xO (xgo P n (d + 50000) h c))) (oY (xO (xgo P n (d + 50000) h c))), .slice A N cp, YI (j : Int), some (.slice (xEl P (oT (xO (xgo P n (d + 50000) h c))))), some sz) := by kernel_rfl) : zI M P n W Q c := by
 simp only [Prod.mk.injEq] at hkt
 obtain ⟨hk, e1, e2, e3, e4, e5, e6⟩ := hkt
 exact zQ h c hk (qR e1 (fun w => run_ixA e2 e3 hA e4 e5 e6 Om Om rfl w) hg)
theorem zX (d : Nat) (h : List Nat) (ty : TypeId) (b o : Nat) (v : Value) (hv : ∀ w, Own M W w (xgo P n (d + 50000) h c).L → (loadVar ty ⟨b, o, none⟩).run P w = .ok v w) (hg : zI M P n W Q ((xgo P n (d + 50000) h c).put v))
  (hkt : (xgl P n (d + 50000) h c, xW n (xgo P n (d + 50000) h c), (xO (xgo P n (d + 50000) h c)).op, ev n (xgo P n (d + 50000) h c).f (oX (xO (xgo P n (d + 50000) h c)))) = (xgr P n (d + 50000) h c, true, .load ty (oX (xO (xgo P n (d + 50000) h c))), .pointer (some ⟨b, o, none⟩)) := by kernel_rfl) : zI M P n W Q c := by
 simp only [Prod.mk.injEq] at hkt
 obtain ⟨hk, e1, e2, e3⟩ := hkt
 exact zQ h c hk (put_read e1 (fun w hO => kF e2 e3 (hv w hO)) hg)
theorem kD (d : Nat) (h : List Nat) (s u : List UInt8) (h1 : s = u → zI M P n W Q ((xgo P n (d + 50000) h c).put (.bool true))) (h2 : ¬ s = u → zI M P n W Q ((xgo P n (d + 50000) h c).put (.bool false)))
  (hkt : (xgl P n (d + 50000) h c, xW n (xgo P n (d + 50000) h c), (xO (xgo P n (d + 50000) h c)).op, ev n (xgo P n (d + 50000) h c).f (oX (xO (xgo P n (d + 50000) h c))), ev n (xgo P n (d + 50000) h c).f (oY (xO (xgo P n (d + 50000) h c)))) = (xgr P n (d + 50000) h c, true, .binOp .eql (oT (xO (xgo P n (d + 50000) h c))) (oX (xO (xgo P n (d + 50000) h c))) (oY (xO (xgo P n (d + 50000) h c))) (oU (xO (xgo P n (d + 50000) h c))), .string (mkS s), .string (mkS u)) := by kernel_rfl) : zI M P n W Q c := by
 simp only [Prod.mk.injEq] at hkt
 obtain ⟨hk, e1, e2, e3, e4⟩ := hkt
 by_cases hp : s = u
 ·exact zQ h c hk (qR e1 (fun w => x8 e2 e3 e4 (decide_eq_true hp) w) (h1 hp))
 ·exact zQ h c hk (qR e1 (fun w => x8 e2 e3 e4 (decide_eq_false hp) w) (h2 hp))
theorem vY (d : Nat) (h : List Nat) (s u : List UInt8) (h1 : s = u → zI M P n W Q ((xgo P n (d + 50000) h c).put (.bool false))) (h2 : ¬ s = u → zI M P n W Q ((xgo P n (d + 50000) h c).put (.bool true)))
  (hkt : (xgl P n (d + 50000) h c, xW n (xgo P n (d + 50000) h c), (xO (xgo P n (d + 50000) h c)).op, ev n (xgo P n (d + 50000) h c).f (oX (xO (xgo P n (d + 50000) h c))), ev n (xgo P n (d + 50000) h c).f (oY (xO (xgo P n (d + 50000) h c)))) = (xgr P n (d + 50000) h c, true, .binOp .neq (oT (xO (xgo P n (d + 50000) h c))) (oX (xO (xgo P n (d + 50000) h c))) (oY (xO (xgo P n (d + 50000) h c))) (oU (xO (xgo P n (d + 50000) h c))), .string (mkS s), .string (mkS u)) := by kernel_rfl) : zI M P n W Q c := by
 simp only [Prod.mk.injEq] at hkt
 obtain ⟨hk, e1, e2, e3, e4⟩ := hkt
 by_cases hp : s = u
 ·exact zQ h c hk (qR e1 (fun w => kJ e2 e3 e4 (decide_eq_true hp) w) (h1 hp))
 ·exact zQ h c hk (qR e1 (fun w => kJ e2 e3 e4 (decide_eq_false hp) w) (h2 hp))
def xBo : Value → Bool
 | .bool b => b
 | _ => false
theorem jK (t : Nat) (h : List Nat) (i : Nat) {A : Option Addr} {b off : Nat} (hA : A = some ⟨b, off, none⟩) (N cp j sz : Nat) (hj : j < N) (hg : zI M P n W Q (xHn (xgo P n t h c) i (.pointer (some ⟨b, off + (j : Int).toNat * sz, none⟩))))
  (hkt : (xgl P n t h c, pS n i (xgo P n t h c), (xOi i (xgo P n t h c)).op, ev n (xgo P n t h c).f (oX (xOi i (xgo P n t h c))), ev n (xgo P n t h c).f (oY (xOi i (xgo P n t h c))), P.underlying (oT (xOi i (xgo P n t h c))), (P.info? (xEl P (oT (xOi i (xgo P n t h c))))).map (·.size))
   = (xgr P n t h c, dU i (xgo P n t h c), .indexAddr (oT (xOi i (xgo P n t h c))) (oX (xOi i (xgo P n t h c))) (oY (xOi i (xgo P n t h c))), .slice A N cp, YI (j : Int), some (.slice (xEl P (oT (xOi i (xgo P n t h c))))), some sz) := by kernel_rfl) : zI M P n W Q c := by
 simp only [Prod.mk.injEq] at hkt
 obtain ⟨hk, e1, e2, e3, e4, e5, e6⟩ := hkt
 exact zQ h c hk (xtake (fun w _ => run_ixA e2 e3 hA e4 e5 e6 Om Om rfl w) hg e1)
theorem vX (t : Nat) (h : List Nat) (i : Nat) (ty : TypeId) (b o : Nat) (v : Value) (hv : ∀ w, Own M W w (xL0 (xgo P n t h c)) → (loadVar ty ⟨b, o, none⟩).run P w = .ok v w) (hg : zI M P n W Q (xHn (xgo P n t h c) i v))
  (hkt : (xgl P n t h c, pS n i (xgo P n t h c), (xOi i (xgo P n t h c)).op, ev n (xgo P n t h c).f (oX (xOi i (xgo P n t h c)))) = (xgr P n t h c, dU i (xgo P n t h c), .load ty (oX (xOi i (xgo P n t h c))), .pointer (some ⟨b, o, none⟩)) := by kernel_rfl) : zI M P n W Q c := by
 simp only [Prod.mk.injEq] at hkt
 obtain ⟨hk, e1, e2, e3⟩ := hkt
 exact zQ h c hk (xtake (fun w hO => kF e2 e3 (hv w hO)) hg e1)
theorem Reads.elem {α : Type} {g : α → List Value} {sz : Nat} (hg : ∀ x, (g x).length = sz) {A : Option Addr} {l : List α} {B : Nat} (h : Reads g W B A l) (j : Nat) (hj : j < l.length) : ∃ b off, A = some ⟨b, off, none⟩ ∧ ∀ w, Below B W w → ∀ (ty : TypeId) (fo : Nat) (v : Value), yN P ty ((g l[j]).drop fo).toArray 0 = some v → (loadVar ty ⟨b, off + j * sz + fo, none⟩).run P w = .ok v w := by
 obtain ⟨b, off, e, hb, hc⟩ := h Om
 refine ⟨b, off, e, fun w hw ty fo v hr => pO hg (fun k u hu => ?_) j fo hj rfl v hr⟩
 have := hc k u hu
 rw [← this]
 unfold World.cell?
 rw [hw.block b hb]
theorem tP (d : Nat) (h : List Nat) (q : Nat) (cs : Array Value) (off : Nat) (ty : TypeId) (v : Value) (hv : yN P ty cs off = some v) (hg : zI M P n W Q ((xgo P n (d + 50000) h c).put v))
  (hkt : (xgl P n (d + 50000) h c, xW n (xgo P n (d + 50000) h c), (xO (xgo P n (d + 50000) h c)).op, (xgo P n (d + 50000) h c).L[q]?, (vL (xgo P n (d + 50000) h c).L q).cs, ev n (xgo P n (d + 50000) h c).f (oX (xO (xgo P n (d + 50000) h c)))) = (xgr P n (d + 50000) h c, true, .load ty (oX (xO (xgo P n (d + 50000) h c))), some (vL (xgo P n (d + 50000) h c).L q), cs, .pointer (some ⟨(vL (xgo P n (d + 50000) h c).L q).b, off, none⟩)) := by kernel_rfl) : zI M P n W Q c := by
 simp only [Prod.mk.injEq] at hkt
 obtain ⟨hk, e1, e2, e3, e4, e5⟩ := hkt
 exact zQ h c hk (put_read e1 (fun w hO => kF e2 e5 (yR (by rw [e4]; exact hv) (hO.get e3))) hg)
theorem x_app {T : TypeId} {sz k m cp : Nat} {v : Value} {xs : List Value} (h : List Nat) (E ob R : List Blk) (q : Nat) (L1 : List Blk) (hs : ∀ w, Own M W w L1 → Own M W w (E ++ ob ++ R)) (hv : Sl T sz v k xs ob) (hN : k + m ≤ 1000000)
  (hg : ∀ v' ob', Sl T sz v' (k + m) (xs ++ (vL E q).cs.toList) ob' → zI M P n W Q ⟨.ops (xA (xgo P n nS h c)) (xT (xgo P n nS h c)), (xgo P n nS h c).k, E ++ ob' ++ R, upd (xgo P n nS h c).f (xO (xgo P n nS h c)).dst v'⟩)
  (hkt : (xgl P n nS h c, (xgo P n nS h c).L, (xgo P n nS h c).top, zP (xA (xgo P n nS h c)) n (xgo P n nS h c).f (xO (xgo P n nS h c)), (xO (xgo P n nS h c)).op, ev n (xgo P n nS h c).f (aX (xO (xgo P n nS h c)) 0), ev n (xgo P n nS h c).f (aX (xO (xgo P n nS h c)) 1), E[q]?, P.underlying (aT (xO (xgo P n nS h c))), aInfo P T, (vL E q).cs.toList.length, (vL E q).cs.toList.all fun u => u.oneCell')
   = (xgr P n nS h c, L1, .ops (xA (xgo P n nS h c)) (xO (xgo P n nS h c) :: xT (xgo P n nS h c)), true, aOp (xO (xgo P n nS h c)), v, .slice (some ⟨(vL E q).b, 0, none⟩) m cp, some (vL E q), some (.slice T), some (true, sz, some sz), m * sz, true) := by kernel_rfl) : zI M P n W Q c := by
 simp only [Prod.mk.injEq] at hkt
 obtain ⟨hk, f1, e1, e3, e4, e5, e6, e7, e8, e9, e10, e11⟩ := hkt
 refine zQ h c hk ?_
 generalize (xgo P n nS h c) = d at *
 rw [← f1] at hs
 have : d = ⟨.ops (xA d) (xO d :: xT d), d.k, d.L, d.f⟩ := by rw [← e1]
 rw [this]
 obtain ⟨i, z, hi, hz, hsz, hzs, hby⟩ := aInfo_is e9
 refine ⟨fun hq => wV hs (wI (E := E) (ob := ob) (L0 := R) e3 e4 e8 hi hz hsz hzs e5 hv e6 e10 (fun w hO j u hj => ?_) (List.all_eq_true.1 e11) ?_ ?_ fun v' ob' h => (hg v' ob' h).go hq)⟩
 ·have hmem : vL E q ∈ E ++ ob ++ R := List.mem_append_left _ (List.mem_append_left _ (List.mem_of_getElem? e7))
  rw [yX, cell_of_row w _ _ _ _ _ (hO.held _ hmem), Nat.zero_add]
  simpa using hj
 ·unfold maxLen; omega
 ·have := Nat.mul_le_mul hN hby; omega
end
end
section
def xNl : List XIt → Bool
 | [] => true
 | .lp _ _ :: _ => false
 | _ :: k => xNl k
theorem KQ_any {M M' : List Nat} {P : Program} {n : Nat} {W W' : World} {Q : Exit → Act → World → Prop} : ∀ {k : List XIt}, xNl k = true → KQ M P n W Q k = KQ M' P n W' Q k
 | [], _ => rfl
 | .lp _ _ :: _, h => by cases h
 | .code c :: k, h => by unfold KQ; rw [KQ_any (k := k) h]
 | .blk _ :: k, h => by unfold KQ; rw [KQ_any (k := k) h]
 | .tl _ _ :: k, h => by unfold KQ; rw [KQ_any (k := k) h]
 | .rd _ _ :: k, h => by unfold KQ; rw [KQ_any (k := k) h]
theorem pq_of {M : List Nat} {P : Program} {n : Nat} {W : World} {Q : Exit → Act → World → Prop} : ∀ {k : List XIt}, PQ (KQ M P n W Q k) → PQ Q
 | [], h => h
 | .lp _ _ :: k, h => pq_of (k := k) fun c a d v w q => h c a d v w q
 | .code c :: k, h => pq_of (k := k) fun c a d v w q => h c a d v w q
 | .blk _ :: k, h => pq_of (k := k) fun c a d v w q => h c a d v w q
 | .tl _ _ :: k, h => pq_of (k := k) fun c a d v w q => h c a d v w q
 | .rd _ _ :: k, h => pq_of (k := k) fun c a d v w q => h c a d v w q
def xOut : Exit → Bool
 | .exit _ => true
 | .ret => true
 | _ => false
section
variable {M : List Nat} {P : Program} {n : Nat} {W : World} {Q : Exit → Act → World → Prop} {c : Xc}
theorem wp_skip {K : Act → World → Prop} {o : Oper} {f : Nat → Value} {w w' : World} (hr : (execOp (ev n f) o).run P w = .ok .skip w') (h : K (Fr n (upd f o.dst undef)) w') : o.wp P (Fr n f) w K Q := by
 unfold Oper.wp
 rw [xY, hr]
 show K ((Fr n f).put o.dst undef) w'
 rw [gW]; exact h
def xNx (d : Xc) (L' : List Blk) (v : Value) : Xc := ⟨.ops (xA d) (xT d), d.k, L', upd d.f (xO d).dst v⟩
theorem ok_loopW' {c : Code} {L : List Blk} {f : Nat → Value} (Inv : World → (Nat → Value) → Nat → Prop) (m : Nat) (h0 : ∀ w, Own M W w L → Inv w f m) (h : ∀ w f m, Inv w f m → Code.wp P c (RoundW n Inv m Q) (Fr n f) w) : Ok M P n W Q (.loop c) L f := ⟨fun w hO => by
 intro b k cs
 have run : ∀ (m : Nat) (f : Nat → Value) (w : World), Inv w f m → ∃ e a' w', Q e a' w' ∧ Arrives P (lone (b.at (Fr n f) (.code c :: .inLoop c :: k)) cs w) b k cs e a' w' := by
  intro m
  induction m using Nat.strongRecOn with
  | _ m ih =>
   intro f w hI
   obtain ⟨e, a₁, w₁, hq, harr⟩ := h w f m hI b (.inLoop c :: k) cs
   cases e with
   | normal =>
    obtain ⟨f', m', hlt, hI', rfl⟩ := hq
    obtain ⟨e₂, a₂, w₂, hq₂, harr₂⟩ := ih m' hlt f' w₁ hI'
    exact ⟨e₂, a₂, w₂, hq₂, .of_steps (Steps.trans harr (.one step_inLoop)) harr₂⟩
   | exit id => exact ⟨_, a₁, w₁, hq, .pass (x := .inLoop c) rfl (fun _ _ => .inl (by simp)) harr⟩
   | goto l => exact ⟨_, a₁, w₁, hq, .pass (x := .inLoop c) rfl (fun _ _ => .inl (by simp)) harr⟩
   | ret => exact ⟨_, a₁, w₁, hq, .pass (x := .inLoop c) rfl (fun _ _ => .inl (by simp)) harr⟩
   | panic ch => exact ⟨_, a₁, w₁, hq, .pass (x := .inLoop c) rfl (fun _ _ => .inl (by simp)) harr⟩
   | outgrown => exact ⟨_, a₁, w₁, hq, .pass (x := .inLoop c) rfl (fun _ _ => .inl (by simp)) harr⟩
 obtain ⟨e, a', w', hq, harr⟩ := run m f w (h0 w hO)
 exact ⟨e, a', w', hq, .of_steps (.one step_loop) harr⟩⟩
theorem pq_roundW {Inv : World → (Nat → Value) → Nat → Prop} {m : Nat} (h : PQ Q) : PQ (RoundW n Inv m Q) := fun c a d v w h2 => h c a d v w h2
def xIW (n : Nat) {α : Type} (lv : α → List (Nat × Value)) (Mf : α → List Nat) (Lf : α → List Blk) (rel : α → World → Nat → Prop) : World → (Nat → Value) → Nat → Prop := fun w f m => ∃ x, rel x w m ∧ Own (Mf x) w w (Lf x) ∧ tN f (lv x)
theorem x_loopW {α : Type} (lv : α → List (Nat × Value)) (Mf : α → List Nat) (Lf : α → List Blk) (rel : α → World → Nat → Prop) (x0 : α) (m0 : Nat) (h : List Nat) (h0 : ∀ w, Own M W w (xgo P n nS h c).L → rel x0 w m0 ∧ Own (Mf x0) w w (Lf x0))
  (hg : ∀ x w m g, rel x w m → Own (Mf x) w w (Lf x) → zI (Mf x) P n w (RoundW n (xIW n lv Mf Lf rel) m (KQ M P n W Q (xgo P n nS h c).k)) ⟨.code (pT (xgo P n nS h c)), [], Lf x, j6 g (lv x)⟩)
  (hkt : (xgl P n nS h c, (xgo P n nS h c).top, xV (xgo P n nS h c).f (lv x0)) = (xgr P n nS h c, .code (.loop (pT (xgo P n nS h c))), (lv x0).map Prod.snd) := by kernel_rfl) : zI M P n W Q c := by
 simp only [Prod.mk.injEq] at hkt
 obtain ⟨hk, e1, e2⟩ := hkt
 refine zQ h c hk ?_
 generalize xgo P n nS h c = d at *
 have : d = ⟨.code (.loop (pT d)), d.k, d.L, d.f⟩ := by rw [← e1]
 rw [this]
 refine ⟨fun hq => ok_loopW' (M := M) (W := W) (xIW n lv Mf Lf rel) m0 (fun w hO => ⟨x0, (h0 w hO).1, (h0 w hO).2, gQ e2⟩) fun w f m ⟨x, hr, hO, hA⟩ => ?_⟩
 have hx := hg x w m f hr hO
 rw [← qN _ hA] at hx
 exact (hx.go (pq_roundW (pY hq d.k))).go w hO
theorem x_nxW {α : Type} {lv : α → List (Nat × Value)} {Mf : α → List Nat} {Lf : α → List Blk} {rel : α → World → Nat → Prop} {m : Nat} (x' : α) (m' : Nat) (h : List Nat) (hlt : m' < m) (hs : ∀ w, Own M W w (xgo P n nS h c).L → rel x' w m' ∧ Own (Mf x') w w (Lf x'))
  (hkt : (xgl P n nS h c, (xgo P n nS h c).top, (xgo P n nS h c).k, xV (xgo P n nS h c).f (lv x')) = (xgr P n nS h c, .fin .normal, [], (lv x').map Prod.snd) := by kernel_rfl) : zI M P n W (RoundW n (xIW n lv Mf Lf rel) m Q) c := by
 simp only [Prod.mk.injEq] at hkt
 obtain ⟨hk, e1, e2, e3⟩ := hkt
 refine zQ h c hk ?_
 generalize xgo P n nS h c = d at *
 have : d = ⟨.fin .normal, [], d.L, d.f⟩ := by rw [← e1, ← e2]
 rw [this]
 exact ⟨fun _ => fin_roundW hlt fun w hO => ⟨x', (hs w hO).1, (hs w hO).2, gQ e3⟩⟩
theorem x_outW {M0 : List Nat} {W0 : World} {k : List XIt} {Inv : World → (Nat → Value) → Nat → Prop} {m : Nat} (e : Exit) (h : List Nat) (hg : zI M P n W Q ⟨.fin e, k, (xgo P n nS h c).L, (xgo P n nS h c).f⟩) (he : xOut e = true)
  (hkt : (xgl P n nS h c, (xgo P n nS h c).top, (xgo P n nS h c).k, xNl k) = (xgr P n nS h c, .fin e, [], true) := by kernel_rfl) : zI M P n W (RoundW n Inv m (KQ M0 P n W0 Q k)) c := by
 simp only [Prod.mk.injEq] at hkt
 obtain ⟨hk, e1, e2, e3⟩ := hkt
 refine zQ h c hk ?_
 generalize xgo P n nS h c = d at *
 have : d = ⟨.fin e, [], d.L, d.f⟩ := by rw [← e1, ← e2]
 rw [this]
 refine ⟨fun hq => ⟨fun w hO => ?_⟩⟩
 have hq' : PQ Q := pq_of (k := k) (M := M0) (W := W0) (P := P) (n := n) fun c a dd v w h2 => hq c a dd v w h2
 have hf := (hg.go hq').go w hO
 rw [KQ_any (M := M) (W := W) (M' := M0) (W' := W0) e3] at hf
 cases e with
 | exit id => exact hf
 | ret => exact hf
 | _ => cases he
end
end
section
section
variable {M : List Nat} {P : Program} {W w : World} {E ob L0 : List Blk}
theorem own_append_str {t u ty T : TypeId} {i : TypeInfo} (ht : P.underlying t = some (.slice T)) (hu : P.underlying u = some .string) (hi : P.info? T = some i) (hz : i.zero = some (.int .u8 0)) (hsz : i.size = 1) (hby : i.bytes = 1)
  {v : Value} {n : Nat} {xs : List Value} (hv : Sl T 1 v n xs ob) (hO : Own M W w (E ++ ob ++ L0)) (s : ByteArray)
  (h63 : n + s.size ≤ maxLen) (hbytes : n + s.size ≤ 140737488355328) :
  ∃ v' w' ob', (Builtin.append_ #[t, u] ty #[v, .string s]).run P w = .ok v' w' ∧ Sl T 1 v' (n + s.size) (xs ++ Lib.strCells s) ob' ∧ Own M W w' (E ++ ob' ++ L0) := by
 have hsmall : n + s.size ≤ 9223372036854775807 := by simp only [maxLen] at h63; omega
 have hxl : xs.length = n := by simpa using hv.1
 have hsl := Lib.strCells_length s
 have hlen : (xs ++ Lib.strCells s).length = (n + s.size) * 1 := by rw [List.length_append, hxl, hsl, Nat.mul_one]
 have hz1 : (Value.int IntKind.u8 0).cells.size = 1 := rfl
 rcases hv.2 with ⟨rfl, rfl, rfl⟩ | ⟨g, cap, cur, rfl, rfl, hnc, hcm, hcs, htake⟩
 ·have hx : xs = [] := List.eq_nil_of_length_eq_zero hxl
  subst hx
  by_cases hm : s.size = 0
  ·have hn : Lib.strCells s = [] := List.eq_nil_of_length_eq_zero (by rw [hsl]; exact hm)
   refine ⟨.slice none 0 0, w, [], ?_, by rw [hm, hn]; exact Sl.nil T 1, hO⟩
   have hf := Lib.run_firstCells_string (P := P) w 1 s
   rw [hm] at hf
   simp [Builtin.append_, run_underlying ht, run_underlying hu, sizeOf, typeInfo, hi, hsz, Builtin.lenOf, hm, hf]
  ·have hr := run_append_nil_string (P := P) w t u ty T i (.int .u8 0) ht hu hi hz s Om Om (by rw [hby]; omega)
   have e1 : (s.data.map fun b => Value.int .u8 b.toNat) = (Lib.strCells s).toArray := by
    apply Array.ext'
    simp [Lib.strCells]
   rw [e1] at hr
   have hge := grownCap_ge w s.size 0 T
   have hcm := grownCap_le_maxLen w s.size 0 T (by simpa using h63)
   refine ⟨_, _, [⟨w.heap.size, (Lib.strCells s).toArray ++ Builtin.zeroCells (Value.int .u8 0).cells (grownCap w s.size 0 T - s.size), T⟩], hr, ⟨by simpa using hlen, .inr ⟨w.heap.size, _, _, by simp, rfl, by simpa using hge, hcm, ?_, ?_⟩⟩, ?_⟩
   ·simp only [Array.size_append, List.size_toArray, size_zeroCells, hz1, hsl]
    omega
   ·simp only [Array.toList_append, Nat.zero_add, List.nil_append, Nat.mul_one]
    rw [← hsl]
    exact List.take_left
   ·have := (drew_own hO).alloc ((Lib.strCells s).toArray ++ Builtin.zeroCells (Value.int .u8 0).cells (grownCap w s.size 0 T - s.size)) T
    exact Own.move (ob := []) this
 ·have hcs' : cur.size = cap := by simpa using hcs
  have ht' : cur.toList.take n = xs := by simpa using htake
  by_cases hroom : n + s.size ≤ cap
  ·have hk : (E ++ [Blk.mk g cur T] ++ L0)[E.length]? = some ⟨g, cur, T⟩ := by simp
   have hg := hO.get hk
   have hr := Lib.run_append_room_string (P := P) w t u ty T i ht hu hi hsz g n cap cur hg s hroom Om
   refine ⟨_, _, [⟨g, (cur.toList.take n ++ Lib.strCells s ++ cur.toList.drop (n + s.size)).toArray, T⟩], hr, ⟨hlen, .inr ⟨g, cap, _, rfl, rfl, hroom, hcm, ?_, ?_⟩⟩, ?_⟩
   ·simp only [List.size_toArray, List.length_append, List.length_take, List.length_drop, Array.length_toList, hsl]
    omega
   ·rw [ht', ← hlen]
    exact List.take_left
   ·have := hO.put hk (cur.toList.take n ++ Lib.strCells s ++ cur.toList.drop (n + s.size)).toArray
    have e : (E ++ [Blk.mk g cur T] ++ L0).set E.length ⟨g, (cur.toList.take n ++ Lib.strCells s ++ cur.toList.drop (n + s.size)).toArray, T⟩ = E ++ [⟨g, (cur.toList.take n ++ Lib.strCells s ++ cur.toList.drop (n + s.size)).toArray, T⟩] ++ L0 := by simp
    rw [e] at this; exact this
  ·have hk : (E ++ [Blk.mk g cur T] ++ L0)[E.length]? = some ⟨g, cur, T⟩ := by simp
   have hg := hO.get hk
   have holds : ∀ j u, xs[j]? = some u → w.cell? ((⟨g, 0, none⟩ : Addr).add j) = some u := fun j u hj => by
    rw [yX, cell_of_row w g (0 + j) cur T _ hg]
    rw [← ht', List.getElem?_take] at hj
    split at hj
    ·simpa using hj
    ·cases hj
   have hr := Lib.run_append_grow_string (P := P) w t u ty T i (.int .u8 0) ht hu hi hz ⟨g, 0, none⟩ n cap xs (by rw [hsz]; simpa using hxl) holds s Om Om (by rw [hby]; exact growslice_fits Om Om)
   have hge := grownCap_ge w (n + s.size) cap T
   have hcm := grownCap_le_maxLen w (n + s.size) cap T h63
   refine ⟨_, _, [⟨w.heap.size, xs.toArray ++ (Lib.strCells s).toArray ++ Builtin.zeroCells (Value.int .u8 0).cells (grownCap w (n + s.size) cap T - (n + s.size)), T⟩], hr, ⟨hlen, .inr ⟨w.heap.size, _, _, rfl, rfl, hge, hcm, ?_, ?_⟩⟩, ?_⟩
   ·simp only [Array.size_append, List.size_toArray, size_zeroCells, hz1, hxl, hsl]
    omega
   ·simp only [Array.toList_append, List.append_assoc]
    rw [← List.append_assoc, ← hlen]
    exact List.take_left
   ·exact Own.move ((drew_own hO).alloc (xs.toArray ++ (Lib.strCells s).toArray ++ Builtin.zeroCells (Value.int .u8 0).cells (grownCap w (n + s.size) cap T - (n + s.size))) T)
end
section
variable {M : List Nat} {P : Program} {n0 : Nat} {ops : Array Oper} {W : World} {Q : Exit → Act → World → Prop} {rest : List Oper} {o : Oper} {E ob L0 : List Blk} {f : Nat → Value}
theorem s_appstr {t u T : TypeId} {x y : Operand} {i : TypeInfo} (hw : zP ops n0 f o = true) (ho : o.op = .call { callee := .builtin .append, args := #[x, y], argTypes := #[t, u] })
  (ht : P.underlying t = some (.slice T)) (hu : P.underlying u = some .string) (hi : P.info? T = some i) (hz : i.zero = some (.int .u8 0)) (hsz : i.size = 1) (hby : i.bytes = 1)
  {v : Value} {n : Nat} {xs : List Value} (hx : ev n0 f x = v) (hv : Sl T 1 v n xs ob) {s : ByteArray} (hy : ev n0 f y = .string s)
  (h63 : n + s.size ≤ maxLen) (hbytes : n + s.size ≤ 140737488355328)
  (h : ∀ v' ob', Sl T 1 v' (n + s.size) (xs ++ Lib.strCells s) ob' → Seg M P n0 ops W Q rest (E ++ ob' ++ L0) (upd f o.dst v')) : Seg M P n0 ops W Q (o :: rest) (E ++ ob ++ L0) f :=
 v6 hw fun w hO => by
  obtain ⟨v', w', ob', hr, h2, h3⟩ := own_append_str (P := P) (ty := o.type) ht hu hi hz hsz hby hv hO s h63 hbytes
  refine gT v' (w' := w') ?_ ((h v' ob' h2).go w' h3)
  unfold execOp
  simp only [ho, resolve, invoke, builtin, Sem.run_bind, Sem.run_pure, Result.andThen_ok, List.map_toArray, List.map_cons, List.map_nil, hx, hy, hr]
end
section
variable {M : List Nat} {P : Program} {n : Nat} {W : World} {L : List Blk} {f : Nat → Value}
theorem gN {fn : Func} {R : Ending → World → Prop} (hres : fn.results = #[]) (hR : ∀ w, Own M W w L → R (.returned (.tuple #[])) w) : Fin M n W (bodyPost P fn R) .normal L f := ⟨fun w hO =>
 bodyPost_end (results_none hres _ _ _) rfl (hR w hO)⟩
theorem fin_none_ret {fn : Func} {R : Ending → World → Prop} (hres : fn.results = #[]) (hR : ∀ w, Own M W w L → R (.returned (.tuple #[])) w) : Fin M n W (bodyPost P fn R) .ret L f := ⟨fun w hO =>
 bodyPost_ret (results_none hres _ _ _) rfl (hR w hO)⟩
end
end
section
section
variable {M : List Nat} {P : Program} {n : Nat} {W : World} {Q : Exit → Act → World → Prop} {c : Xc}
theorem yB {M : List Nat} {L : List Blk} {k : FuncId} {fn : Func} {args : Array Value} {R : Ending → World → Prop} (hO : Own M W W L) (hf : P.funcs[k]? = some fn) (hg : zI M P fn.ntmps W (bodyPost P fn R) ⟨.code (fn.body.getD .skip), [], L, fun t => args.getD t undef⟩)
  (hb : fn.body.isSome = true := by kernel_rfl) (hle : Nat.ble args.size fn.ntmps = true := by kernel_rfl) : Calls P k args W R := by
 cases hb' : fn.body with
 | none => rw [hb'] at hb; cases hb
 | some b => rw [hb'] at hg; exact gP hO hf hb' rfl hle (hg.go qA)
theorem dT {fn : Func} {R : Ending → World → Prop} (h : List Nat) (v v' v2 : Value) (hR : ∀ w, Own M W w (xgo P n nS h c).L → R (.returned (.tuple #[v, v', v2])) w)
  (hkt : (xgl P n nS h c, ((xgo P n nS h c).top, (xgo P n nS h c).k, fn.results, ev n (xgo P n nS h c).f (.tmp (xRt fn 0)), ev n (xgo P n nS h c).f (.tmp (xRt fn 1)), ev n (xgo P n nS h c).f (.tmp (xRt fn 2)))) = (xgr P n nS h c, (.fin .ret, [], #[.tmp (xRt fn 0), .tmp (xRt fn 1), .tmp (xRt fn 2)], v, v', v2)) := by kernel_rfl) : zI M P n W (bodyPost P fn R) c := by
 obtain ⟨hk, ht⟩ := Prod.mk.inj hkt
 refine zQ h c hk ?_
 generalize xgo P n nS h c = d at hR ht ⊢
 obtain ⟨top, kk, L, f⟩ := d
 simp only [Prod.mk.injEq] at ht
 obtain ⟨rfl, rfl, e3, e4, e5, e6⟩ := ht
 exact ⟨fun _ => fin_ret3 v v' v2 e3 e4 e5 e6 hR⟩
theorem kN {fn : Func} {R : Ending → World → Prop} (h : List Nat) (i : Nat) (v v' : Value) (hR : ∀ w, Own M W w (xgo P n nS h c).L → R (.returned (.tuple #[v, v'])) w) (hkt : (xgl P n nS h c, ((xgo P n nS h c).top, (xgo P n nS h c).k, fn.results, (xgo P n nS h c).L[i]?, ev n (xgo P n nS h c).f (.tmp (xRt fn 0)), yN P (xRy fn 0) (vL (xgo P n nS h c).L i).cs 0, ev n (xgo P n nS h c).f (.tmp (xRt fn 1)))) = (xgr P n nS h c, (.fin .ret, [], #[.cell (xRt fn 0) (xRy fn 0), .tmp (xRt fn 1)], some (vL (xgo P n nS h c).L i), .pointer (some ⟨(vL (xgo P n nS h c).L i).b, 0, none⟩), some v, v')) := by kernel_rfl) : zI M P n W (bodyPost P fn R) c := by
 obtain ⟨hk, ht⟩ := Prod.mk.inj hkt
 refine zQ h c hk ?_
 generalize xgo P n nS h c = d at hR ht ⊢
 obtain ⟨top, kk, L, f⟩ := d
 simp only [Prod.mk.injEq] at ht
 obtain ⟨rfl, rfl, e3, e4, e5, e6, e7⟩ := ht
 exact ⟨fun _ => fin_cell2 i (vL L i) v v' e3 e4 e5 e6 e7 hR⟩
theorem x_ret0 {fn : Func} {R : Ending → World → Prop} (h : List Nat) (hR : ∀ w, Own M W w (xgo P n nS h c).L → R (.returned (.tuple #[])) w)
  (hkt : (xgl P n nS h c, (xgo P n nS h c).top, (xgo P n nS h c).k, fn.results) = (xgr P n nS h c, .fin .ret, [], #[]) := by kernel_rfl) : zI M P n W (bodyPost P fn R) c := by
 simp only [Prod.mk.injEq] at hkt
 obtain ⟨hk, e1, e2, e3⟩ := hkt
 refine zQ h c hk ?_
 generalize xgo P n nS h c = d at *
 obtain ⟨top, kk, L, f⟩ := d
 dsimp only at e1 e2
 subst e1; subst e2
 exact ⟨fun _ => fin_none_ret e3 hR⟩
theorem gS {fn : Func} {R : Ending → World → Prop} (h : List Nat) (hR : ∀ w, Own M W w (xgo P n nS h c).L → R (.returned (.tuple #[])) w)
  (hkt : (xgl P n nS h c, (xgo P n nS h c).top, (xgo P n nS h c).k, fn.results) = (xgr P n nS h c, .fin .normal, [], #[]) := by kernel_rfl) : zI M P n W (bodyPost P fn R) c := by
 simp only [Prod.mk.injEq] at hkt
 obtain ⟨hk, e1, e2, e3⟩ := hkt
 refine zQ h c hk ?_
 generalize xgo P n nS h c = d at *
 obtain ⟨top, kk, L, f⟩ := d
 dsimp only at e1 e2
 subst e1; subst e2
 exact ⟨fun _ => gN e3 hR⟩
theorem yT (t : Nat) (b : Bool) (h1 : b = true → zI M P n W Q (c.st t (.bool true))) (h2 : b = false → zI M P n W Q (c.st t (.bool false))) (hv : c.f t = .bool b := by kernel_rfl) : zI M P n W Q c := by
 cases b with
 | true =>
  have h := h1 rfl
  unfold Xc.st at h
  rw [← fH hv] at h
  exact h
 | false =>
  have h := h2 rfl
  unfold Xc.st at h
  rw [← fH hv] at h
  exact h
end
theorem Own.and {M : List Nat} {W w w' : World} (h : Own M W w []) (h' : Own M w w' []) : Own M W w' [] :=
 ⟨h'.os.trans h.os, h'.tape.trans h.tape, h'.output.trans h.output, Nat.le_trans h.size h'.size, Nat.le_trans h.drawn h'.drawn, fun k hk hm => (h'.kept k (Nat.lt_of_lt_of_le hk h.size) hm).trans (h.kept k hk hm), by simp, by simp, by simp⟩
end
section
end
section
abbrev ZQ (x : Co) : Array Value := #[YI x.op, YI x.parts, YI x.v.maj, YI x.v.min, YI x.v.pat, .string (mkS x.v.pre), .string (mkS x.v.build)]
def coV (c : Co) : Value := .agg #[YI c.op, YI c.parts, YI c.v.maj, YI c.v.min, YI c.v.pat, .string (mkS c.v.pre), .string (mkS c.v.build)]
def Co.short (c : Co) : Prop := c.v.short
def toldV (p : Int) (v : Ver) : Ver := ⟨if p < 1 then 0 else v.maj, if p < 2 then 0 else v.min, if p < 3 then 0 else v.pat, if p < 3 then [] else v.pre, []⟩
def genCo (l : List Int) (i : Nat) : Co :=
 ⟨1 + plc (atL l (i + 5)) 9, if 1 + plc (atL l (i + 5)) 9 = 9 then plc (atL l (i + 6)) 3 else 1 + plc (atL l (i + 6)) 3, toldV (if 1 + plc (atL l (i + 5)) 9 = 9 then plc (atL l (i + 6)) 3 else 1 + plc (atL l (i + 6)) 3) (genV l i)⟩
end
section
end
section
def ordSp (c d : Cu) : Sp := if 0 < qF c d then ⟨d, c⟩ else ⟨c, d⟩
def spG (l : List Int) (i n : Nat) : Sp := ordSp (genC l (i + 12 * n - 11)) (genC l (i + 12 * n - 5))
def spansG (l : List Int) (i : Nat) : Nat → List Sp
 | 0 => []
 | n + 1 => (if (spG l i (n + 1)).may then [spG l i (n + 1)] else []) ++ spansG l i n
end
section
def rowG (l : List Int) (i : Nat) : List Sp := makeL (spansG l i (plc (atL l i) (4 + 1 : Nat)).toNat)
end
section
end
section
end
section
def highZ (v : Ver) (z : Int) : Cu := if z < 0 then jU 1 else highC v z.toNat
end
section
end
section
def triV (l : List (List UInt8)) : Ver := if l.length = 3 then ⟨zK (tg l 0), zK (tg l 1), zK (tg l 2), [], []⟩ else Ver.zero
def triB (l : List (List UInt8)) : Bool := decide (l.length = 3) && (vP (tg l 0) && vP (tg l 1) && vP (tg l 2))
end
section
theorem pA (op : Int) : (zR op).length ≤ 2 := by
 unfold zR
 repeat' split
 all_goals decide
theorem join_len (b : UInt8) (m : Nat) : ∀ (l : List (List UInt8)), (∀ x ∈ l, x.length ≤ m) → (zG b l).length ≤ l.length * (m + 1)
 | [], _ => by simp [zG]
 | [x], h => by
  have := h x (List.mem_singleton.2 rfl)
  simp [zG]; omega
 | x :: y :: r, h => by
  have h1 := h x (List.mem_cons_self ..)
  have h2 := join_len b m (y :: r) fun z hz => h z (List.mem_cons_of_mem _ hz)
  rw [zG, List.length_append, List.length_cons]
  simp only [List.length_cons, Nat.add_mul] at h2 ⊢
  omega
theorem nums_len9 {v : Ver} (hv : v.may = true) {n : Nat} : ∀ x ∈ zT v n, x.length ≤ 21 := fun x hx => by
 obtain ⟨k, hk, rfl⟩ := nums_mem hv hx
 have := itoa_len hk
 omega
theorem fN (v : Ver) (n : Nat) : (zT v n).length ≤ 3 := by unfold zT; rw [List.length_take]; simp; omega
theorem bN {v : Ver} (hv : v.may = true) (n : Nat) : (zG 46 (zT v n)).length ≤ 100 := by
 have h := join_len 46 21 (zT v n) (nums_len9 hv)
 have := fN v n
 omega
theorem bM {v : Ver} (hv : v.may = true) (n : Nat) : (zG 46 (zT v n ++ [[42]])).length ≤ 200 := by
 have h := join_len 46 21 (zT v n ++ [[42]]) (fun x hx => by
  rcases List.mem_append.1 hx with hx | hx
  ·exact nums_len9 hv x hx
  ·rw [List.mem_singleton.1 hx]; decide)
 have := fN v n
 rw [List.length_append] at h
 simp at h; omega
def toldC (v : Ver) : Array Value := #[.string (mkS (Lib.itoa v.maj)), .string (mkS (Lib.itoa v.min)), .string (mkS (Lib.itoa v.pat))]
theorem parts_nat {c : Co} (h : c.may = true) : ((c.parts.toNat : Nat) : Int) = c.parts ∧ c.parts.toNat ≤ 3 := by
 obtain ⟨_, _, _, h9, hn, _⟩ := Co.facts h
 by_cases e : c.op = 9
 ·have := h9 e; omega
 ·have := hn e; omega
theorem star_text {c : Co} (h9 : c.op = 9) : zG 46 (zT c.v c.parts.toNat ++ [[42]]) = c.text := by
 unfold Co.text Co.rest
 rw [h9, if_pos rfl]; rfl
theorem text_pre {c : Co} (h9 : ¬ c.op = 9) (hp : ¬ c.v.pre = []) : zR c.op ++ zG 46 (zT c.v c.parts.toNat) ++ [45] ++ c.v.pre = c.text := by
 unfold Co.text Co.rest kE
 rw [if_neg h9]
 cases hq : c.v.pre with
 | nil => exact absurd hq hp
 | cons a r => simp
theorem text_bare {c : Co} (h9 : ¬ c.op = 9) (hp : c.v.pre = []) : zR c.op ++ zG 46 (zT c.v c.parts.toNat) = c.text := by
 unfold Co.text Co.rest kE
 rw [if_neg h9, hp]; simp
end
section
def opF (k : Nat) : Int := if k = 0 then 9 else if k = 1 then 7 else if k = 2 then 6 else if k = 3 then 3 else if k = 4 then 1 else 2
structure FewC (c : Co) : Prop where
 op : c.op = 7 ∨ c.op = 6 ∨ c.op = 3 ∨ c.op = 1 ∨ c.op = 2
 parts : c.parts = 3
 v : ∃ a b : Nat, a < 3 ∧ b < 2 ∧ c.v = ⟨a, b, 0, [], []⟩
def FewT (t : List UInt8) : Prop := t = [42] ∨ ∃ c, FewC c ∧ t = c.print
end
section
structure Wv where
 name : List UInt8
 rng : List UInt8
 A : Option Addr
 cap : Nat
 fs : List (List UInt8)
 bare : Bool
def wvC (x : Wv) : List Value := [.string (mkS x.name), .string (mkS x.rng), .slice x.A x.fs.length x.cap, .bool x.bare]
def wvV (x : Wv) : Value := .agg #[.string (mkS x.name), .string (mkS x.rng), .slice x.A x.fs.length x.cap, .bool x.bare]
structure WishG (own : Nat) (alone : Bool) (x : Wv) : Prop where
 name : ∃ k, k < 4 ∧ x.name = nameT ((own + 1 + k) % 5)
 rng : FewT x.rng
 fs : x.fs = [] ∨ alone = true ∧ (x.fs = [[120]] ∨ x.fs = [[120], [121]])
end
section
set_option linter.unnecessarySimpa false
def sepT (c : Nat) : List UInt8 := if c = 0 then [32, 61, 32] else [32, 33, 61, 32]
def WhenT (t : List UInt8) : Prop := t = [] ∨ ∃ k c j, k < 3 ∧ t = g0 k ++ sepT c ++ wordT j
end
section
structure Nv where
 A : Option Addr
 cap : Nat
 any : List Wv
 wh : List UInt8
 opt : List UInt8
def nvC (x : Nv) : List Value := [.slice x.A x.any.length x.cap, .string (mkS x.wh), .string (mkS x.opt)]
def nvV (x : Nv) : Value := .agg #[.slice x.A x.any.length x.cap, .string (mkS x.wh), .string (mkS x.opt)]
structure WsO (A : Option Addr) (cap : Nat) (xs : List Wv) (ob : List Blk) : Prop where
 ex : ∃ o1 o2, ob = o1 ++ o2 ∧ Sl 60 4 (.slice A xs.length cap) xs.length (xs.flatMap wvC) o1 ∧ ∀ x ∈ xs, ∃ o, SlT (.slice x.A x.fs.length x.cap) x.fs o ∧ ∀ b ∈ o, b ∈ o2
structure NeedG (own : Nat) (x : Nv) : Prop where
 any : (∃ w, x.any = [w] ∧ WishG own true w) ∨ ∃ w u, x.any = [w, u] ∧ WishG own false w ∧ WishG own false u
 wh : WhenT x.wh
 opt : x.opt = [] ∨ ∃ j, j < 4 ∧ x.opt = wordT j
def WishR (own : Nat) (alone : Bool) (v : Value) (ob : List Blk) : Prop := ∃ x, v = wvV x ∧ WishG own alone x ∧ SlT (.slice x.A x.fs.length x.cap) x.fs ob
end
section
theorem splitL_many10 (b : UInt8) : ∀ (s acc : List UInt8), (zD b acc s).length ≤ s.length + 1 := fun s acc => by
 rw [split_len]; have := List.length_filter_le (· == b) s; omega
theorem s_anew {M : List Nat} {P : Program} {n : Nat} {ops : Array Oper} {W : World} {Q : Exit → Act → World → Prop} {rest : List Oper} {L : List Blk} {f : Nat → Value} (h : ∀ w1, Own M W w1 L → Seg (L.map Blk.b) P n ops w1 Q rest L f) : Seg M P n ops W Q rest L f := ⟨fun w hO => (h w hO).go w (Own.lend hO)⟩
theorem own_new {W w : World} {E L0 : List Blk} (h : Own (L0.map Blk.b) W w (E ++ L0)) : ∀ x ∈ E, W.heap.size ≤ x.b := fun x hx => by
 rcases h.base x (List.mem_append_left _ hx) with q | q
 ·exact q
 ·obtain ⟨y, hy, e⟩ := List.mem_map.1 q
  have ha := h.apart
  rw [List.map_append, List.nodup_append] at ha
  exact absurd e.symm (ha.2.2 x.b (List.mem_map.2 ⟨x, hx, rfl⟩) y.b (List.mem_map.2 ⟨y, hy, rfl⟩))
theorem Reads.bound {α : Type} {g : α → List Value} {w w1 : World} {B1 B2 : Nat} {A : Option Addr} {l : List α} (h : Reads g w B1 A l) (h1 : Reads g w1 B2 A l) : Reads g w B2 A l := fun h0 => by
 obtain ⟨b, off, e, _, hc⟩ := h h0
 obtain ⟨b', off', e', hl, _⟩ := h1 h0
 rw [e] at e'
 injection e' with e'
 injection e' with q1 q2
 subst q1; subst q2
 exact ⟨b, off, e, hl, hc⟩
end
section
def nC (n : Nd) : List Value := [YI n.op, YI n.a, YI n.b, YI n.key, .string (mkS n.text)]
theorem dX (n : Nd) : (nC n).length = 5 := rfl
def zC (z : Int) : List Value := [YI z]
def SlN (v : Value) (l : List Nd) (ob : List Blk) : Prop := Sl 219 5 v l.length (l.flatMap nC) ob
def SlZ (v : Value) (l : List Int) (ob : List Blk) : Prop := Sl 3 1 v l.length (l.flatMap zC) ob
def ndV (n : Nd) : Value := .agg #[YI n.op, YI n.a, YI n.b, YI n.key, .string (mkS n.text)]
def pfV (e : Pf) : Value := .agg #[.string (mkS (e 0)), .string (mkS (e 1)), .string (mkS (e 2))]
theorem SlN.add {u : Value} {l : List Nd} {x : Nd} {ob : List Blk} (h : Sl 219 5 u (l.length + 1) (l.flatMap nC ++ nC x) ob) : SlN u (l ++ [x]) ob := Sl.to h (by simp) (by simp)
theorem wd_mk (s : List UInt8) : tR (mkS s) = wdL s := by unfold tR wdL; rw [yC, mk_data]
structure PfS (e : Pf) : Prop where
 h0 : (e 0).length ≤ 1000000
 h1 : (e 1).length ≤ 1000000
 h2 : (e 2).length ≤ 1000000
end
section
set_option linter.unnecessarySimpa false
theorem rd_key : ∀ (k : Nat), k < 3 → yN Tryz.prog 9 #[.string ⟨#[111, 115]⟩, .string ⟨#[97, 114, 99, 104]⟩, .string ⟨#[97, 98, 105]⟩] (0 + k * 1) = some (.string (mkS (g0 k)))
 | 0, _ => by kernel_rfl
 | 1, _ => by kernel_rfl
 | 2, _ => by kernel_rfl
def wrapB (c : Bool) (s : List UInt8) : List UInt8 := if c then [40, 32] ++ s ++ [32, 41] else s
end
section
theorem kS (r : Int) (b : Bool) (hb : dZ r = b) (w : World) :
  YC 60 #[.int .i32 r] w fun e w' => e = .returned (.bool b) ∧ w = w' := by
 subst hb
 unfold dZ
 go_enter Tryz.func60, Tryz.ntmps60
 go_wp2
 all_goals go_ret
 all_goals exact ⟨yS (by simp; try omega), rfl⟩
theorem name_any (s : ByteArray) (w : World) (hs : s.size ≤ maxLen) :
  YC 29 #[.string s] w (YR (.bool (nameB s)) w) := by
 unfold maxLen at hs
 by_cases h16 : s.size ≤ 16
 ·go_enter Tryz.func29, Tryz.ntmps29
  go_wp2
  go_loopw [3] (fun v wr => ∃ (pos : Nat) (l : Int), wr = w.iter s pos ∧ pos ≤ s.size ∧ v = .int .i32 l ∧ Hid (gB (decide (pos = 0)) l (s.data.toList.drop pos) = gB true 45 s.data.toList)) (fun _ wr => s.size - wr.iterPos w.heap.size)
  case atStart => exact ⟨0, 45, rfl, Nat.zero_le _, rfl, rfl⟩
  case round =>
   obtain ⟨pos, l, rfl, hple, rfl, HR⟩ := hrel
   by_cases hp : pos < s.size
   ·have HD := Lib.hid (bQ s pos hp)
    by_cases ha : (s[pos]'hp).toNat < 128
    ·have hnx : ∀ ty, (Instr.next (.pointer (some ⟨w.heap.size, 0, none⟩)) true ty).run Tryz.prog (w.iter s pos) = _ := fun ty => run_next_ascii w s pos ty hp ha
     by_cases hl : dZ (s[pos]'hp).toNat = true
     ·have HL := Lib.hid hl
      clear hl
      go_wp2_with (go_at_call 60; refine (kS _ true HL.out _).mono ?_; rintro e w' ⟨rfl, rfl⟩)
      go_roundw
      case rel => exact ⟨pos + 1, _, rfl, by omega, rfl, by rw [← HR.out, HD.out, nameGo_let _ _ _ _ HL.out]; rfl⟩
      case measure => simp; omega
     ·have HL := Lib.hid (Bool.eq_false_iff.2 hl)
      clear hl
      by_cases hd : xM (s[pos]'hp).toNat = true
      ·have HG := Lib.hid hd
       clear hd
       by_cases h0 : pos = 0
       ·subst h0
        go_wp2_with (first | (go_at_call 60; refine (kS _ false HL.out _).mono ?_; rintro e w' ⟨rfl, rfl⟩) | (go_at_call 61; refine (xG _ true HG.out _).mono ?_; rintro e w' ⟨rfl, rfl⟩))
        go_ret
        exact ⟨yS (by unfold nameB; rw [← HR.out, HD.out, nameGo_dig _ _ _ _ HL.out HG.out]; simp), zZ _ _ _⟩
       ·have hpi : ((pos : Int) == 0) = false := by simp; omega
        go_wp2_with (first | (go_at_call 60; refine (kS _ false HL.out _).mono ?_; rintro e w' ⟨rfl, rfl⟩) | (go_at_call 61; refine (xG _ true HG.out _).mono ?_; rintro e w' ⟨rfl, rfl⟩))
        go_roundw
        case rel => exact ⟨pos + 1, _, rfl, by omega, rfl, by rw [← HR.out, HD.out, nameGo_dig _ _ _ _ HL.out HG.out]; simp [h0, Hid]⟩
        case measure => simp; omega
      ·have HG := Lib.hid (Bool.eq_false_iff.2 hd)
       clear hd
       by_cases h3 : ((s[pos]'hp).toNat : Int) = 45
       ·have H3 := Lib.hid h3
        have h3b : (((s[pos]'hp).toNat : Int) == 45) = true := by simp [h3]
        clear h3
        by_cases h4 : l = 45
        ·have h4b : (l == 45) = true := by simp [h4]
         have H4 := Lib.hid h4
         clear h4
         go_wp2_with (first | (go_at_call 60; refine (kS _ false HL.out _).mono ?_; rintro e w' ⟨rfl, rfl⟩) | (go_at_call 61; refine (xG _ false HG.out _).mono ?_; rintro e w' ⟨rfl, rfl⟩))
         go_ret
         exact ⟨yS (by unfold nameB; rw [← HR.out, HD.out, nameGo_dash _ _ _ _ HL.out HG.out H3.out, if_pos H4.out]; simp), zZ _ _ _⟩
        ·have h4b : (l == 45) = false := by simp [h4]
         go_wp2_with (first | (go_at_call 60; refine (kS _ false HL.out _).mono ?_; rintro e w' ⟨rfl, rfl⟩) | (go_at_call 61; refine (xG _ false HG.out _).mono ?_; rintro e w' ⟨rfl, rfl⟩))
         go_roundw
         case rel => exact ⟨pos + 1, _, rfl, by omega, rfl, by rw [← HR.out, HD.out, nameGo_dash _ _ _ _ HL.out HG.out H3.out, if_neg h4]; rfl⟩
         case measure => simp; omega
       ·have h3b : (((s[pos]'hp).toNat : Int) == 45) = false := by simpa using h3
        go_wp2_with (first | (go_at_call 60; refine (kS _ false HL.out _).mono ?_; rintro e w' ⟨rfl, rfl⟩) | (go_at_call 61; refine (xG _ false HG.out _).mono ?_; rintro e w' ⟨rfl, rfl⟩))
        go_ret
        exact ⟨yS (by unfold nameB; rw [← HR.out, HD.out, nameGo_else _ _ _ _ HL.out HG.out h3]; simp), zZ _ _ _⟩
    ·have hnx : ∀ ty, (Instr.next (.pointer (some ⟨w.heap.size, 0, none⟩)) true ty).run Tryz.prog (w.iter s pos) = _ := fun ty => run_next_any w s pos ty hp
     have hhi := (decode_high s pos hp Om).1
     have HL := Lib.hid (letB_hi _ hhi)
     have HG := Lib.hid (pP _ hhi)
     have h3b : (((Utf8.decode s pos).1 : Int) == 45) = false := by simp; omega
     go_wp2_with (first | (go_at_call 60; refine (kS _ false HL.out _).mono ?_; rintro e w' ⟨rfl, rfl⟩) | (go_at_call 61; refine (xG _ false HG.out _).mono ?_; rintro e w' ⟨rfl, rfl⟩))
     go_ret
     exact ⟨yS (by unfold nameB; rw [← HR.out, HD.out, nameGo_hi _ _ _ _ Om]; simp), zZ _ _ _⟩
   ·have hnx : ∀ ty, (Instr.next (.pointer (some ⟨w.heap.size, 0, none⟩)) true ty).run Tryz.prog (w.iter s pos) = _ := fun ty => run_next_end w s pos ty hp
    have HD := Lib.hid (fZ s pos hp)
    go_wp2
    go_ret
    exact ⟨yS (by unfold nameB; rw [← HR.out, HD.out, gB]; by_cases hq : l = 45 <;> simp [h16, hq]), zZ _ _ _⟩
 ·go_enter Tryz.func29, Tryz.ntmps29
  go_wp2
  go_ret
  exact ⟨yS (by unfold nameB; simp [h16]), Below.refl _ _⟩
theorem word_any (s : ByteArray) (w : World) (hs : s.size ≤ maxLen) :
  YC 68 #[.string s] w (YR (.bool (tR s)) w) := by
 unfold maxLen at hs
 by_cases h0 : s.size = 0
 ·have H0 := Lib.hid h0
  have hz : ((s.size : Int) == 0) = true := by simp [h0]
  clear h0
  go_enter Tryz.func68, Tryz.ntmps68
  go_wp2
  go_ret
  exact ⟨yS (by unfold tR; simp [H0.out]), Below.refl _ _⟩
 ·have hz : ((s.size : Int) == 0) = false := f0 Om
  by_cases h12 : s.size ≤ 12
  ·go_enter Tryz.func68, Tryz.ntmps68
   go_wp2
   go_loopw [] (fun wr => ∃ (pos : Nat), wr = w.iter s pos ∧ pos ≤ s.size ∧ Hid (jL (s.data.toList.drop pos) = jL s.data.toList)) (fun wr => s.size - wr.iterPos w.heap.size)
   case atStart => exact ⟨0, rfl, Nat.zero_le _, rfl⟩
   case round =>
    obtain ⟨pos, rfl, hple, HR⟩ := hrel
    by_cases hp : pos < s.size
    ·have HD := Lib.hid (bQ s pos hp)
     by_cases ha : (s[pos]'hp).toNat < 128
     ·have hnx : ∀ ty, (Instr.next (.pointer (some ⟨w.heap.size, 0, none⟩)) true ty).run Tryz.prog (w.iter s pos) = _ := fun ty => run_next_ascii w s pos ty hp ha
      by_cases hl : dZ (s[pos]'hp).toNat = true
      ·have HL := Lib.hid hl
       clear hl
       go_wp2_with (go_at_call 60; refine (kS _ true HL.out _).mono ?_; rintro e w' ⟨rfl, rfl⟩)
       go_roundw
       case rel => exact ⟨pos + 1, rfl, by omega, by rw [← HR.out, HD.out, p6 _ _ (by unfold wdB; rw [HL.out]; rfl)]; rfl⟩
       case measure => simp; omega
      ·have HL := Lib.hid (Bool.eq_false_iff.2 hl)
       clear hl
       by_cases hd : xM (s[pos]'hp).toNat = true
       ·have HG := Lib.hid hd
        clear hd
        go_wp2_with (first | (go_at_call 60; refine (kS _ false HL.out _).mono ?_; rintro e w' ⟨rfl, rfl⟩) | (go_at_call 61; refine (xG _ true HG.out _).mono ?_; rintro e w' ⟨rfl, rfl⟩))
        go_roundw
        case rel => exact ⟨pos + 1, rfl, by omega, by rw [← HR.out, HD.out, p6 _ _ (by unfold wdB; rw [HL.out, HG.out]; rfl)]; rfl⟩
        case measure => simp; omega
       ·have HG := Lib.hid (Bool.eq_false_iff.2 hd)
        clear hd
        by_cases h3 : ((s[pos]'hp).toNat : Int) = 95
        ·have H3 := Lib.hid h3
         have h3b : (((s[pos]'hp).toNat : Int) != 95) = false := by simp [h3]
         clear h3
         go_wp2_with (first | (go_at_call 60; refine (kS _ false HL.out _).mono ?_; rintro e w' ⟨rfl, rfl⟩) | (go_at_call 61; refine (xG _ false HG.out _).mono ?_; rintro e w' ⟨rfl, rfl⟩))
         go_roundw
         case rel => exact ⟨pos + 1, rfl, by omega, by rw [← HR.out, HD.out, p6 _ _ (by unfold wdB; rw [HL.out, HG.out, H3.out]; rfl)]; rfl⟩
         case measure => simp; omega
        ·have h3b : (((s[pos]'hp).toNat : Int) != 95) = true := by simpa using h3
         go_wp2_with (first | (go_at_call 60; refine (kS _ false HL.out _).mono ?_; rintro e w' ⟨rfl, rfl⟩) | (go_at_call 61; refine (xG _ false HG.out _).mono ?_; rintro e w' ⟨rfl, rfl⟩))
         go_ret
         exact ⟨yS (by unfold tR; rw [← HR.out, HD.out, wordGo_bad _ _ (by unfold wdB; rw [HL.out, HG.out]; simpa using h3)]; simp), zZ _ _ _⟩
     ·have hnx : ∀ ty, (Instr.next (.pointer (some ⟨w.heap.size, 0, none⟩)) true ty).run Tryz.prog (w.iter s pos) = _ := fun ty => run_next_any w s pos ty hp
      have hhi := (decode_high s pos hp Om).1
      have HL := Lib.hid (letB_hi _ hhi)
      have HG := Lib.hid (pP _ hhi)
      have h3b : (((Utf8.decode s pos).1 : Int) != 95) = true := by simp; omega
      go_wp2_with (first | (go_at_call 60; refine (kS _ false HL.out _).mono ?_; rintro e w' ⟨rfl, rfl⟩) | (go_at_call 61; refine (xG _ false HG.out _).mono ?_; rintro e w' ⟨rfl, rfl⟩))
      go_ret
      exact ⟨yS (by unfold tR; rw [← HR.out, HD.out, wordGo_bad _ _ (by unfold wdB; rw [letB_hi8 _ Om, nY _ Om]; simp; omega)]; simp), zZ _ _ _⟩
    ·have hnx : ∀ ty, (Instr.next (.pointer (some ⟨w.heap.size, 0, none⟩)) true ty).run Tryz.prog (w.iter s pos) = _ := fun ty => run_next_end w s pos ty hp
     have HD := Lib.hid (fZ s pos hp)
     go_wp2
     go_ret
     exact ⟨yS (by unfold tR; rw [← HR.out, HD.out, jL]; simp; omega), zZ _ _ _⟩
  ·go_enter Tryz.func68, Tryz.ntmps68
   go_wp2
   go_ret
   exact ⟨yS (by unfold tR; simp [h12]), Below.refl _ _⟩
end
section
end
section
end
section
set_option linter.unnecessarySimpa false
end
section
set_option linter.unnecessarySimpa false
theorem rise_iff : ∀ {l : List (List UInt8)}, j8 l = true ↔ ∀ i (h : i + 1 < l.length), Op.bytesLess (l[i]'Om) l[i + 1] = true
 | [] => ⟨fun _ i h => by simp at h, fun _ => rfl⟩
 | [a] => ⟨fun _ i h => by simp at h, fun _ => rfl⟩
 | a :: b :: r => by
  rw [j8, Bool.and_eq_true, rise_iff (l := b :: r)]
  constructor
  ·rintro ⟨h1, h2⟩ i h
   cases i with
   | zero => exact h1
   | succ i => exact h2 i (by simpa using h)
  ·intro h
   exact ⟨h 0 (by simp), fun i hi => h (i + 1) (by simpa using hi)⟩
theorem tx_step {a b : List (List UInt8)} {k : Nat} (ha : k < a.length) (hb : k < b.length) (h : a.take k = b.take k) (e : a[k] = b[k]) : a.take (k + 1) = b.take (k + 1) := by
 rw [List.take_succ_eq_append_getElem ha, List.take_succ_eq_append_getElem hb, h, e]
theorem x6 {α : Type} {p : α → Prop} {l : List α} {i : Nat} (hi : i < l.length) (h : ∀ x ∈ l.take i, p x) (hp : p l[i]) : ∀ y ∈ l.take (i + 1), p y := fun y hy => by
 rw [List.take_succ_eq_append_getElem hi] at hy
 rcases List.mem_append.1 hy with hy | hy
 ·exact h y hy
 ·rw [List.mem_singleton.1 hy]; exact hp
theorem kO {α : Type} {p : α → Prop} {l : List α} {i : Nat} (hi : l.length ≤ i) (h : ∀ x ∈ l.take i, p x) : ∀ y ∈ l, p y := by rwa [List.take_of_length_le hi] at h
theorem items_not {l : List Ft} {of : List (List UInt8)} (h : ¬ of.length ≤ 6 ∨ j8 of = false ∨ ∃ s ∈ of, bX l s = false) : qK l of = false := by
 unfold qK
 rcases h with h | h | ⟨s, hs, h⟩
 ·rw [decide_eq_false h]; rfl
 ·rw [h]; simp
 ·rw [show of.all (bX l) = false from by rw [List.all_eq_false]; exact ⟨s, hs, by rw [h]; simp⟩]; simp
theorem items_yes {l : List Ft} {of : List (List UInt8)} (h : of.length ≤ 6) (h2 : j8 of = true) (h3 : ∀ s ∈ of, bX l s = true) : qK l of = true := by
 unfold qK
 rw [decide_eq_true h, h2, List.all_eq_true.2 h3]; rfl
theorem pH {l : List Ft} (h : ¬ l.length ≤ 8 ∨ (∃ f ∈ l, wdL f.name = false) ∨ j8 (l.map Ft.name) = false ∨ ∃ f ∈ l, qK l f.of = false) : n9 l = false := by
 unfold n9
 rcases h with h | ⟨f, hf, h⟩ | h | ⟨f, hf, h⟩
 ·rw [decide_eq_false h]; rfl
 ·rw [show l.all (fun f => wdL f.name) = false from by rw [List.all_eq_false]; exact ⟨f, hf, by rw [h]; simp⟩]; simp
 ·rw [h]; simp
 ·rw [show l.all (fun f => qK l f.of) = false from by rw [List.all_eq_false]; exact ⟨f, hf, by rw [h]; simp⟩]; simp
theorem may_yes {l : List Ft} (h : l.length ≤ 8) (h2 : ∀ f ∈ l, wdL f.name = true) (h3 : j8 (l.map Ft.name) = true) (h4 : ∀ f ∈ l, qK l f.of = true) : n9 l = true := by
 unfold n9
 rw [decide_eq_true h, List.all_eq_true.2 h2, h3, List.all_eq_true.2 h4]; rfl
theorem ft_mem {xs : List Fv} {x : Fv} (h : x ∈ xs) : x.ft ∈ kC xs := List.mem_map.2 ⟨x, h, rfl⟩
theorem ft_rise {xs : List Fv} : j8 ((kC xs).map Ft.name) = true ↔ ∀ i (h : i + 1 < xs.length), Op.bytesLess (xs[i]'Om).name xs[i + 1].name = true := by
 rw [rise_iff]
 constructor
 ·intro h i hi
  have := h i (by rw [List.length_map, d3]; exact hi)
  simpa [kC, Fv.ft] using this
 ·intro h i hi
  rw [List.length_map, d3] at hi
  simpa [kC, Fv.ft] using h i hi
theorem r1Texts_any (A B : Option Addr) (capa capb : Nat) (a b : List (List UInt8)) (W : World) (hv : Reads yE W W.heap.size A a) (hu : Reads yE W W.heap.size B b) (hn : a.length ≤ 1000000) (hm : b.length ≤ 1000000) : YC 47 #[.slice A a.length capa, .slice B b.length capb] W (YR (.bool (decide (a = b))) W) := by
 refine Z2 (n := 26) Tryz.func47 rfl (ZO (Zv Z5 (ZN (zH (ZO (Zv (.slice A a.length capa) (Zv (YI (a.length : Int)) (Zv (.slice B b.length capb) ?_))))))))
 refine Zv (YI (b.length : Int)) ?_
 by_cases h1 : (a.length : Int) = (b.length : Int)
 ·refine Zn (p := (a.length : Int) = (b.length : Int)) true (decide_eq_true (h1)) (ZX (ZB (zH (ZO (Zv (YI 0) (y8 (zJ ?_)))))))
  refine yG (vJ (fun L f m => ∃ (k : Nat) (j : Nat → Value), (k ≤ a.length ∧ a.take k = b.take k) ∧ L = [] ∧ f = j6 j [(0, .slice A a.length capa), (1, .slice B b.length capb), (5, YI (k : Int))] ∧ m = a.length - k) (a.length - 0) ⟨0, _, ⟨Nat.zero_le _, rfl⟩, rfl, ZU, rfl⟩ ?_)
  rintro L f m ⟨k, j, hrel, rfl, rfl, rfl⟩
  have hk6 := hrel.1
  refine zH (ZO (Zv (YI (k : Int)) (Zv (.slice A a.length capa) (Zv (YI (a.length : Int)) ?_))))
  by_cases h2 : (k : Int) < (a.length : Int)
  ·have hka : k < a.length := by omega
   have hkb : k < b.length := by omega
   obtain ⟨ba, oa, hA, hlta, hcella⟩ := hv Om
   obtain ⟨bb, ob, hB, hltb, hcellb⟩ := hu Om
   obtain ⟨x, hx⟩ : ∃ x, a[k] = x := ⟨_, rfl⟩
   obtain ⟨y, hy⟩ : ∃ y, b[k] = y := ⟨_, rfl⟩
   refine Zg h2 (ZY (ZB (zH (yG (zH (ok_draw Kr Kr (Zw (.slice A a.length capa) (Zw (YI (k : Int)) ?_))))))))
   refine vU (Zp ba (oa + k * 1)) Kr (ZA (b := ba) (off := oa) (c := capa) (n := a.length) (k := .i64) (j := (k : Int)) (e := 9) (sz := 1) hA) (q_old (.string (mkS x)) (a := ⟨ba, oa + k * 1, none⟩) Kr rfl Kr (fun w hO => Reads.load yH (hv.on hO.below hO.size) hA k 0 hka Om _ (by rw [hx]; kernel_rfl)) (Zw (.slice B b.length capb) (Zw (YI (k : Int)) (vU (Zp bb (ob + k * 1)) Kr (ZA (b := bb) (off := ob) (c := capb) (n := b.length) (k := .i64) (j := (k : Int)) (e := 9) (sz := 1) hB) (q_old (.string (mkS y)) (a := ⟨bb, ob + k * 1, none⟩) Kr rfl Kr (fun w hO => Reads.load yH (hu.on hO.below hO.size) hB k 0 hkb Om _ (by rw [hy]; kernel_rfl)) ?_)))))
   by_cases h3 : (x : List UInt8) = y
   ·refine vU Z5 Kr (kJ (a := x) (b := y) rfl Kr Kr (decide_eq_true (h3))) (mX (zJ (Zf (dL (zV (zJ (zF (Zv (YI (k : Int)) (Zu (k := .i64) (((k + 1 : Nat) : Int)) (IntWalk.i64_in _ Om) (Zv (YI ((k + 1 : Nat) : Int)) (y8 ?_)))))))))))
    exact yZ (m' := a.length - (k + 1)) Om ⟨k + 1, _, ⟨by omega, tx_step hka hkb hrel.2 (by rw [hx, hy]; exact h3)⟩, rfl, ZU, rfl⟩
   refine vU Z4 Kr (kJ (a := x) (b := y) rfl Kr Kr (decide_eq_false (h3))) (mX (zJ (Zt (ZO (Zv Z5 (ZN (zN (zA (z7 ?_)))))))))
   exact zM (zA (z7 (ZF Z5 Tryz.results47 (fun w hO => ⟨by rw [show decide (a = b) = false from decide_eq_false fun q => h3 (by rw [← hx, ← hy]; simp only [q])], hO.below⟩))))
  refine Zh h2 (ZX (vK (yM (yI (yJ (zJ (ZO (Zv Z4 ?_))))))))
  exact ZN (zN (ZF Z4 Tryz.results47 (fun w hO => ⟨by rw [show a = b from by have q := hrel.2; rw [List.take_of_length_le Om, List.take_of_length_le Om] at q; exact q]; simp, hO.below⟩)))
 refine Zn (p := (a.length : Int) = (b.length : Int)) false (decide_eq_false (h1)) (ZY (ZO (Zv Z5 (ZN (zN (z7 (ZF Z5 Tryz.results47 ?_)))))))
 exact fun w hO => ⟨by rw [show decide (a = b) = false from decide_eq_false fun q => h1 (by rw [q])], hO.below⟩
end
section
set_option linter.unnecessarySimpa false
structure UpTo (xs : List Fv) (i : Nat) : Prop where
 le : i ≤ xs.length
 wd : ∀ x ∈ xs.take i, wdL x.name = true
 up : ∀ z (hz : z + 1 < xs.length), z + 1 < i → Op.bytesLess (xs[z]'Om).name xs[z + 1].name = true
 it : ∀ x ∈ xs.take i, qK (kC xs) x.of = true
theorem UpTo.zero (xs : List Fv) : UpTo xs 0 := ⟨Nat.zero_le _, fun x hx => by simp at hx, fun z hz h => by omega, fun x hx => by simp at hx⟩
theorem UpTo.next {xs : List Fv} {i : Nat} (h : UpTo xs i) (hi : i < xs.length) (h1 : wdL xs[i].name = true) (h2 : ∀ h0 : 0 < i, Op.bytesLess (xs[i - 1]'Om).name xs[i].name = true) (h3 : qK (kC xs) xs[i].of = true) : UpTo xs (i + 1) := by
 refine ⟨hi, x6 hi h.wd h1, fun z hz hzi => ?_, x6 hi h.it h3⟩
 rcases Nat.lt_succ_iff_lt_or_eq.1 hzi with q | q
 ·exact h.up z hz q
 ·subst q; exact h2 Om
theorem UpTo.may {xs : List Fv} {i : Nat} (h : UpTo xs i) (hi : xs.length ≤ i) (h8 : xs.length ≤ 8) : n9 (kC xs) = true := by
 refine may_yes (by rw [d3]; exact h8) (fun f hf => ?_) (ft_rise.2 fun z hz => h.up z hz (by omega)) fun f hf => ?_
 ·obtain ⟨x, hx, rfl⟩ := List.mem_map.1 hf; exact kO hi h.wd x hx
 ·obtain ⟨x, hx, rfl⟩ := List.mem_map.1 hf; exact kO hi h.it x hx
theorem may_no1 {xs : List Fv} {x : Fv} (hx : x ∈ xs) (h : wdL x.name = false) : n9 (kC xs) = false := pH (.inr (.inl ⟨x.ft, ft_mem hx, h⟩))
theorem may_no2 {xs : List Fv} {z : Nat} (hz : z + 1 < xs.length) (h : Op.bytesLess (xs[z]'Om).name xs[z + 1].name = false) : n9 (kC xs) = false := pH (.inr (.inr (.inl (by
 cases hq : j8 ((kC xs).map Ft.name) with
 | false => rfl
 | true => have q := ft_rise.1 hq z hz; rw [h] at q; cases q))))
theorem may_no3 {xs : List Fv} {x : Fv} (hx : x ∈ xs) (h : qK (kC xs) x.of = false) : n9 (kC xs) = false := pH (.inr (.inr (.inr ⟨x.ft, ft_mem hx, h⟩)))
end
section
set_option linter.unnecessarySimpa false
structure RdP (w : World) (v : Value) (l : List (List UInt8)) : Prop where
 ex : ∃ A cap, v = .slice A l.length cap ∧ Reads yE w w.heap.size A l ∧ l.length ≤ cap ∧ (l = [] → A = none ∧ cap = 0)
end
section
section
variable {M : List Nat} {P : Program} {n : Nat} {ops : Array Oper} {W : World} {L0 : List Blk} {Q : Exit → Act → World → Prop} {fuel : Nat} {listed : Array Bool} {f : Nat → Value}
theorem hl_appendR {α : Type} {g : α → List Value} {i0 : Nat} {E ob R : List Blk} (oi : Oper) {t T : TypeId} {s x : Operand} {i : TypeInfo} {z : Value} {sz : Nat} (hg : ∀ y, (g y).length = sz) (hi0 : ops[i0]? = some oi) (hw : zP ops n f oi = true) (ho : oi.op = .call { callee := .builtin .append, args := #[s, x], argTypes := #[t, t] })
  (ht : P.underlying t = some (.slice T)) (hi : P.info? T = some i) (hz : i.zero = some z) (hsz : i.size = sz) (hzs : z.cells.size = sz)
  {v : Value} {m0 : Nat} {xs : List Value} (hs : ev n f s = v) (hv : Sl T sz v m0 xs ob) {A : Option Addr} {c : Nat} {l : List α} (hx : ev n f x = .slice A l.length c)
  (hR : ∀ w, Own M W w (E ++ ob ++ R) → Reads g w w.heap.size A l) (h1 : ∀ y, ∀ u ∈ g y, u.oneCell' = true)
  (h63 : m0 + l.length ≤ maxLen) (hbytes : (m0 + l.length) * i.bytes ≤ 140737488355328) (hsub : ∀ ob' w, Own M W w (E ++ ob' ++ R) → Own M W w L0)
  (h : ∀ v' ob', Sl T sz v' (m0 + l.length) (xs ++ l.flatMap g) ob' → qX M P n ops W L0 Q fuel (listed.setIfInBounds i0 true) (E ++ ob' ++ R) (upd f oi.dst v')) : bD M P n ops W L0 Q fuel listed i0 (E ++ ob ++ R) f :=
 mP hi0 hw fun w hO => by
  have hone : ∀ u ∈ l.flatMap g, u.oneCell' = true := fun u hu => by
   obtain ⟨y, _, hy⟩ := List.mem_flatMap.1 hu
   exact h1 y u hy
  cases A with
  | none =>
   have h0 : l = [] := by
    cases l with
    | nil => rfl
    | cons y l => obtain ⟨b, off, e, _⟩ := hR w hO (by simp); cases e
   subst h0
   have hv' : Sl T sz v (m0 + ([] : List α).length) (xs ++ ([] : List α).flatMap g) ob := by simpa using hv
   refine gT v (w' := w) ?_ ⟨hsub ob w hO, (h v ob hv').go w hO⟩
   have hx' : ev n f x = .slice none 0 c := hx
   unfold execOp
   simp only [ho, resolve, invoke, builtin, Sem.run_bind, Sem.run_pure, Result.andThen_ok, List.map_toArray, List.map_cons, List.map_nil, hs, hx', mY ht hi hv c]
  | some a =>
   have hnews : ∀ j u, (l.flatMap g)[j]? = some u → w.cell? (a.add j) = some u := fun j u hj => by
    have h0 : 0 < l.length := by
     cases l with
     | nil => simp at hj
     | cons y l => simp
    obtain ⟨b, off, e, _, hc⟩ := hR w hO h0
    obtain rfl := Option.some.inj e
    rw [yX]
    exact hc j u hj
   obtain ⟨v', w', ob', hr, h2, h3⟩ := mL (P := P) (ty := oi.type) (c := c) ht hi hz hsz hzs hv hO (qL hg l) hnews hone h63 hbytes
   refine gT v' (w' := w') ?_ ⟨hsub ob' w' h3, (h v' ob' h2).go w' h3⟩
   unfold execOp
   simp only [ho, resolve, invoke, builtin, Sem.run_bind, Sem.run_pure, Result.andThen_ok, List.map_toArray, List.map_cons, List.map_nil, hs, hx, hr]
end
section
variable {M : List Nat} {P : Program} {n : Nat} {W : World} {Q : Exit → Act → World → Prop} {c : Xc}
theorem xh_appR {α : Type} {g : α → List Value} {T : TypeId} {sz k cp : Nat} {v : Value} {xs : List Value} {A : Option Addr} (l : List α) (E ob R : List Blk) (L1 L0 : List Blk) (hs : ∀ w, Own M W w L1 → Own M W w (E ++ ob ++ R)) (hsub : ∀ ob' w, Own M W w (E ++ ob' ++ R) → Own M W w L0)
  (hgl : ∀ y, (g y).length = sz) (h1 : ∀ y, ∀ u ∈ g y, u.oneCell' = true) (hR : ∀ w, Own M W w (E ++ ob ++ R) → Reads g w w.heap.size A l) (hv : Sl T sz v k xs ob) (hN : k + l.length ≤ 1000000)
  (hg : ∀ v' ob', Sl T sz v' (k + l.length) (xs ++ l.flatMap g) ob' → zI M P n W Q (aNext c (E ++ ob' ++ R) v'))
  (hkt : (c.L, hL c, c.top, (xA c)[hI c]?, zP (xA c) n c.f (xO c), (xO c).op, ev n c.f (aX (xO c) 0), ev n c.f (aX (xO c) 1), P.underlying (aT (xO c)), aInfo P T)
   = (L1, L0, .hst (xA c) (hS c) (hU c) (hL c) (hI c), some (xO c), true, aOp (xO c), v, .slice A l.length cp, some (.slice T), some (true, sz, some sz)) := by kernel_rfl) : zI M P n W Q c := by
 simp only [Prod.mk.injEq] at hkt
 obtain ⟨f1, f2, e1, e2, e3, e4, e5, e6, e8, e9⟩ := hkt
 rw [← f1] at hs
 rw [← f2] at hsub
 have : c = ⟨.hst (xA c) (hS c) (hU c) (hL c) (hI c), c.k, c.L, c.f⟩ := by rw [← e1]
 rw [this]
 obtain ⟨i, z, hi, hz, hsz, hzs, hby⟩ := aInfo_is e9
 refine ⟨fun hq hs0 => hs_take' hs (hl_appendR (E := E) (ob := ob) (R := R) (xO c) hgl e2 e3 e4 e8 hi hz hsz hzs e5 hv e6 hR h1 ?_ ?_ hsub fun v' ob' h => (hg v' ob' h).go hq (hsub ob'))⟩
 ·unfold maxLen; omega
 ·have := Nat.mul_le_mul hN hby; omega
theorem sl_block {T : TypeId} {b N sz : Nat} {cs : Array Value} (h : cs.size = N * sz) (hN : N ≤ maxLen) : Sl T sz (.slice (some ⟨b, 0, none⟩) N N) N cs.toList [⟨b, cs, T⟩] :=
 ⟨by rw [Array.length_toList]; exact h, .inr ⟨b, N, cs, rfl, rfl, Nat.le_refl _, hN, h, by rw [List.take_of_length_le (by rw [Array.length_toList, h]; exact Nat.le_refl _)]⟩⟩
end
end
section
def xIns (ρ : Operand → Value) (o : Oper) : Option (Sem Value) := match o.op with
 | .makeMap t none => some (Instr.makeMap t none)
 | .lookup t m x c => some (Instr.lookup t (ρ m) (ρ x) c)
 | .range t x => some (Instr.range t (ρ x))
 | .next it s => some (Instr.next (ρ it) s o.type)
 | .entry it => some (Instr.entry (ρ it))
 | _ => none
def xUpd (ρ : Operand → Value) (o : Oper) : Option (Sem Unit) := match o.op with
 | .mapUpdate t m k x => some (Instr.mapUpdate t (ρ m) (ρ k) (ρ x))
 | _ => none
section
variable {M : List Nat} {P : Program} {n : Nat} {W : World} {Q : Exit → Act → World → Prop} {c : Xc}
theorem x_drawF (fu : Fuel1) (m : Nat) (h : List Nat) (hg : zI M P n W Q ⟨.hps ((xDr (x2 P n nS fu h c)).toList.take m).toArray (Array.replicate m false) m (x2 P n nS fu h c).L, .tl (xDr (x2 P n nS fu h c)) ((xDr (x2 P n nS fu h c)).toList.drop m) :: (x2 P n nS fu h c).k, (x2 P n nS fu h c).L, (x2 P n nS fu h c).f⟩)
  (hkt : (xl P n nS fu h c, (x2 P n nS fu h c).top, P.follows .mixedOrders, preB .any (xDr (x2 P n nS fu h c)).toList m) = (xr P n nS (tI fu) h c, .code (.region (xId (x2 P n nS fu h c)) (xDr (x2 P n nS fu h c)) true), true, true) := by kernel_rfl) : zI M P n W Q c := by
 simp only [Prod.mk.injEq] at hkt
 obtain ⟨hk, e1, e2, e3⟩ := hkt
 refine tO fu h c hk ?_
 generalize x2 P n nS fu h c = d at hg e1 e3 ⊢
 generalize xDr d = a at hg e1 e3
 obtain ⟨l, rfl⟩ : ∃ l : List Oper, a = l.toArray := ⟨a.toList, by simp⟩
 have : d = ⟨.code (.region (xId d) l.toArray true), d.k, d.L, d.f⟩ := by rw [← e1]
 rw [this]
 have hg' : zI M P n W Q ⟨.hps (l.take m).toArray (Array.replicate m false) m d.L, .tl l.toArray (l.drop m) :: d.k, d.L, d.f⟩ := by simpa using hg
 exact ⟨fun hq => ok_drawh m d.L e2 (by simpa using e3) (hg'.go hq fun _ h => h)⟩
end
end
section
section
variable {M : List Nat} {P : Program} {n : Nat} {W : World} {Q : Exit → Act → World → Prop} {c : Xc}
theorem x_callO {k : FuncId} {args : Array Value} {Rr : Value → List Blk → Prop} (h : List Nat) (L1 : List Blk) (hc : ∀ w, Own M W w L1 → Calls P k args w fun e w' => ∃ v L', e = .returned v ∧ Rr v L' ∧ Own M W w' L')
  (hg : ∀ v L', Rr v L' → zI M P n W Q ⟨.ops (xA (xgo P n nS h c)) (xT (xgo P n nS h c)), (xgo P n nS h c).k, L', upd (xgo P n nS h c).f (xO (xgo P n nS h c)).dst v⟩)
  (hkt : (xgl P n nS h c, (xgo P n nS h c).L, (xgo P n nS h c).top, zP (xA (xgo P n nS h c)) n (xgo P n nS h c).f (xO (xgo P n nS h c)), xEnt P n (xgo P n nS h c)) = (xgr P n nS h c, L1, .ops (xA (xgo P n nS h c)) (xO (xgo P n nS h c) :: xT (xgo P n nS h c)), true, fun w => .ok (.enter k args) w) := by kernel_rfl) : zI M P n W Q c := by
 simp only [Prod.mk.injEq] at hkt
 obtain ⟨hk, f1, e1, e3, e4⟩ := hkt
 refine zQ h c hk ?_
 generalize xgo P n nS h c = d at *
 have e5 : ∀ w, (execOp (ev n d.f) (xO d)).run P w = .ok (.enter k args) w := fun w => by
  have h1 := congrFun e4 w
  unfold xEnt at h1
  rw [e1] at h1
  dsimp only at h1
  rw [e3] at h1
  exact h1
 have : d = ⟨.ops (xA d) (xO d :: xT d), d.k, d.L, d.f⟩ := by rw [← e1]
 rw [this]
 rw [← f1] at hc
 exact ⟨fun hq => s_callo Rr e3 e5 hc fun v L' k2 => (hg v L' k2).go hq⟩
theorem x5 {k : FuncId} {args : Array Value} {Rr : Value → List Blk → Prop} (h : List Nat) (L1 R ob : List Blk) (hs : ∀ w, Own M W w L1 → Own M W w (R ++ ob)) (hc : ∀ w, Own M W w (R ++ ob) → Calls P k args w fun e w' => ∃ v ob', e = .returned v ∧ Rr v ob' ∧ Own (ob.map Blk.b) w w' ob')
  (hg : ∀ v ob', Rr v ob' → zI M P n W Q ⟨.ops (xA (xgo P n nS h c)) (xT (xgo P n nS h c)), (xgo P n nS h c).k, R ++ ob', upd (xgo P n nS h c).f (xO (xgo P n nS h c)).dst v⟩)
  (hkt : (xgl P n nS h c, (xgo P n nS h c).L, (xgo P n nS h c).top, zP (xA (xgo P n nS h c)) n (xgo P n nS h c).f (xO (xgo P n nS h c)), xEnt P n (xgo P n nS h c)) = (xgr P n nS h c, L1, .ops (xA (xgo P n nS h c)) (xO (xgo P n nS h c) :: xT (xgo P n nS h c)), true, fun w => .ok (.enter k args) w) := by kernel_rfl) : zI M P n W Q c := by
 simp only [Prod.mk.injEq] at hkt
 obtain ⟨hk, f1, e1, e3, e4⟩ := hkt
 refine zQ h c hk ?_
 generalize xgo P n nS h c = d at *
 have e5 : ∀ w, (execOp (ev n d.f) (xO d)).run P w = .ok (.enter k args) w := fun w => by
  have h1 := congrFun e4 w
  unfold xEnt at h1
  rw [e1] at h1
  dsimp only at h1
  rw [e3] at h1
  exact h1
 have : d = ⟨.ops (xA d) (xO d :: xT d), d.k, d.L, d.f⟩ := by rw [← e1]
 rw [this]
 rw [← f1] at hs
 refine ⟨fun hq => wV hs (s_callo (fun v L' => ∃ ob', Rr v ob' ∧ L' = R ++ ob') e3 e5 (fun w hO => (hc w hO).mono fun e w' ⟨v, ob', k1, k2, k3⟩ => ⟨v, _, k1, ⟨ob', k2, rfl⟩, (Own.back (hO.perm List.perm_append_comm) k3).perm List.perm_append_comm⟩) fun v L' ⟨ob', k2, k3⟩ => ?_)⟩
 subst k3
 exact (hg v ob' k2).go hq
theorem xh_callL {k : FuncId} {args : Array Value} {Rr : Value → List Blk → Prop} (L1 R ob L0 : List Blk) (hs : ∀ w, Own M W w L1 → Own M W w (R ++ ob)) (hsub : ∀ ob' w, Own M W w (R ++ ob') → Own M W w L0) (hc : ∀ w, Own M W w (R ++ ob) → Calls P k args w fun e w' => ∃ v ob', e = .returned v ∧ Rr v ob' ∧ Own (ob.map Blk.b) w w' ob')
  (hg : ∀ v ob', Rr v ob' → zI M P n W Q (aNext c (R ++ ob') v))
  (hkt : (c.L, hL c, c.top, (xA c)[hI c]?, zP (xA c) n c.f (xO c), fun w => (execOp (ev n c.f) (xO c)).run P w) = (L1, L0, .hst (xA c) (hS c) (hU c) (hL c) (hI c), some (xO c), true, fun w => .ok (.enter k args) w) := by kernel_rfl) : zI M P n W Q c := by
 simp only [Prod.mk.injEq] at hkt
 obtain ⟨f1, f2, e1, e2, e3, e4⟩ := hkt
 rw [← f1] at hs
 rw [← f2] at hsub
 have : c = ⟨.hst (xA c) (hS c) (hU c) (hL c) (hI c), c.k, c.L, c.f⟩ := by rw [← e1]
 rw [this]
 refine ⟨fun hq hs0 => hs_take' hs (nU (xO c) (fun v L' => ∃ ob', Rr v ob' ∧ L' = R ++ ob') e2 e3 (fun w => congrFun e4 w) (fun w hO => (hc w hO).mono fun e w' ⟨v, ob', k1, k2, k3⟩ => ⟨v, _, k1, ⟨ob', k2, rfl⟩, (Own.back (hO.perm List.perm_append_comm) k3).perm List.perm_append_comm⟩) (fun v L' ⟨ob', _, k3⟩ w hO => hsub ob' w (k3 ▸ hO)) fun v L' ⟨ob', k2, k3⟩ => ?_)⟩
 subst k3
 exact (hg v ob' k2).go hq (hsub ob')
theorem x_drawLF (fu : Fuel1) (m : Nat) (h : List Nat) (L0 : List Blk) (hs : ∀ w, Own M W w (x2 P n nS fu h c).L → Own M W w L0) (hg : zI M P n W Q ⟨.hps ((xDr (x2 P n nS fu h c)).toList.take m).toArray (Array.replicate m false) m L0, .tl (xDr (x2 P n nS fu h c)) ((xDr (x2 P n nS fu h c)).toList.drop m) :: (x2 P n nS fu h c).k, (x2 P n nS fu h c).L, (x2 P n nS fu h c).f⟩)
  (hkt : (xl P n nS fu h c, (x2 P n nS fu h c).top, P.follows .mixedOrders, preB .any (xDr (x2 P n nS fu h c)).toList m) = (xr P n nS (tI fu) h c, .code (.region (xId (x2 P n nS fu h c)) (xDr (x2 P n nS fu h c)) true), true, true) := by kernel_rfl) : zI M P n W Q c := by
 simp only [Prod.mk.injEq] at hkt
 obtain ⟨hk, e1, e2, e3⟩ := hkt
 refine tO fu h c hk ?_
 generalize x2 P n nS fu h c = d at hg hs e1 e3 ⊢
 generalize xDr d = a at hg e1 e3
 obtain ⟨l, rfl⟩ : ∃ l : List Oper, a = l.toArray := ⟨a.toList, by simp⟩
 have : d = ⟨.code (.region (xId d) l.toArray true), d.k, d.L, d.f⟩ := by rw [← e1]
 rw [this]
 have hg' : zI M P n W Q ⟨.hps (l.take m).toArray (Array.replicate m false) m L0, .tl l.toArray (l.drop m) :: d.k, d.L, d.f⟩ := by simpa using hg
 exact ⟨fun hq => ok_drawh m L0 e2 (by simpa using e3) (hg'.go hq hs)⟩
theorem x_appR {α : Type} {g : α → List Value} {T : TypeId} {sz k cp : Nat} {v : Value} {xs : List Value} {A : Option Addr} (h : List Nat) (l : List α) (E ob R : List Blk) (L1 : List Blk) (hs : ∀ w, Own M W w L1 → Own M W w (E ++ ob ++ R))
  (hgl : ∀ y, (g y).length = sz) (h1 : ∀ y, ∀ u ∈ g y, u.oneCell' = true) (hR : ∀ w, Own M W w (E ++ ob ++ R) → Reads g w w.heap.size A l) (hv : Sl T sz v k xs ob) (hN : k + l.length ≤ 1000000)
  (hg : ∀ v' ob', Sl T sz v' (k + l.length) (xs ++ l.flatMap g) ob' → zI M P n W Q ⟨.ops (xA (xgo P n nS h c)) (xT (xgo P n nS h c)), (xgo P n nS h c).k, E ++ ob' ++ R, upd (xgo P n nS h c).f (xO (xgo P n nS h c)).dst v'⟩)
  (hkt : (xgl P n nS h c, (xgo P n nS h c).L, (xgo P n nS h c).top, zP (xA (xgo P n nS h c)) n (xgo P n nS h c).f (xO (xgo P n nS h c)), (xO (xgo P n nS h c)).op, ev n (xgo P n nS h c).f (aX (xO (xgo P n nS h c)) 0), ev n (xgo P n nS h c).f (aX (xO (xgo P n nS h c)) 1), P.underlying (aT (xO (xgo P n nS h c))), aInfo P T)
   = (xgr P n nS h c, L1, .ops (xA (xgo P n nS h c)) (xO (xgo P n nS h c) :: xT (xgo P n nS h c)), true, aOp (xO (xgo P n nS h c)), v, .slice A l.length cp, some (.slice T), some (true, sz, some sz)) := by kernel_rfl) : zI M P n W Q c := by
 simp only [Prod.mk.injEq] at hkt
 obtain ⟨hk, f1, e1, e3, e4, e5, e6, e8, e9⟩ := hkt
 refine zQ h c hk ?_
 generalize xgo P n nS h c = d at *
 rw [← f1] at hs
 have : d = ⟨.ops (xA d) (xO d :: xT d), d.k, d.L, d.f⟩ := by rw [← e1]
 rw [this]
 obtain ⟨i, z, hi, hz, hsz, hzs, hby⟩ := aInfo_is e9
 have h63 : k + l.length ≤ maxLen := by unfold maxLen; omega
 have hbytes : (k + l.length) * i.bytes ≤ 140737488355328 := by have := Nat.mul_le_mul hN hby; omega
 have hone : ∀ u ∈ l.flatMap g, u.oneCell' = true := fun u hu => by
  obtain ⟨y, _, hy⟩ := List.mem_flatMap.1 hu
  exact h1 y u hy
 refine ⟨fun hq => wV hs (v6 e3 fun w hO => ?_)⟩
 cases A with
 | none =>
  have h0 : l = [] := by
   cases l with
   | nil => rfl
   | cons y l => obtain ⟨b, off, e, _⟩ := hR w hO (by simp); cases e
  subst h0
  have hv' : Sl T sz v (k + ([] : List α).length) (xs ++ ([] : List α).flatMap g) ob := by simpa using hv
  refine gT v (w' := w) ?_ (((hg v ob hv').go hq).go w hO)
  have hx' : ev n d.f (aX (xO d) 1) = .slice none 0 cp := e6
  unfold execOp
  rw [e4]
  simp only [aOp, resolve, invoke, builtin, Sem.run_bind, Sem.run_pure, Result.andThen_ok, List.map_toArray, List.map_cons, List.map_nil, e5, hx', mY e8 hi hv cp]
 | some a =>
  have hnews : ∀ j u, (l.flatMap g)[j]? = some u → w.cell? (a.add j) = some u := fun j u hj => by
   have h0 : 0 < l.length := by
    cases l with
    | nil => simp at hj
    | cons y l => simp
   obtain ⟨b, off, e, _, hc⟩ := hR w hO h0
   obtain rfl := Option.some.inj e
   rw [yX]
   exact hc j u hj
  obtain ⟨v', w', ob', hr, h2, h3⟩ := mL (P := P) (ty := (xO d).type) (c := cp) e8 hi hz hsz hzs hv hO (qL hgl l) hnews hone h63 hbytes
  refine gT v' (w' := w') ?_ (((hg v' ob' h2).go hq).go w' h3)
  unfold execOp
  rw [e4]
  simp only [aOp, resolve, invoke, builtin, Sem.run_bind, Sem.run_pure, Result.andThen_ok, List.map_toArray, List.map_cons, List.map_nil, e5, e6, hr]
end
end
section
def sT (o : Oper) : TypeId := match o.op with
 | .store T _ _ => T
 | _ => 0
def sP (o : Oper) : Operand := match o.op with
 | .store _ p _ => p
 | _ => .tmp 0
def sQ (o : Oper) : Operand := match o.op with
 | .store _ _ q => q
 | _ => .tmp 0
def sDn (o : Oper) : Bool := o.dst.isNone
theorem sDn_is {o : Oper} (h : sDn o = true) : o.dst = none := by
 unfold sDn at h
 cases hd : o.dst with
 | none => rfl
 | some d => rw [hd] at h; cases h
section
variable {M : List Nat} {P : Program} {n : Nat} {ops : Array Oper} {W : World} {L L0 : List Blk} {Q : Exit → Act → World → Prop} {fuel : Nat} {listed : Array Bool} {f : Nat → Value}
theorem hl_storeS {i : Nat} (oi : Oper) (k : Nat) (x : Blk) {T : TypeId} {p q : Operand} {off : Nat} (v : Value) (sz : Nat) (hi' : ops[i]? = some oi) (hw : zP ops n f oi = true) (ho : oi.op = .store T p q) (hd : oi.dst = none) (hL : L[k]? = some x)
  (hp : ev n f p = .pointer (some ⟨x.b, off, none⟩)) (hq : ev n f q = v) (hz : (P.info? T).map (·.size) = some sz) (hs : v.cells.size = sz) (hle : off + sz ≤ x.cs.size) (h1 : (v.cells.toList.all fun u => u.oneCell') = true)
  (hsub : ∀ w, Own M W w (L.set k ⟨x.b, zS x.cs off v.cells, x.ty⟩) → Own M W w L0)
  (h : qX M P n ops W L0 Q fuel (listed.setIfInBounds i true) (L.set k ⟨x.b, zS x.cs off v.cells, x.ty⟩) f) : bD M P n ops W L0 Q fuel listed i L f :=
 mP hi' hw fun w hO => by
  cases ht : P.info? T with
  | none => rw [ht] at hz; cases hz
  | some t =>
   rw [ht] at hz
   have et : t.size = sz := Option.some.inj hz
   have hst := run_storeCells_at (P := P) x.b off x.ty v.cells.toList 0 x.cs w (hO.get hL) (by simp; omega) (List.all_eq_true.1 h1)
   have hO' := hO.put hL (zS x.cs off v.cells)
   unfold Oper.wp
   rw [xY]
   have hr : (execOp (ev n f) oi).run P w = .ok .skip (w.setRow x.b (zS x.cs off v.cells)) := by
    unfold execOp
    simp only [ho, hp, hq, Instr.storeAt, Instr.sureAddr, Sem.run_bind, Sem.run_pure, Result.andThen_ok, storeVar, sizeOf, typeInfo, ht, hs, et, run_program]
    simp only [ne_eq, not_true_eq_false, if_false]
    have : (storeCells ⟨x.b, off, none⟩ v.cells.toList).run P w = .ok () (w.setRow x.b (zS x.cs off v.cells)) := by
     rw [hst]; unfold zS; simp
    simp [this]
   rw [hr]
   show Own M W _ L0 ∧ wpAnyH P .any ops Q (fun w => Own M W w L0) fuel (listed.setIfInBounds i true) ((Fr n f).put oi.dst undef) _
   rw [gW, hd]
   exact ⟨hsub _ hO', h.go _ hO'⟩
end
section
variable {M : List Nat} {P : Program} {n : Nat} {W : World} {Q : Exit → Act → World → Prop} {c : Xc}
theorem x_sto (q : Nat) (x : Blk) (off sz : Nat) (v : Value) (L1 : List Blk) (hle : off + sz ≤ x.cs.size) (hg : zI M P n W Q ⟨.ops (xA c) (xT c), c.k, L1.set q ⟨x.b, zS x.cs off v.cells, x.ty⟩, c.f⟩)
  (hkt : (c.L, c.top, zP (xA c) n c.f (xO c), (xO c).op, sDn (xO c), ev n c.f (sP (xO c)), ev n c.f (sQ (xO c)), L1[q]?, (P.info? (sT (xO c))).map (·.size), v.cells.size, v.cells.toList.all fun u => u.oneCell')
   = (L1, .ops (xA c) (xO c :: xT c), true, .store (sT (xO c)) (sP (xO c)) (sQ (xO c)), true, .pointer (some ⟨x.b, off, none⟩), v, some x, some sz, sz, true) := by kernel_rfl) : zI M P n W Q c := by
 simp only [Prod.mk.injEq] at hkt
 obtain ⟨f1, e1, e2, e3, e4, e5, e6, e7, e8, e9, e10⟩ := hkt
 have : c = ⟨.ops (xA c) (xO c :: xT c), c.k, L1, c.f⟩ := by rw [← e1, ← f1]
 rw [this]
 exact ⟨fun hq => nK q x v sz e2 e3 (sDn_is e4) e7 e5 e6 e8 e9 hle e10 (hg.go hq)⟩
theorem xh_sto (q : Nat) (x : Blk) (off sz : Nat) (v : Value) (L1 L0 : List Blk) (hle : off + sz ≤ x.cs.size) (hsub : ∀ w, Own M W w (L1.set q ⟨x.b, zS x.cs off v.cells, x.ty⟩) → Own M W w L0)
  (hg : zI M P n W Q ⟨.hps (xA c) ((hS c).setIfInBounds (hI c) true) (hU c) (hL c), c.k, L1.set q ⟨x.b, zS x.cs off v.cells, x.ty⟩, c.f⟩)
  (hkt : (c.L, hL c, c.top, (xA c)[hI c]?, zP (xA c) n c.f (xO c), (xO c).op, sDn (xO c), ev n c.f (sP (xO c)), ev n c.f (sQ (xO c)), L1[q]?, (P.info? (sT (xO c))).map (·.size), v.cells.size, v.cells.toList.all fun u => u.oneCell')
   = (L1, L0, .hst (xA c) (hS c) (hU c) (hL c) (hI c), some (xO c), true, .store (sT (xO c)) (sP (xO c)) (sQ (xO c)), true, .pointer (some ⟨x.b, off, none⟩), v, some x, some sz, sz, true) := by kernel_rfl) : zI M P n W Q c := by
 simp only [Prod.mk.injEq] at hkt
 obtain ⟨f1, f2, e1, e0, e2, e3, e4, e5, e6, e7, e8, e9, e10⟩ := hkt
 have : c = ⟨.hst (xA c) (hS c) (hU c) (hL c) (hI c), c.k, L1, c.f⟩ := by rw [← e1, ← f1]
 rw [← f2] at hsub
 rw [this]
 exact ⟨fun hq hs => hl_storeS (xO c) q x v sz e0 e2 e3 (sDn_is e4) e7 e5 e6 e8 e9 hle e10 hsub (hg.go hq hsub)⟩
theorem xh_seqv (t : Nat) (h : List Nat) (i : Nat) (a b : List UInt8) (hg : zI M P n W Q (xHn (xgo P n t h c) i (.bool (decide (a = b)))))
  (hkt : (xgl P n t h c, pS n i (xgo P n t h c), (xOi i (xgo P n t h c)).op, ev n (xgo P n t h c).f (oX (xOi i (xgo P n t h c))), ev n (xgo P n t h c).f (oY (xOi i (xgo P n t h c))))
   = (xgr P n t h c, dU i (xgo P n t h c), .binOp .eql (oT (xOi i (xgo P n t h c))) (oX (xOi i (xgo P n t h c))) (oY (xOi i (xgo P n t h c))) (oU (xOi i (xgo P n t h c))), .string (mkS a), .string (mkS b)) := by kernel_rfl) : zI M P n W Q c := by
 simp only [Prod.mk.injEq] at hkt
 obtain ⟨hk, e1, e2, e3, e4⟩ := hkt
 exact zQ h c hk (xtake (fun w _ => x8 e2 e3 e4 rfl w) hg e1)
def slQ (o : Oper) : TypeId × Operand × Operand × Bool := match o.op with
 | .slice t x (some y) none none => (t, x, y, true)
 | _ => (0, .tmp 0, .tmp 0, false)
theorem slQ_op {o : Oper} (h : (slQ o).2.2.2 = true) : o.op = .slice (slQ o).1 (slQ o).2.1 (some (slQ o).2.2.1) none none := by
 unfold slQ at h ⊢
 split at h
 ·rename_i e; rw [e]
 ·cases h
theorem xh_sllo (t : Nat) (h : List Nat) (i : Nat) {A : Option Addr} {b off : Nat} (hA : A = some ⟨b, off, none⟩) (N cp sz : Nat) (j : Int) (h0 : 0 ≤ j) (h1 : j ≤ N) (v : Value) (hv : .slice (some ⟨b, off + (if cp = j.toNat then 0 else j.toNat * sz), none⟩) (N - j.toNat) (cp - j.toNat) = v) (hg : zI M P n W Q (xHn (xgo P n t h c) i v))
  (hkt : (xgl P n t h c, pS n i (xgo P n t h c), (slQ (xOi i (xgo P n t h c))).2.2.2, ev n (xgo P n t h c).f (slQ (xOi i (xgo P n t h c))).2.1, ev n (xgo P n t h c).f (slQ (xOi i (xgo P n t h c))).2.2.1, P.underlying (slQ (xOi i (xgo P n t h c))).1, (P.info? (xEl P (slQ (xOi i (xgo P n t h c))).1)).map (·.size))
   = (xgr P n t h c, dU i (xgo P n t h c), true, .slice A N cp, YI j, some (.slice (xEl P (slQ (xOi i (xgo P n t h c))).1)), some sz) := by kernel_rfl) : zI M P n W Q c := by
 simp only [Prod.mk.injEq] at hkt
 obtain ⟨hk, e1, e2, e3, e4, e5, e6⟩ := hkt
 subst hA
 exact zQ h c hk (xtake (fun w _ => by rw [run_sllo (slQ_op e2) e3 e4 e5 e6 h0 h1 w, hv]) hg e1)
end
end
section
set_option linter.unnecessarySimpa false
def PutR (v : Value) (l : List (List UInt8)) (s : List UInt8) (v' : Value) (ob : List Blk) : Prop := (v' = v ∧ putT l s = l ∧ ob = []) ∨ SlT v' (putT l s) ob
def shA (o : Oper) : TypeId × Operand × Operand × Bool := match o.op with
 | .slice t x none (some y) none => (t, x, y, true)
 | _ => (0, .tmp 0, .tmp 0, false)
def ltB (o : Oper) : Bool := match o.op with
 | .binOp .lss _ _ _ _ => true
 | _ => false
section
variable {M : List Nat} {P : Program} {n : Nat} {W : World} {Q : Exit → Act → World → Prop} {c : Xc}
end
end
section
def nmF (k : Nat) : List UInt8 := if k = 0 then dfl else if k = 1 then [120] else if k = 2 then [121] else [122]
def ItemG (needs : List Nv) (keep : Nat → Bool) (s : List UInt8) : Prop :=
 (∃ m ∈ needs, ¬ m.opt = [] ∧ s = [63] ++ m.opt) ∨ (∃ m ∈ needs, ∃ w, m.any = [w] ∧ s = w.name ++ [47] ++ [120]) ∨ ∃ j, j < 4 ∧ keep j = true ∧ s = nmF j
structure OfG (needs : List Nv) (keep : Nat → Bool) (l : List (List UInt8)) (b : Nat) : Prop where
 rise : j8 l = true
 len : l.length ≤ b
 all : ∀ s ∈ l, ItemG needs keep s
structure FeatsG (needs : List Nv) (keep : Nat → Bool) (k : Nat) (xs : List Fv) : Prop where
 names : xs.map Fv.name = ((List.range k).filter keep).map nmF
 each : ∀ x ∈ xs, OfG needs keep x.of 5
structure OfS (A : Option Addr) (c : Nat) (l : List (List UInt8)) (o3 : List Blk) : Prop where
 ex : ∃ o, SlT (.slice A l.length c) l o ∧ ∀ b ∈ o, b ∈ o3
 bare : l = [] → A = none ∧ c = 0
structure FtO (A : Option Addr) (c : Nat) (xs : List Fv) (o7 o2 : List Blk) : Prop where
 top : Sl 63 2 (.slice A xs.length c) xs.length (xs.flatMap fvC) o7
 each : ∀ x ∈ xs, ∃ o, SlT (.slice x.A x.of.length x.cap) x.of o ∧ ∀ b ∈ o, b ∈ o2
theorem FtO.nil : FtO none 0 [] [] [] := ⟨Sl.nil _ _, fun x h => by simp at h⟩
theorem FtO.more {A : Option Addr} {c : Nat} {xs : List Fv} {o7 o2 o2' : List Blk} (h : FtO A c xs o7 o2) (hs : ∀ b ∈ o2, b ∈ o2') : FtO A c xs o7 o2' := ⟨h.top, fun x hx => by
 obtain ⟨o, h1, h2⟩ := h.each x hx
 exact ⟨o, h1, fun b hb => hs b (h2 b hb)⟩⟩
theorem FtO.add {A A' : Option Addr} {c c' : Nat} {xs : List Fv} {o7 o7' o2 : List Blk} {x : Fv} (h : FtO A c xs o7 o2) (ht : Sl 63 2 (.slice A' (xs.length + 1) c') (xs.length + 1) (xs.flatMap fvC ++ fvC x) o7') (hx : ∃ o, SlT (.slice x.A x.of.length x.cap) x.of o ∧ ∀ b ∈ o, b ∈ o2) : FtO A' c' (xs ++ [x]) o7' o2 :=
 ⟨by rw [List.length_append, List.length_singleton, List.flatMap_append, List.flatMap_singleton]; exact ht, fun y hy => by
  rcases List.mem_append.1 hy with hy | hy
  ·exact h.each y hy
  ·rw [List.mem_singleton.1 hy]; exact hx⟩
end
section
theorem qU (x : Nv) : (nvC x).length = 3 := rfl
theorem dC (x : Wv) : (wvC x).length = 4 := rfl
end
section
structure Bv where
 name : List UInt8
 rng : List UInt8
 wh : List UInt8
def bvC (x : Bv) : List Value := [.string (mkS x.name), .string (mkS x.rng), .string (mkS x.wh)]
structure BarG (own : Nat) (x : Bv) : Prop where
 name : ∃ k, k < 4 ∧ x.name = nameT ((own + 1 + k) % 5)
 rng : FewT x.rng
 wh : WhenT x.wh
structure NsO (A : Option Addr) (c : Nat) (xs : List Nv) (o1 o2 : List Blk) : Prop where
 top : Sl 57 3 (.slice A xs.length c) xs.length (xs.flatMap nvC) o1
 each : ∀ x ∈ xs, ∃ o, WsO x.A x.cap x.any o ∧ ∀ b ∈ o, b ∈ o2
theorem NsO.nil : NsO none 0 [] [] [] := ⟨Sl.nil _ _, fun x h => by simp at h⟩
structure Rv where
 name : List UInt8
 maj : Int
 min : Int
 pat : Int
 pre : List UInt8
 bld : List UInt8
 nA : Option Addr
 nc : Nat
 needs : List Nv
 bA : Option Addr
 bc : Nat
 bars : List Bv
 fA : Option Addr
 fc : Nat
 fts : List Fv
def rvC (x : Rv) : List Value := [.string (mkS x.name), YI x.maj, YI x.min, YI x.pat, .string (mkS x.pre), .string (mkS x.bld), .slice x.nA x.needs.length x.nc, .slice x.bA x.bars.length x.bc, .slice x.fA x.fts.length x.fc]
def rvV (x : Rv) : Value := .agg #[.string (mkS x.name), YI x.maj, YI x.min, YI x.pat, .string (mkS x.pre), .string (mkS x.bld), .slice x.nA x.needs.length x.nc, .slice x.bA x.bars.length x.bc, .slice x.fA x.fts.length x.fc]
def PbG (pre bld : List UInt8) : Prop := (pre = [] ∧ bld = []) ∨ (pre = [114, 99, 46, 49] ∧ bld = []) ∨ (pre = [] ∧ bld = [55])
structure RecG (own : Nat) (keep : Nat → Bool) (x : Rv) : Prop where
 name : x.name = nameT (own % 5)
 ver : ∃ a b : Nat, a < 3 ∧ b < 2 ∧ x.maj = a ∧ x.min = b ∧ x.pat = 0
 pb : PbG x.pre x.bld
 nlen : x.needs.length ≤ 2
 needs : ∀ m ∈ x.needs, NeedG own m
 blen : x.bars.length ≤ 1
 bars : ∀ b ∈ x.bars, BarG own b
 fts : FeatsG x.needs keep 4 x.fts
structure RecO (x : Rv) (ob : List Blk) : Prop where
 ex : ∃ o1 o2 o4 o7 o8, ob = o4 ++ (o1 ++ o2) ++ (o7 ++ o8) ∧ NsO x.nA x.nc x.needs o1 o2 ∧ Sl 54 3 (.slice x.bA x.bars.length x.bc) x.bars.length (x.bars.flatMap bvC) o4 ∧ FtO x.fA x.fc x.fts o7 o8
theorem NsO.reads {A : Option Addr} {c : Nat} {xs : List Nv} {o1 o2 L : List Blk} {M : List Nat} {W w : World} (h : NsO A c xs o1 o2) (hO : Own M W w L) (h1 : ∀ b ∈ o1, b ∈ L) (h2 : ∀ b ∈ o2, b ∈ L) : Reads nvC w w.heap.size A xs ∧ ∀ m ∈ xs, Reads wvC w w.heap.size m.A m.any :=
 ⟨Sl.reads h.top rfl hO h1, fun m hm => by
  obtain ⟨o, ⟨⟨p1, p2, rfl, hp, _⟩⟩, ho⟩ := h.each m hm
  exact Sl.reads hp rfl hO fun b hb => h2 b (ho b (List.mem_append_left _ hb))⟩
def NeedR (own : Nat) (v : Value) (ob : List Blk) : Prop := ∃ x, v = nvV x ∧ NeedG own x ∧ WsO x.A x.cap x.any ob
end
section
def Wv.wt (x : Wv) : Wt := ⟨x.name, x.rng, x.fs, x.bare⟩
def Nv.nt (x : Nv) : Nt := ⟨x.any.map Wv.wt, x.wh, x.opt⟩
theorem bJ (x : Bv) : (bvC x).length = 3 := rfl
def bvV (x : Bv) : Value := .agg #[.string (mkS x.name), .string (mkS x.rng), .string (mkS x.wh)]
def Bv.bt (x : Bv) : Bt := ⟨x.name, x.rng, x.wh⟩
def Rv.ver (x : Rv) : Ver := ⟨x.maj, x.min, x.pat, x.pre, x.bld⟩
def Rv.rt (x : Rv) : Rt := ⟨x.name, x.ver, x.needs.map Nv.nt, x.bars.map Bv.bt, kC x.fts⟩
structure RcIn (w : World) (B : Nat) (x : Rv) : Prop where
 needs : Reads nvC w B x.nA x.needs
 any : ∀ n ∈ x.needs, Reads wvC w B n.A n.any
 wfs : ∀ n ∈ x.needs, ∀ u ∈ n.any, Reads yE w B u.A u.fs
 bars : Reads bvC w B x.bA x.bars
 fts : FtIn w B x.fA x.fts
 nn : x.needs.length ≤ 5000
 na : ∀ n ∈ x.needs, n.any.length ≤ 5000
 nf : ∀ n ∈ x.needs, ∀ u ∈ n.any, u.fs.length ≤ 5000
 nb : x.bars.length ≤ 5000
 sn : x.name.length ≤ 1000000 ∧ x.pre.length ≤ 1000000 ∧ x.bld.length ≤ 1000000
 sw : ∀ n ∈ x.needs, n.wh.length ≤ 1000000 ∧ n.opt.length ≤ 1000000
 su : ∀ n ∈ x.needs, ∀ u ∈ n.any, u.name.length ≤ 1000000 ∧ u.rng.length ≤ 1000000 ∧ ∀ s ∈ u.fs, s.length ≤ 1000000
 sb : ∀ b ∈ x.bars, b.name.length ≤ 1000000 ∧ b.rng.length ≤ 1000000 ∧ b.wh.length ≤ 1000000
theorem RcIn.on {w w' : World} {B B' : Nat} {x : Rv} (h : RcIn w B x) (hb : Below B w w') (hB : B ≤ B') : RcIn w' B' x :=
 ⟨h.needs.on hb hB, fun n hn => (h.any n hn).on hb hB, fun n hn u hu => (h.wfs n hn u hu).on hb hB, h.bars.on hb hB, h.fts.on hb hB, h.nn, h.na, h.nf, h.nb, h.sn, h.sw, h.su, h.sb⟩
structure RcSm (w : World) (B : Nat) (x : Rv) : Prop where
 needs : Reads nvC w B x.nA x.needs
 any : ∀ n ∈ x.needs, Reads wvC w B n.A n.any
 wfs : ∀ n ∈ x.needs, ∀ u ∈ n.any, Reads yE w B u.A u.fs
 bars : Reads bvC w B x.bA x.bars
 fts : FtIn w B x.fA x.fts
 nn : x.needs.length ≤ 5000
 na : ∀ n ∈ x.needs, n.any.length ≤ 5000
 nf : ∀ n ∈ x.needs, ∀ u ∈ n.any, u.fs.length ≤ 5000
 nb : x.bars.length ≤ 5000
theorem RcSm.on {w w' : World} {B B' : Nat} {x : Rv} (h : RcSm w B x) (hb : Below B w w') (hB : B ≤ B') : RcSm w' B' x :=
 ⟨h.needs.on hb hB, fun n hn => (h.any n hn).on hb hB, fun n hn u hu => (h.wfs n hn u hu).on hb hB, h.bars.on hb hB, h.fts.on hb hB, h.nn, h.na, h.nf, h.nb⟩
end
section
set_option linter.unnecessarySimpa false
theorem reads_t {w : World} {A : Option Addr} {cap : Nat} {l : List (List UInt8)} {B : Nat} (h : Reads yE w B A l) (hB : B ≤ B) : ReadsT w B (.slice A l.length cap) l :=
 ⟨A, cap, rfl, fun h0 => by
  obtain ⟨b, off, e, hlt, hc⟩ := h h0
  refine ⟨⟨b, off, none⟩, e, hlt, fun j hj => ?_⟩
  rw [yX]
  refine hc j _ ?_
  rw [← kI]
  unfold qP
  rw [List.getElem?_map, List.getElem?_eq_getElem hj]; rfl⟩
end
section
theorem wF (b : UInt8) : ∀ (k : Nat) (s : List UInt8), Lib.splitK [b] 0 k s = jA b k s
 | 0, s => rfl
 | k + 1, s => by
  have hc := pQ b s
  have hge := Lib.index_ge s [b]
  unfold Lib.splitK jA
  rw [← hc]
  unfold Lib.cut
  by_cases h : Lib.index s [b] = -1
  ·have h2 : ¬ 0 ≤ Lib.index s [b] := by omega
   simp [h]
  ·have h2 : 0 ≤ Lib.index s [b] := by omega
   simp [h, h2, wF b k]
theorem pcsB_more (b : UInt8) : ∀ (k : Nat) (s : List UInt8), s.length ≤ k → jA b k s = jA b (k + 1) s
 | 0, s, h => by
  obtain rfl := List.eq_nil_of_length_eq_zero (Nat.le_zero.1 h)
  rfl
 | k + 1, s, h => by
  have hl := jV b s
  rw [jA]
  conv => rhs; rw [jA]
  cases hq : (z8 b s).2.2 with
  | false => rw [if_neg Bool.false_ne_true, if_neg Bool.false_ne_true]
  | true =>
   rw [hq, if_pos rfl] at hl
   rw [if_pos rfl, if_pos rfl, pcsB_more b k _ Om]
theorem pcsB_min (b : UInt8) (s : List UInt8) : ∀ k : Nat, jA b (min k s.length) s = jA b k s
 | 0 => by rw [Nat.zero_min]
 | k + 1 => by
  by_cases h : s.length ≤ k
  ·rw [Nat.min_eq_right Om, ← pcsB_more b k s h, ← pcsB_min b s k, Nat.min_eq_right h]
  ·rw [Nat.min_eq_left Om]
theorem wL (b : UInt8) : ∀ (k : Nat) (s : List UInt8), 1 ≤ (jA b k s).length ∧ (jA b k s).length ≤ k + 1
 | 0, s => ⟨Nat.le_refl _, Nat.le_refl _⟩
 | k + 1, s => by
  have h := wL b k (z8 b s).2.1
  unfold jA
  split
  ·simp only [List.length_cons]; omega
  ·simp
theorem nG (b : UInt8) (s : List UInt8) : (zD b [] s).length ≤ s.length + 1 := by
 rw [← mB b s, wF]
 have h := (wL b (min (Lib.count s [b]) s.length) s).2
 rw [pcsB_min] at h
 omega
theorem split32_any (s : List UInt8) (n : Int) (W : World) (hs : s.length ≤ 1000000) (hn : n = -1 ∨ 1 ≤ n ∧ n ≤ 1000) :
  YC 173 #[.string (mkS s), .string ⟨#[32]⟩, YI 0, YI n] W fun e w' => ∃ v' ob', e = .returned v' ∧ SlT v' (if n < 0 then zD 32 [] s else jA 32 (n.toNat - 1) s) ob' ∧ Own [] W w' ob' := by
 have hsz := yC s
 have hI : ∀ (x : ByteArray) (c : Array Value), x.size ≤ (mkS s).size → YC 210 #[.string x, .string ⟨#[32]⟩] (W.alloc (.cells c 9)) fun e w' => e = .returned (YI (Lib.indexB x ⟨#[32]⟩)) ∧ w' = W.alloc (.cells c 9) :=
  fun x c _ => (Tryz.strings_Index_one x 32 _).mono fun e w' ⟨he, hw⟩ => ⟨by rw [he, jZ]; try rfl, hw⟩
 have hC : YC 209 #[.string (mkS s), .string ⟨#[32]⟩] W fun e w' => e = .returned (YI (Lib.countB (mkS s) ⟨#[32]⟩)) ∧ w' = W :=
  (Tryz.strings_Count_one (mkS s) 32 W).mono fun e w' ⟨he, hw⟩ => ⟨by rw [he]; show _ = Ending.returned (Value.int .i64 ((Lib.count (mkS s).data.toList [32] : Nat) : Int)); rw [Lib.count_one]; rfl, hw⟩
 obtain ⟨cn, hcn⟩ : ∃ cn, Lib.count s [32] = cn := ⟨_, rfl⟩
 have hcB : Lib.countB (mkS s) ⟨#[32]⟩ = cn := by unfold Lib.countB; rw [mk_data, show (⟨#[32]⟩ : ByteArray).data.toList = [32] from rfl, hcn]
 have hcl : cn ≤ s.length := by rw [← hcn, Lib.count_one]; exact List.count_le_length
 obtain ⟨N, hN⟩ : ∃ N : Nat, (N : Int) = min (if n < 0 then (Lib.countB (mkS s) ⟨#[32]⟩ : Int) + 1 else n) (((mkS s).size : Int) + 1) := by
  refine ⟨(min (if n < 0 then (Lib.countB (mkS s) ⟨#[32]⟩ : Int) + 1 else n) (((mkS s).size : Int) + 1)).toNat, Int.toNat_of_nonneg ?_⟩
  split <;> omega
 have c := Any.strings_genSplit_core Tryz.lays221 Kr (mkS s) ⟨#[32]⟩ 0 n N W Om (by decide) (Nat.zero_le _) hI hC Om Om hN
 rw [hcB, hsz] at hN
 have hB : Lib.splitB ⟨#[32]⟩ 0 (N - 1) (mkS s) = (if n < 0 then zD 32 [] s else jA 32 (n.toNat - 1) s).map mkS := by
  have h := nJ [32] (N - 1) s
  rw [show (mkS [32] : ByteArray) = ⟨#[32]⟩ from rfl] at h
  rw [h, wF]
  congr 1
  split
  ·rename_i h0
   rw [if_pos h0] at hN
   rw [show N - 1 = cn by omega, ← wF, ← hcn, mB]
  ·rename_i h0
   rw [if_neg h0] at hN
   rw [← pcsB_min 32 s (n.toNat - 1)]
   congr 1
   omega
 rw [hB] at c
 generalize hl : (if n < 0 then zD 32 [] s else jA 32 (n.toNat - 1) s) = l at c ⊢
 have hle : l.length ≤ N := by
  rw [← hl]
  split
  ·rename_i h0
   rw [if_pos h0] at hN
   rw [← mB 32 s, wF, hcn]
   have := (wL 32 cn s).2
   omega
  ·rename_i h0
   rw [if_neg h0] at hN
   have h1 := (wL 32 (n.toNat - 1) s).2
   have h2 := (wL 32 (min (n.toNat - 1) s.length) s).2
   rw [pcsB_min] at h2
   omega
 have hNm : N ≤ 1000001 := by omega
 rw [List.length_map] at c
 refine Calls.mono c fun e w' ⟨he, hw⟩ => ?_
 subst hw
 refine ⟨_, _, he, ⟨by rw [wB]; omega, .inr ⟨W.heap.size, N, _, rfl, rfl, hle, by unfold maxLen; omega, by rw [Lib.cellsOf_size (by rw [List.length_map]; exact hle), Nat.mul_one], ?_⟩⟩, (Own.start [] W).alloc _ _⟩
 unfold Lib.cellsOf
 rw [List.map_map, List.take_append_of_le_length (by rw [List.length_map]; omega), List.take_of_length_le (by rw [List.length_map]; omega)]
 rfl
theorem splitN32_any (s : List UInt8) (n : Int) (W : World) (hs : s.length ≤ 1000000) (hn : n = -1 ∨ 1 ≤ n ∧ n ≤ 1000) : YC 141 #[.string (mkS s), .string ⟨#[32]⟩, YI n] W fun e w' => ∃ v' ob', e = .returned v' ∧ SlT v' (if n < 0 then zD 32 [] s else jA 32 (n.toNat - 1) s) ob' ∧ Own [] W w' ob' := by
 have hc : ∀ w, Below W.heap.size W w → YC 173 #[.string (mkS s), .string ⟨#[32]⟩, YI 0, YI n] w fun e w' => ∃ v ob, e = .returned v ∧ SlT v (if n < 0 then zD 32 [] s else jA 32 (n.toNat - 1) s) ob ∧ Own [] w w' ob := fun w _ => split32_any s n w hs hn
 generalize (if n < 0 then zD 32 [] s else jA 32 (n.toNat - 1) s) = l at hc ⊢
 refine zL Tryz.func141 (jX (R := fun v ob => SlT v l ob) [] (fun w hO => hc w hO.below) fun v ob hR => ?_)
 exact zB [] v fun w hO => ⟨v, ob, rfl, hR, hO.past 0 _⟩
theorem qHole_any (A : Option Addr) (cap : Nat) (l : List (List UInt8)) (W : World) (hv : Reads yE W W.heap.size A l) (hn : l.length ≤ 2000000) : YC 142 #[.slice A l.length cap, .string ⟨#[]⟩] W (YR (.bool (!noE l)) W) := by
 have key : ∀ w, Below W.heap.size W w → YC 174 #[.slice A l.length cap, .string ⟨#[]⟩] w fun e w' => ∃ v, e = .returned v ∧ (∃ z : Int, v = YI z ∧ decide (0 ≤ z) = !noE l) ∧ Below w.heap.size w w' := fun w0 hb0 => by
  have hv0 := hv.on hb0 hb0.size
  refine zL Tryz.func174 (yY (α := Nat) (fun i => [(0, .slice A l.length cap), (1, .string (mkS [])), (7, YI (l.length : Int)), (8, YI (i : Int))]) (fun _ => []) (fun i m => (i ≤ l.length ∧ ∀ y ∈ l.take i, y ≠ []) ∧ m = l.length - i) 0 l.length [] ⟨⟨Nat.zero_le _, fun y h => by simp at h⟩, rfl⟩ ?_)
  rintro i mm g kk ⟨⟨hi, hno⟩, hmm⟩ nx hkk
  subst hkk
  refine y9 9 [] ((i : Int) < (l.length : Int)) (fun h9 => ?_) (fun h9 => ?_)
  rotate_left
  ·refine zB [] (YI (-1)) fun w hO => ⟨_, rfl, ⟨-1, rfl, ?_⟩, hO.below⟩
   have hall := kO (p := fun y : List UInt8 => y ≠ []) (show l.length ≤ i by omega) hno
   rw [show noE l = true from List.all_eq_true.2 fun y hy => by simpa using hall y hy]; rfl
  have hj : i < l.length := by omega
  obtain ⟨eb, eo, hA, hel⟩ := hv0.elem yH i hj
  have hgo := x6 (p := fun y : List UInt8 => y ≠ []) hj hno
  have hsm : l[i] ∈ l := List.getElem_mem hj
  have hel0 : ∀ w, Below w0.heap.size w0 w → (loadVar 9 ⟨eb, eo + i * 1 + 0, none⟩).run Tryz.prog w = .ok (.string (mkS l[i])) w := fun w hw => hel w hw _ 0 _ Kr
  generalize l[i] = y at hel0 hgo hsm
  refine y7 14 [] hA l.length cap i 1 hj (zX 15 [] 9 eb (eo + i * 1 + 0) (.string (mkS y)) (fun w hO => hel0 w hO.below) (kD 16 [] [] y (fun h16 => ?_) (fun h16 => ?_)))
  ·refine zB [] (YI (i : Int)) fun w hO => ⟨_, rfl, ⟨(i : Int), rfl, ?_⟩, hO.below⟩
   rw [show noE l = false from List.all_eq_false.2 ⟨y, hsm, by simp [← h16]⟩, decide_eq_true Om]; rfl
  ·exact x_i 18 [] ((i + 1 : Nat) : Int) (nx (i + 1) (l.length - (i + 1)) [] Om ⟨⟨hj, hgo (fun e => h16 e.symm)⟩, rfl⟩ Kr Kr)
 refine zL Tryz.func142 (m7 (R := fun v => ∃ z : Int, v = YI z ∧ decide (0 ≤ z) = !noE l) [] (fun w hO => key w hO.below) ?_)
 rintro v ⟨z, rfl, hz⟩
 exact zB [] (.bool (decide (0 ≤ z))) fun w hO => ⟨by rw [hz], hO.below⟩
end
section
theorem grow_inner (B b n : Nat) (w : World) (hB : B ≤ b) (hbk : w.heap[b]? = some (.cells #[.pointer (some ⟨b, 0, none⟩), .slice none 0 0] 107 (0, 0))) (hBw : B ≤ w.heap.size) (hn : n ≤ 281474976710656) :
  YC 264 #[.pointer (some ⟨b, 0, none⟩), YI n] w fun e w' => e = .returned (.tuple #[]) ∧ (Lib.BuilderAt 107 5 B b (.pointer (some ⟨b, 0, none⟩)) [] w' ∧ Below B w w') := by
 obtain ⟨cs, hrun, hle, hmax⟩ := Lib.run_makeNoZero (P := Tryz.prog) w.drew #[3] 52 5 Tryz.underlying52 n hn
 have hlt : b < w.heap.size := by
  rcases Nat.lt_or_ge b w.heap.size with h | h
  ·exact h
  ·simp [Array.getElem?_eq_none h] at hbk
 have hw : IntKind.i64.wrap (IntKind.i64.wrap 0 + (n : Int)) = n := by
  rw [IntKind.wrap_i64, IntKind.wrap_i64]; omega
 have hcall : (callFunc 274 #[YI (IntKind.i64.wrap (IntKind.i64.wrap 0 + (n : Int)))]).run Tryz.prog w.drew = .ok (.value (.slice (some ⟨w.drew.heap.size, 0, none⟩) n cs.size)) (w.drew.drew.drew.alloc (.cells cs 5)) := by
  rw [hw, run_callFunc_extern Tryz.func274 Kr Kr Kr (e := Extern.BytealgMakeNoZero.makeNoZero #[3] #[52]) Kr, hrun]
  rfl
 have c1 : w.drew.cell? ⟨b, 1, none⟩ = some (.slice none 0 0) := by
  have : w.drew.heap[b]? = _ := hbk
  rw [Lib.cell_of_heap this]; rfl
 have hb2 : (w.alloc (.cells cs 5)).heap[b]? = _ := (Lib.alloc_old w _ b hlt).trans hbk
 have c2 : (w.alloc (.cells cs 5)).cell? ⟨b, 1, none⟩ = some (.slice none 0 0) := by rw [Lib.cell_of_heap hb2]; rfl
 have f2 : (w.alloc (.cells cs 5)).frozen? ⟨b, 1, none⟩ = false := Lib.frozen_of_heap hb2 1
 have hcopy : ∀ W : World, (Builtin.copy_ #[52, 52] 3 #[.slice (some ⟨w.heap.size, 0, none⟩) 0 cs.size, .slice none 0 0]).run Tryz.prog W = .ok (goInt 0) W :=
  fun W => run_copy_none W 52 52 3 5 _ _ 0 cs.size 0 0 Tryz.underlying52 Kr rfl
 clear hw hlt hb2
 have mixed : Tryz.prog.follows .mixedOrders = true := by kernel_rfl
 go_enter Tryz.func264, Tryz.ntmps264
 go_wp2
 have hfin := Lib.grown_fresh (T := 107) (e := 5) (cs := cs) hB hbk hBw (hmax (by unfold maxLen; omega)) (by decide)
 have hbel : Below B w ((w.alloc (.cells cs 5)).setCell ⟨b, 1, none⟩ (.slice (some ⟨w.heap.size, 0, none⟩) 0 cs.size)).drew.drew.drew := ((((Below.refl B w).alloc hBw _).setCell (p := ⟨b, 1, none⟩) hB _).drew).drew.drew
 go_region_o
 all_goals (go_wp2; go_end0; exact ⟨rfl, hfin.1, hbel⟩)
theorem grow_fresh (B b n : Nat) (w : World) (hB : B ≤ b) (hbk : w.heap[b]? = some (.cells #[.pointer none, .slice none 0 0] 107 (0, 0))) (hBw : B ≤ w.heap.size) (hn : n ≤ 281474976710656) :
  YC 249 #[.pointer (some ⟨b, 0, none⟩), YI n] w fun e w' => e = .returned (.tuple #[]) ∧ (Lib.BuilderAt 107 5 B b (.pointer (some ⟨b, 0, none⟩)) [] w' ∧ Below B w w') := by
 obtain ⟨w1, hw1⟩ : ∃ x, x = w.setCell ⟨b, 0, none⟩ (.pointer (some ⟨b, 0, none⟩)) := ⟨_, rfl⟩
 have hbk1 : w1.heap[b]? = some (.cells #[.pointer (some ⟨b, 0, none⟩), .slice none 0 0] 107 (0, 0)) := by
  rw [hw1]; simp [World.setCell, Array.getElem?_modify, hbk]
 have hs1 : B ≤ w1.heap.size := by rw [hw1]; simpa [World.setCell] using hBw
 have hb1 : Below B w w1 := by rw [hw1]; exact (Below.refl B w).setCell (p := ⟨b, 0, none⟩) hB _
 have hc : YC 161 #[.pointer (some ⟨b, 0, none⟩)] w fun e w' => e = .returned (.tuple #[]) ∧ w' = w1 := by
  rw [hw1]
  exact n5 b w (by rw [Lib.cell_of_heap hbk]; rfl) (by simp [World.shape?, hbk]) (Lib.frozen_of_heap hbk 0)
 clear hw1
 have c1 : w1.cell? ⟨b, 1, none⟩ = some (.slice none 0 0) := by rw [Lib.cell_of_heap hbk1]; rfl
 have c1' : w1.drew.cell? ⟨b, 1, none⟩ = some (.slice none 0 0) := c1
 have hU : Lib.BuilderAt 107 5 B b (.pointer (some ⟨b, 0, none⟩)) [] w1 := ⟨hB, .slice none 0 0, hbk1, World.ownsRow_nil _ _ _ _, by simp [Value.ownBlock]⟩
 have mixed : Tryz.prog.follows .mixedOrders = true := by kernel_rfl
 go_enter Tryz.func249, Tryz.ntmps249
 go_wp2_with (go_at_call 161; refine hc.mono ?_; rintro e w' ⟨rfl, hw⟩; rw [hw])
 go_region_o
 all_goals go_wp2_with (go_at_call 264; refine (grow_inner B b n w1.drew hB hbk1 hs1 hn).mono ?_; rintro e w' ⟨rfl, h1, h2⟩)
 all_goals first
  | (go_end0; exact ⟨rfl, h1, hb1.drew.trans h2⟩)
  | (go_end0; exact ⟨rfl, hU.drew, hb1.drew⟩)
end
section
structure HasLib (w : World) : Prop where
 tab : HasTab w
 max : ∃ m, w.cell? ⟨1, 0, none⟩ = some (YI m)
theorem HasLib.on {w w' : World} (h : HasLib w) (hb : Below w.heap.size w w') : HasLib w' :=
 ⟨h.tab.on hb, let ⟨m, hm⟩ := h.max; ⟨m, (hb.cell (World.block_lt_of_cell? _ _ hm)).trans hm⟩⟩
theorem hasLib_of {W : World} (ht : HasTab W) (hS : W.ShapedOpen Tryz.prog) : HasLib W := ⟨ht, Tryz.laysM143.s1_3 W hS⟩
theorem split_own (s sep : List UInt8) (l : List (List UInt8)) (W : World) (h0 : 1 ≤ sep.length) (hs : s.length ≤ 1000000) (hl : Lib.splitB (mkS sep) 0 (Lib.countB (mkS s) (mkS sep)) (mkS s) = l.map mkS) (ht : HasLib W) :
  YC 177 #[.string (mkS s), .string (mkS sep)] W fun e w' => ∃ v' ob', e = .returned v' ∧ SlT v' l ob' ∧ Own [] W w' ob' := by
 obtain ⟨m, hm⟩ := ht.max
 have hz : (mkS sep).size = sep.length := yC sep
 have hlen := Lib.splitB_all (mkS sep) Om 0 _ (mkS s) rfl
 have hle := Lib.countB_le (mkS sep) Om (mkS s).size (mkS s) (Nat.le_refl _)
 rw [yC] at hle
 rw [hl, List.length_map] at hlen
 refine (Tryz.strings_Split (mkS s) (mkS sep) m W (by rw [yC]; omega) hm Om).mono fun e w' ⟨he, hw⟩ => ?_
 subst hw
 rw [hl, List.map_map] at *
 rw [← hlen] at he
 refine ⟨_, _, he, slt_lit l W.heap.size _ (by unfold qP; rfl) (by unfold maxLen; omega), (Own.start [] W).alloc _ _⟩
theorem split_bars (s : List UInt8) (W : World) (hs : s.length ≤ 1000000) (ht : HasLib W) :
  YC 177 #[.string (mkS s), .string ⟨#[124, 124]⟩] W fun e w' => ∃ v' ob', e = .returned v' ∧ SlT v' (kH [] s) ob' ∧ Own [] W w' ob' :=
 split_own s [124, 124] (kH [] s) W (by decide) hs (splitB_alts s) ht
theorem split_comma (s : List UInt8) (W : World) (hs : s.length ≤ 1000000) (ht : HasLib W) :
  YC 177 #[.string (mkS s), .string ⟨#[44]⟩] W fun e w' => ∃ v' ob', e = .returned v' ∧ SlT v' (zD 44 [] s) ob' ∧ Own [] W w' ob' :=
 split_own s [44] (zD 44 [] s) W (by decide) hs (splitB_cuts 44 s) ht
theorem trim_any (s : List UInt8) (W : World) (hs : s.length ≤ 1000000) :
  YC 182 #[.string (mkS s), .string ⟨#[32]⟩] W (YR (.string (mkS (yV s))) W) :=
 (Tryz.strings_Trim_one (mkS s) 32 (by decide) W (by rw [yC]; omega)).mono fun e w' ⟨he, hw⟩ =>
  ⟨by rw [he, mk_data, trim_bare]; rfl, hw.elim (fun q => q ▸ Below.refl _ _) (fun q => q ▸ (Below.refl _ _).drew)⟩
def vF (sep : List UInt8) : List (List UInt8) → List UInt8
 | [] => []
 | x :: r => sep ++ x ++ vF sep r
theorem joinB_T (sep : List UInt8) : ∀ (r : List (List UInt8)) (x : List UInt8), jJ sep (x :: r) = x ++ vF sep r
 | [], x => by simp [jJ, vF]
 | y :: r, x => by rw [pJ, joinB_T sep r y, vF]; simp only [List.append_assoc]
theorem joinT_snoc (sep x : List UInt8) : ∀ (r : List (List UInt8)), vF sep (r ++ [x]) = vF sep r ++ (sep ++ x)
 | [] => by simp [vF]
 | y :: r => by rw [List.cons_append, vF, vF, joinT_snoc sep x r]; simp only [List.append_assoc]
theorem joinT_len {sep : List UInt8} (hs : sep.length ≤ 100) : ∀ {r : List (List UInt8)}, (∀ x ∈ r, x.length ≤ 1000000) → (vF sep r).length ≤ r.length * 1000100
 | [], _ => by simp [vF]
 | y :: r, h => by
  have h1 := joinT_len hs (r := r) fun x hx => h x (List.mem_cons_of_mem _ hx)
  have h2 := h y (List.mem_cons_self ..)
  rw [vF]; simp only [List.length_append, List.length_cons]; omega
theorem bc_two (x y z : List UInt8) : Lib.byteCells (x ++ (y ++ z)) = Lib.byteCells x ++ Lib.strCells (mkS y) ++ Lib.strCells (mkS z) := by
 rw [wC, wC, ← Lib.byteCells_append, ← Lib.byteCells_append, List.append_assoc]
theorem join_many (sep x0 : List UInt8) (r : List (List UInt8)) (b off cap : Nat) (w : World) (hc : ∀ j (h : j < (x0 :: r).length), w.cell? ⟨b, off + j, none⟩ = some (.string (mkS ((x0 :: r)[j]))))
  (hb : b < w.heap.size) (hr : 1 ≤ r.length) (hn : r.length ≤ 1000) (h0 : sep ≠ []) (hs : sep.length ≤ 100) (hx : ∀ x ∈ x0 :: r, x.length ≤ 1000000) (hcap : r.length + 1 ≤ cap) :
  YC 224 #[.slice (some ⟨b, off, none⟩) (r.length + 1) cap, .string (mkS sep)] w (YR (.string (mkS (jJ sep (x0 :: r)))) w) := by
 have HT := Lib.hid (show ∀ k, (x0 ++ vF sep (r.take k)).length ≤ 2000000000 from fun k => by
  have h1 := joinT_len hs (r := r.take k) fun x hm => hx x (List.mem_cons_of_mem _ (List.mem_of_mem_take hm))
  have h2 := hx x0 (List.mem_cons_self ..)
  have h3 : (r.take k).length ≤ 1000 := Nat.le_trans (by rw [List.length_take]; exact Nat.min_le_right ..) hn
  rw [List.length_append]; omega)
 have HC := Lib.hid hc
 have HX := Lib.hid hx
 have HJ := Lib.hid (joinB_T sep r x0)
 have hx0 : (mkS x0).size ≤ 1000000 := by rw [yC]; exact hx x0 (List.mem_cons_self ..)
 obtain ⟨S, hS⟩ : ∃ q, q = mkS sep := ⟨_, rfl⟩
 have hSz : S.size = sep.length := by rw [hS, yC]
 have hS1 : 1 ≤ S.size := by cases sep with
  | nil => exact absurd rfl h0
  | cons _ _ => rw [hSz]; simp
 have hS9 : S.size ≤ 100 := by omega
 rw [← hS]
 have HS := Lib.hid hS
 obtain ⟨N, hN⟩ : ∃ q, q = r.length + 1 := ⟨_, rfl⟩
 rw [← hN] at hcap ⊢
 have hcast : ((N : Int) - 1) = (r.length : Int) := by omega
 have hmul : S.size * r.length ≤ 100000 := Nat.le_trans (Nat.mul_le_mul hS9 hn) (by decide)
 have hdv : ¬ (9223372036854775807 / ((N : Int) - 1) ≤ (S.size : Int)) := by
  rw [hcast]
  intro q
  have h1 : (9223372036854775807 : Int) < ((S.size : Int) + 1) * (r.length : Int) :=
   Int.lt_mul_of_ediv_lt Om (Int.lt_add_one_of_le q)
  have h2 : ((S.size : Int) + 1) * (r.length : Int) = ((S.size * r.length + r.length : Nat) : Int) := by rw [Int.add_mul, Int.one_mul]; push_cast; rfl
  omega
 have hprod : wrap64 ((S.size : Int) * ((N : Int) - 1)) = ((S.size * r.length : Nat) : Int) := by
  rw [hcast, show (S.size : Int) * (r.length : Int) = ((S.size * r.length : Nat) : Int) from by push_cast; rfl]
  exact IntWalk.wrap64_in _ ⟨by omega, by omega⟩
 generalize S.size * r.length = M at hmul hprod
 have hne0 : ((N : Int) == 0) = false := beq_eq_false_iff_ne.2 Om
 have hne1 : ((N : Int) == 1) = false := beq_eq_false_iff_ne.2 Om
 have hN2 : 2 ≤ N := by omega
 have hN9 : N ≤ 1001 := by omega
 have HN := Lib.hid hN
 have H0 := Lib.hid h0
 clear hc hx hs h0 hS hSz hcast hN hr hn
 go_enter Tryz.func224, Tryz.ntmps224
 go_wp2
 go_loop [5, 41] (fun n i => ∃ (k t : Nat), k ≤ N ∧ i = YI k ∧ n = YI t ∧ t ≤ 100000 + k * 1000000) (fun _ i => N - (intOf i).toNat)
 case atStart => exact ⟨0, M, Nat.zero_le _, rfl, rfl, by omega⟩
 case round =>
  obtain ⟨k, t, hk, rfl, rfl, ht⟩ := hrel
  by_cases hkn : k < N
  ·have hkl : k < (x0 :: r).length := by have := HN.out; rw [List.length_cons]; omega
   obtain ⟨y, hy⟩ : ∃ q, q = mkS ((x0 :: r)[k]) := ⟨_, rfl⟩
   have hyz : y.size ≤ 1000000 := by rw [hy, yC]; exact HX.out _ (List.getElem_mem hkl)
   have hck : w.cell? ⟨b, off + k, none⟩ = some (.string y) := by rw [hy]; exact HC.out k hkl
   clear hy hkl
   go_wp2
   exact ⟨⟨k + 1, t + y.size, by omega, by go_num, by go_num, by omega⟩, by simp [intOf]; omega⟩
  ·obtain rfl : k = N := by omega
   go_wp2_with (go_at_call 249; refine (grow_fresh w.heap.size w.heap.size t _ (Nat.le_refl _) (heap_alloc_new w _) (by simp) Om).mono ?_)
   rintro e w1 rfl h1 hb1
   have hb1' : Below w.heap.size w w1 := ((Below.refl w.heap.size w).alloc (Nat.le_refl _) _).trans hb1
   have hsz1 := hb1'.size
   have hc0 : w1.cell? ⟨b, off, none⟩ = some (.string (mkS x0)) := by
    rw [hb1'.cell (p := ⟨b, off, none⟩) hb]
    exact HC.out 0 (by simp)
   have H1 := Lib.hid (Or.inr h1 : Lib.IsBuilder 107 5 w.heap.size w.heap.size [] w1)
   have HB1 := Lib.hid hb1'
   clear h1 hb1 hb1' ht hprod hmul hdv hkn hk
   obtain ⟨X, hX⟩ : ∃ q, q = mkS x0 := ⟨_, rfl⟩
   rw [← hX] at hc0 hx0
   have HX0 := Lib.hid hX
   clear hX
   go_wp2_with (go_at_call 122; refine (gJ w.heap.size w.heap.size [] X w1 H1.out ?_ hsz1).mono ?_)
   ·simp; omega
   rintro e w2 ⟨rfl, h2, hb2⟩
   have H2 := Lib.hid (show Lib.IsBuilder 107 5 w.heap.size w.heap.size (Lib.byteCells (x0 ++ vF sep (r.take 0))) w2 from by
    rw [HX0.out, wC, List.nil_append] at h2
    rw [List.take_zero, vF, List.append_nil]; exact Or.inr h2)
   have HB2 := Lib.hid (HB1.out.trans hb2)
   clear h2 hb2 hsz1 hc0
   have hrk : k - 1 = r.length := by have := HN.out; omega
   go_wp2
   go_loopw [65] (fun i wr => ∃ j : Nat, j ≤ r.length ∧ i = YI j ∧ Hid (Lib.IsBuilder 107 5 w.heap.size w.heap.size (Lib.byteCells (x0 ++ vF sep (r.take j))) wr) ∧ Hid (Below w.heap.size w wr)) (fun i _ => r.length - (intOf i).toNat)
   case atStart => exact ⟨0, Nat.zero_le _, rfl, H2, HB2⟩
   case round =>
    obtain ⟨j, hj, rfl, HB, HW⟩ := hrel
    have hsz := HW.out.size
    by_cases hjr : j < r.length
    ·obtain ⟨y, hy⟩ : ∃ q, q = mkS r[j] := ⟨_, rfl⟩
     have hyz : y.size ≤ 1000000 := by rw [hy, yC]; exact HX.out _ (List.mem_cons_of_mem _ (List.getElem_mem hjr))
     have hck : wr.cell? ⟨b, off + 1 + j, none⟩ = some (.string y) := by
      rw [HW.out.cell (p := ⟨b, off + 1 + j, none⟩) hb, hy, show off + 1 + j = off + (j + 1) from by omega]
      exact HC.out (j + 1) (by simp; omega)
     have HY := Lib.hid hy
     have hlen : (Lib.byteCells (x0 ++ vF sep (r.take j))).length ≤ 2000000000 := by rw [Lib.byteCells_length]; exact HT.out j
     have HE := Lib.hid (show Lib.byteCells (x0 ++ vF sep (r.take j)) ++ Lib.strCells S ++ Lib.strCells y = Lib.byteCells (x0 ++ vF sep (r.take (j + 1))) from by
      rw [HS.out, HY.out, List.take_succ_eq_append_getElem hjr, joinT_snoc, ← List.append_assoc, bc_two])
     clear hy
     go_wp2_with (go_at_call 122; refine (gJ w.heap.size w.heap.size _ S wr HB.out ?_ hsz).mono ?_)
     ·omega
     rintro e w3 ⟨rfl, h3, hb3⟩
     have hsz3 := Nat.le_trans hsz hb3.size
     have H3 := Lib.hid h3
     have HB3 := Lib.hid hb3
     clear h3 hb3
     go_wp2_with (go_at_call 122; refine (gJ w.heap.size w.heap.size _ y w3 (Or.inr H3.out) ?_ hsz3).mono ?_)
     ·rw [List.length_append, Lib.strCells_length]; omega
     rintro e w4 ⟨rfl, h4, hb4⟩
     rw [HE.out] at h4
     have H4 := Lib.hid (Or.inr h4 : Lib.IsBuilder 107 5 w.heap.size w.heap.size (Lib.byteCells (x0 ++ vF sep (r.take (j + 1)))) w4)
     have HB4 := Lib.hid ((HW.out.trans HB3.out).trans hb4)
     clear h4 hb4
     go_wp2
     go_roundw
     case rel => exact ⟨j + 1, by omega, by go_num, H4, HB4⟩
     case measure => simp [intOf]; omega
    ·obtain rfl : j = r.length := by omega
     have HB' := HB.out
     rw [List.take_length, ← HJ.out] at HB'
     have hne : jJ sep (x0 :: r) ≠ [] := by
      rw [HJ.out]
      cases r with
      | nil => simp at hrk; omega
      | cons y r => rw [vF]; intro q; exact H0.out (List.append_eq_nil_iff.1 (List.append_eq_nil_iff.1 (List.append_eq_nil_iff.1 q).2).1).1
     have HBF := Lib.hid HB'
     clear HB'
     go_wp2_with (go_at_call 78; refine (string_any w.heap.size w.heap.size _ _ HBF.out hne).mono ?_)
     rintro e w5 ⟨rfl, hb5⟩
     go_wp2
     go_ret
     exact ⟨rfl, HW.out.trans hb5⟩
theorem join_one (sep x : List UInt8) (A : Option Addr) (cap : Nat) (w : World) (hv : Reads yE w w.heap.size A [x]) (hcap : 1 ≤ cap) :
  YC 224 #[.slice A 1 cap, .string (mkS sep)] w (YR (.string (mkS x)) w) := by
 obtain ⟨b, off, rfl, hb, hcell⟩ := hv (by simp)
 have hc : w.cell? ⟨b, off, none⟩ = some (.string (mkS x)) := hcell 0 _ rfl
 go_enter Tryz.func224, Tryz.ntmps224
 go_wp2
 go_ret
 exact ⟨rfl, Below.refl _ _⟩
theorem join_none (sep : List UInt8) (A : Option Addr) (cap : Nat) (w : World) :
  YC 224 #[.slice A 0 cap, .string (mkS sep)] w (YR (.string (mkS [])) w) := by
 go_enter Tryz.func224, Tryz.ntmps224
 go_wp2
 go_ret
 exact ⟨rfl, Below.refl _ _⟩
theorem sjoin_any (sep : List UInt8) (l : List (List UInt8)) (A : Option Addr) (cap : Nat) (w : World) (hv : Reads yE w w.heap.size A l) (h0 : sep ≠ []) (hs : sep.length ≤ 100) (hn : l.length ≤ 1000) (hx : ∀ x ∈ l, x.length ≤ 1000000) (hcap : l.length ≤ cap) :
  YC 224 #[.slice A l.length cap, .string (mkS sep)] w (YR (.string (mkS (jJ sep l))) w) := by
 match l, hv, hn, hx, hcap with
 | [], _, _, _, _ => exact join_none sep A cap w
 | [x], hv, _, _, hcap => exact join_one sep x A cap w hv hcap
 | x :: y :: r, hv, hn, hx, hcap =>
  obtain ⟨b, off, rfl, hb, hcell⟩ := hv (by simp)
  refine join_many sep x (y :: r) b off cap w (fun j hj => ?_) hb (by simp) (by simp at hn ⊢; omega) h0 hs hx hcap
  refine hcell j _ ?_
  rw [← kI]; unfold qP
  rw [List.getElem?_map, List.getElem?_eq_getElem hj]; rfl
theorem SlT.caps {A : Option Addr} {n cap : Nat} {l : List (List UInt8)} {ob : List Blk} (h : SlT (.slice A n cap) l ob) : n = l.length ∧ l.length ≤ cap := by
 rcases h.2 with ⟨h1, h2, _⟩ | ⟨g, c, cur, h1, _, h3, _⟩
 ·injection h1 with q1 q2 q3
  exact ⟨by omega, by omega⟩
 ·injection h1 with q1 q2 q3
  exact ⟨q2, by omega⟩
end
section
structure SetIn (w : World) (B : Nat) (A A' : Option Addr) (a : St) : Prop where
 rel : Reads spanC w B A a.rel
 pre : Reads spanC w B A' a.pre
 lr : a.rel.length ≤ 100000
 lp : a.pre.length ≤ 100000
 sr : ShortL a.rel
 sp : ShortL a.pre
end
section
end
section
def numsOk (l : List (List UInt8)) : Bool := decide (l.length ≤ 3) && l.all vP
def numsVal (l : List (List UInt8)) : Ver := if numsOk l then ⟨zK (tg l 0), zK (tg l 1), zK (tg l 2), [], []⟩ else Ver.zero
theorem tgi_get {l : List (List UInt8)} {i : Nat} (h : i < l.length) : l[i] = tg l i := by
 unfold tg
 rw [List.getElem?_eq_getElem h]; rfl
end
section
end
section
def pcV (s : List UInt8) : Co := (g8 s).getD ⟨0, 0, Ver.zero⟩
def pcE (s : List UInt8) : Int := if (g8 s).isSome then 0 else 6
theorem pc_none {s : List UInt8} (h : g8 s = none) : pcV s = ⟨0, 0, Ver.zero⟩ ∧ pcE s = 6 := by unfold pcV pcE; rw [h]; exact ⟨rfl, rfl⟩
theorem pc_some {s : List UInt8} {c : Co} (h : g8 s = some c) : pcV s = c ∧ pcE s = 0 := by unfold pcV pcE; rw [h]; exact ⟨rfl, rfl⟩
end
section
def coC (c : Co) : List Value := (coV c).cells.toList
theorem coC_len (c : Co) : (coC c).length = 7 := rfl
theorem co_cells (c : Co) : ∀ u ∈ coC c, u.oneCell' = true := by
 intro u hu
 unfold coC coV at hu
 simp only [Value.cells, List.mem_cons, List.not_mem_nil, or_false] at hu
 rcases hu with rfl | rfl | rfl | rfl | rfl | rfl | rfl <;> rfl
structure Al where
 A : Option Addr
 l : List Co
 cap : Nat
def alC (x : Al) : List Value := [.slice x.A x.l.length x.cap]
theorem alC_len (x : Al) : (alC x).length = 1 := rfl
theorem al_cells (x : Al) : ∀ u ∈ alC x, u.oneCell' = true := fun u hu => by rw [List.mem_singleton.1 hu]; rfl
def kZ (xs : List Al) : List (List Co) := xs.map Al.l
theorem qJ (xs : List Al) : (kZ xs).length = xs.length := List.length_map ..
theorem rgOf_get {xs : List Al} {i : Nat} (hi : i < xs.length) {x : Al} (h : xs[i] = x) : (kZ xs)[i]'(by rw [qJ]; exact hi) = x.l := by
 unfold kZ; rw [List.getElem_map, h]
def ShortA (l : List Co) : Prop := ∀ c ∈ l, c.short
structure RgIn (w : World) (B : Nat) (A : Option Addr) (xs : List Al) : Prop where
 top : Reads alC w B A xs
 each : ∀ x ∈ xs, Reads coC w B x.A x.l
 n : xs.length ≤ 1000
 m : ∀ x ∈ xs, x.l.length ≤ 1000
 short : ∀ x ∈ xs, ShortA x.l
theorem RgIn.on {w w' : World} {B B' : Nat} {A : Option Addr} {xs : List Al} (h : RgIn w B A xs) (hb : Below B w w') (hB : B ≤ B') : RgIn w' B' A xs := ⟨h.top.on hb hB, fun x hx => (h.each x hx).on hb hB, h.n, h.m, h.short⟩
theorem take_all {α : Type} {p : α → Prop} {l : List α} {i : Nat} (h : ∀ x ∈ l.take i, p x) (hi : i < l.length) {x : α} (hx : l[i] = x) (hp : p x) : ∀ y ∈ l.take (i + 1), p y := fun y hy => by
 rw [List.take_succ_eq_append_getElem hi] at hy
 rcases List.mem_append.1 hy with hy | hy
 ·exact h y hy
 ·rw [List.mem_singleton.1 hy, hx]; exact hp
theorem fewA_len {l : List Co} (h : ¬ (1 ≤ l.length ∧ l.length ≤ 6)) : fewA l = false := by unfold fewA; rw [decide_eq_false h]; rfl
theorem fewA_one {l : List Co} {c : Co} (hm : c ∈ l) (h : c.may = false) : fewA l = false := by
 cases hf : fewA l with
 | false => rfl
 | true => rw [(fewA.facts hf).2 c hm] at h; cases h
theorem fewA_all {l : List Co} (h1 : 1 ≤ l.length ∧ l.length ≤ 6) (h : ∀ c ∈ l, c.may = true) : fewA l = true := by
 unfold fewA; rw [decide_eq_true h1, List.all_eq_true.2 h]; rfl
theorem few_len {xs : List Al} (h : ¬ (1 ≤ xs.length ∧ xs.length ≤ 6)) : fewR (kZ xs) = false := by unfold fewR; rw [qJ, decide_eq_false h]; rfl
theorem few_one {xs : List Al} {x : Al} (hm : x ∈ xs) (h : fewA x.l = false) : fewR (kZ xs) = false := by
 cases hf : fewR (kZ xs) with
 | false => rfl
 | true => rw [(fewR.facts hf).2 x.l (List.mem_map.2 ⟨x, hm, rfl⟩)] at h; cases h
theorem few_all {xs : List Al} (h1 : 1 ≤ xs.length ∧ xs.length ≤ 6) (h : ∀ x ∈ xs, fewA x.l = true) : fewR (kZ xs) = true := by
 unfold fewR; rw [qJ, decide_eq_true h1, List.all_eq_true.2 fun a ha => by obtain ⟨x, hx, rfl⟩ := List.mem_map.1 ha; exact h x hx]; rfl
theorem co_len {c : Co} (h : c.may = true) : c.print.length ≤ 300 := by
 obtain ⟨_, hv, _⟩ := Co.facts h
 have hp := preOk_short (may_pre hv)
 rw [vI h]
 unfold Co.text Co.rest
 rw [List.length_append]
 have h1 : (zR c.op).length ≤ 2 := by
  unfold zR
  repeat' split
  all_goals decide
 split
 ·have := bM hv c.parts.toNat; omega
 ·rw [List.length_append]
  have := bN hv c.parts.toNat
  have : (kE 45 c.v.pre).length ≤ 37 := by
   unfold kE
   split
   ·exact Nat.zero_le _
   ·rw [List.length_cons]; omega
  omega
end
section
theorem coInfo : (Tryz.prog.info? 142).map (fun i => (i.zero.map (·.cells.size), i.size, i.bytes)) = some (some 7, 7, 72) := by kernel_rfl
theorem co_info : ∃ i z, Tryz.prog.info? 142 = some i ∧ i.zero = some z ∧ i.size = 7 ∧ z.cells.size = 7 ∧ i.bytes = 72 := by
 have h := coInfo
 cases hi : Tryz.prog.info? 142 with
 | none => rw [hi] at h; cases h
 | some i =>
  rw [hi] at h
  simp only [Option.map_some, Option.some.injEq, Prod.mk.injEq] at h
  cases hz : i.zero with
  | none => rw [hz] at h; simp at h
  | some z => rw [hz] at h; simp at h; exact ⟨i, z, rfl, hz, h.2.1, h.1, h.2.2⟩
theorem alInfo : (Tryz.prog.info? 209).map (fun i => (i.zero.map (·.cells.size), i.size, i.bytes)) = some (some 1, 1, 24) := by kernel_rfl
theorem al_info : ∃ i z, Tryz.prog.info? 209 = some i ∧ i.zero = some z ∧ i.size = 1 ∧ z.cells.size = 1 ∧ i.bytes = 24 := by
 have h := alInfo
 cases hi : Tryz.prog.info? 209 with
 | none => rw [hi] at h; cases h
 | some i =>
  rw [hi] at h
  simp only [Option.map_some, Option.some.injEq, Prod.mk.injEq] at h
  cases hz : i.zero with
  | none => rw [hz] at h; simp at h
  | some z => rw [hz] at h; simp at h; exact ⟨i, z, rfl, hz, h.2.1, h.1, h.2.2⟩
def SlCo (v : Value) (l : List Co) (ob : List Blk) : Prop := Sl 142 7 v l.length (l.flatMap coC) ob
structure RgA (u : Value) (xs : List Al) (o1 o2 : List Blk) : Prop where
 top : Sl 209 1 u xs.length (xs.flatMap alC) o1
 each : ∀ x ∈ xs, ∃ o, (∀ b ∈ o, b ∈ o2) ∧ SlCo (.slice x.A x.l.length x.cap) x.l o
def RgO (v : Value) (r : List (List Co)) (ob : List Blk) : Prop := ∃ xs u o1 o2, v = .agg #[u] ∧ ob = o1 ++ o2 ∧ kZ xs = r ∧ RgA u xs o1 o2
theorem RgA.nil : RgA (.slice none 0 0) [] [] [] := ⟨Sl.nil _ _, fun x hx => by simp at hx⟩
theorem RgO.nil : RgO (.agg #[.slice none 0 0]) [] [] := ⟨[], _, [], [], rfl, rfl, rfl, RgA.nil⟩
theorem RgA.add {u u2 : Value} {xs : List Al} {o1 o2 o3 oa : List Blk} {A : Option Addr} {cap : Nat} {a : List Co} (h : RgA u xs o1 o2) (h2 : Sl 209 1 u2 (xs.length + 1) (xs.flatMap alC ++ alC ⟨A, a, cap⟩) o3) (ha : SlCo (.slice A a.length cap) a oa) : RgA u2 (xs ++ [⟨A, a, cap⟩]) o3 (oa ++ o2) :=
 ⟨h2.to (by simp) (by simp), fun x hx => by
  rcases List.mem_append.1 hx with hx | hx
  ·obtain ⟨o, k1, k2⟩ := h.each x hx
   exact ⟨o, fun b hb => List.mem_append_right _ (k1 b hb), k2⟩
  ·obtain rfl := List.mem_singleton.1 hx
   exact ⟨oa, fun b hb => List.mem_append_left _ hb, ha⟩⟩
structure FineR (r : List (List Co)) : Prop where
 n : r.length ≤ 1000
 m : ∀ a ∈ r, a.length ≤ 1000 ∧ ShortA a
theorem RgA.inn {A : Option Addr} {n cap : Nat} {xs : List Al} {o1 o2 L : List Blk} {M : List Nat} {W w : World} (h : RgA (.slice A n cap) xs o1 o2) (hn : xs.length = n) (hO : Own M W w L) (h1 : ∀ x ∈ o1, x ∈ L) (h2 : ∀ x ∈ o2, x ∈ L) (hf : FineR (kZ xs)) : RgIn w w.heap.size A xs := by
 subst hn
 refine ⟨Sl.reads h.top rfl hO h1, fun x hx => ?_, by have := hf.n; rwa [qJ] at this, fun x hx => (hf.m x.l (List.mem_map.2 ⟨x, hx, rfl⟩)).1, fun x hx => (hf.m x.l (List.mem_map.2 ⟨x, hx, rfl⟩)).2⟩
 obtain ⟨o, k1, k2⟩ := h.each x hx
 exact Sl.reads k2 rfl hO fun b hb => h2 b (k1 b hb)
theorem SlT.blk {v : Value} {l : List (List UInt8)} {ob : List Blk} (h : SlT v l ob) (hn : l ≠ []) : ∃ g cur cap, v = .slice (some ⟨g, 0, none⟩) l.length cap ∧ ob = [⟨g, cur, 9⟩] ∧ cur.toList.take (l.length * 1) = l.flatMap yE := by
 obtain ⟨A, cap, rfl⟩ := h.form
 have h0 : 0 < l.length := by cases l with
  | nil => exact absurd rfl hn
  | cons _ _ => simp
 obtain ⟨g, cur, rfl, e, _, _, _, e2⟩ := Sl.block h h0
 exact ⟨g, cur, cap, rfl, e, by rw [e2, kI]⟩
theorem pc_ok {s : List UInt8} (h : pcE s = 0) : g8 s = some (pcV s) := by
 cases hp : g8 s with
 | none => rw [(pc_none hp).2] at h; exact absurd h (by decide)
 | some c => rw [(pc_some hp).1]
theorem pc_err {s : List UInt8} (h : ¬ pcE s = 0) : g8 s = none := by
 cases hp : g8 s with
 | none => rfl
 | some c => exact absurd (pc_some hp).2 h
theorem parseP_may {s : List UInt8} {c : Co} (h : parseP s = some c) : c.may = true := ((mK _ c).1 h).1
theorem co_short {c : Co} (h : c.may = true) : c.short := by
 obtain ⟨_, hv, hb, _⟩ := Co.facts h
 exact may_short hv hb
theorem parseA_fine {s : List UInt8} {a : List Co} (h : parseA s = some a) (hs : s.length ≤ 100) : a.length ≤ 1000 ∧ ∀ c ∈ a, c.may = true := by
 refine ⟨?_, fun c hc => ?_⟩
 ·rw [m5 h, split_len]
  have := List.length_filter_le (fun x : UInt8 => x == 44) s
  omega
 ·obtain ⟨x, _, e⟩ := allO_back h c hc
  exact parseP_may e
theorem fine_part {s : List UInt8} (hs : s.length ≤ 96) {l : List (List UInt8)} (hl : ∀ x ∈ l, x ∈ kH [] s) (hn : l.length ≤ 97) {r : List (List Co)} (h : bL parseA l = some r) : FineR r := by
 refine ⟨by rw [m5 h]; omega, fun a ha => ?_⟩
 obtain ⟨x, hx, e⟩ := allO_back h a ha
 have := altsL_le s [] x (hl x hx)
 have := parseA_fine e (by simp at this; omega)
 exact ⟨this.1, fun c hc => co_short (this.2 c hc)⟩
theorem fine_few {r : List (List Co)} (h : fewR r = true) : FineR r := by
 obtain ⟨h1, h2⟩ := fewR.facts h
 refine ⟨by omega, fun a ha => ?_⟩
 obtain ⟨k1, k2⟩ := fewA.facts (h2 a ha)
 exact ⟨by omega, fun c hc => co_short (k2 c hc)⟩
theorem allO_next {α β : Type} {f : α → Option β} {l : List α} {i : Nat} (hi : i < l.length) {y : α} (hy : l[i] = y) {m : List β} {z : β} (h : bL f (l.take i) = some m) (hz : f y = some z) : bL f (l.take (i + 1)) = some (m ++ [z]) := by
 rw [List.take_succ_eq_append_getElem hi, hy]
 exact allO_snoc h hz
theorem all_fails {s : List UInt8} {l m : List (List UInt8)} (hl : l = kH [] s) {i k : Nat} (hi : i < l.length) {y z : List UInt8} (hy : l[i] = y) (hm : m = zD 44 [] y) (hk : k < m.length) (hz : m[k] = z) (h : ¬ pcE (yV z) = 0) : gK s = none := by
 have h1 : parseA y = none := allO_none (x := z) (by rw [← hm, ← hz]; exact List.getElem_mem hk) (pc_err h)
 exact allO_none (x := y) (by rw [← hl, ← hy]; exact List.getElem_mem hi) h1
theorem errG_none {s : List UInt8} (hs : s.length ≤ 96) (h : gK s = none) : dA s = 6 ∧ g7 s = none := by
 unfold dA g7
 rw [if_neg Om, if_neg Om, h]; exact ⟨rfl, rfl⟩
theorem errG_few {s : List UInt8} (hs : s.length ≤ 96) {r : List (List Co)} (h : gK s = some r) (hf : fewR r = false) : dA s = 6 ∧ g7 s = none := by
 unfold dA g7
 rw [if_neg Om, if_neg Om, h]
 simp [hf, rgMay, Option.filter]
theorem errG_big {s : List UInt8} (hs : s.length ≤ 96) {r : List (List Co)} (h : gK s = some r) (hf : fewR r = true) (hb : 96 < (v7 r).length) : dA s = 3 ∧ g7 s = none := by
 unfold dA g7
 rw [if_neg Om, if_neg Om, h]
 simp [hf, rgMay, Option.filter]; omega
theorem errG_fine {s : List UInt8} (hs : s.length ≤ 96) {r : List (List Co)} (h : gK s = some r) (hf : fewR r = true) (hb : (v7 r).length ≤ 96) : dA s = 0 ∧ g7 s = some r := by
 unfold dA g7
 rw [if_neg Om, if_neg Om, h]
 simp [hf, rgMay, Option.filter, hb]
theorem errG_long {s : List UInt8} (hs : 96 < s.length) : dA s = 3 ∧ g7 s = none := by
 unfold dA g7
 rw [if_pos hs, if_pos hs]; exact ⟨rfl, rfl⟩
theorem bareF_len : ∀ (s : List UInt8), (x7 s).length ≤ s.length
 | [] => Nat.le_refl _
 | c :: l => by
  rw [x7]
  split
  ·have := bareF_len l; rw [List.length_cons]; omega
  ·exact Nat.le_refl _
theorem bareL_len (s : List UInt8) : (yV s).length ≤ s.length := by
 unfold yV
 rw [List.length_reverse]
 have h1 := bareF_len (x7 s).reverse
 rw [List.length_reverse] at h1
 have := bareF_len s
 omega
theorem pieces_len {y : List UInt8} (h : y.length ≤ 96) : (zD 44 [] y).length ≤ 97 ∧ ∀ z ∈ zD 44 [] y, z.length ≤ 96 := by
 refine ⟨?_, fun z hz => by have := nH 44 y [] z hz; simp at this; omega⟩
 rw [split_len]
 have := List.length_filter_le (fun x : UInt8 => x == 44) y
 omega
section
variable {M : List Nat} {W w : World}
theorem own_two {x y : Blk} {A : List Blk} (h : Own M W w (x :: y :: A)) : Own M W w A := h.sublist ((List.sublist_cons_self y A).trans (List.sublist_cons_self x (y :: A)))
theorem own_turn {x y r t g : Blk} {oa o1 o2 : List Blk} (h : Own M W w (([x, y, g, r, t] ++ oa) ++ o1 ++ o2)) : Own M W w (g :: r :: t :: (o1 ++ (oa ++ o2))) := by
 have h1 : Own M W w (x :: y :: g :: r :: t :: ((oa ++ o1) ++ o2)) := by simpa [List.append_assoc] using h
 refine (own_two h1).perm (List.Perm.cons _ (List.Perm.cons _ (List.Perm.cons _ ?_)))
 rw [← List.append_assoc]
 exact List.Perm.append_right _ List.perm_append_comm
end
end
section
def bC (v : Ver) : Array Value := #[YI v.maj, YI v.min, YI v.pat]
theorem rd_nums (v : Ver) : ∀ (k : Nat), k < 3 → yN Tryz.prog 3 (bC v) k = some (YI (qV v.maj v.min v.pat k))
 | 0, _ => by kernel_rfl
 | 1, _ => by kernel_rfl
 | 2, _ => by kernel_rfl
theorem cnums_any (v : Ver) (W : World) : YC 245 #[kV v] W fun e w' => ∃ v' ob', e = .returned v' ∧ (∃ g, v' = .slice (some ⟨g, 0, none⟩) 3 3 ∧ ob' = [⟨g, bC v, 3⟩]) ∧ Own [] W w' ob' := by
 exact zL Tryz.func245 (xN [] fun b1 => fE [0, 0, 0] 3 3 #[YI v.maj, YI v.min, YI v.pat] fun b2 => zB [] (.slice (some ⟨b2, 0, none⟩) 3 3) fun w hO => ⟨_, _, rfl, ⟨b2, rfl, rfl⟩, Own.nth 0 ⟨b2, bC v, 3⟩ hO⟩)
theorem cMay_any (c : Co) (W : World) (hc : c.short) : YC 223 #[coV c] W (YR (.bool c.may) W) := by
 obtain ⟨op, parts, v⟩ := c
 have hm := @Co.may_iff ⟨op, parts, v⟩
 simp only at hm
 have no : ∀ w, Below W.heap.size W w → ¬ (Co.may ⟨op, parts, v⟩ = true) → Ending.returned (.bool false) = .returned (.bool (Co.may ⟨op, parts, v⟩)) ∧ Below W.heap.size W w := fun w hb h => ⟨by rw [Bool.eq_false_iff.2 h], hb⟩
 have hmay : ∀ w, YC 30 #[kV v] w (YR (.bool v.may) w) := fun w => may_any v w (Nat.lt_of_le_of_lt hc.1 (by decide)) (Nat.lt_of_le_of_lt hc.2 (by decide))
 have hnum : ∀ w, YC 245 #[kV v] w fun e w' => ∃ v' ob', e = .returned v' ∧ (∃ g, v' = .slice (some ⟨g, 0, none⟩) 3 3 ∧ ob' = [⟨g, bC v, 3⟩]) ∧ Own [] w w' ob' := fun w => cnums_any v w
 refine zL Tryz.func223 (xN [] fun b1 => x_joinC 9 (α := Int × Int) (fun q => [(1, Zp b1 0), (3, YI q.1), (4, YI q.2)]) (fun _ => [⟨b1, (coV ⟨op, parts, v⟩).cells, 142⟩]) (fun q => (op = 9 → q.1 = 0 ∧ q.2 = 2) ∧ (¬ op = 9 → q.1 = 1 ∧ q.2 = 3)) [0] (fun nj => bS 9 (op = 9) (fun h => nj (0, 2) [] ⟨fun _ => ⟨rfl, rfl⟩, fun q => absurd h q⟩ Kr) (fun h => nj (1, 3) [] ⟨fun q => absurd q h, fun _ => ⟨rfl, rfl⟩⟩ Kr)) ?_)
 rintro ⟨lo, hi⟩ g hr
 simp only at hr
 refine y9 12 [0] (op < 1) (fun h1 => (zB [] Z5 fun w hO => no w hO.below fun q => by have := hm.1 q; grind)) (fun h1 => y9 16 [0] (op > 9) (fun h2 => (zB [] Z5 fun w hO => no w hO.below fun q => by have := hm.1 q; grind)) (fun h2 => y9 22 [0] (parts < lo) (fun h5 => (zB [] Z5 fun w hO => no w hO.below fun q => by have := hm.1 q; grind)) (fun h5 => y9 28 [0] (parts > hi) (fun h6 => (zB [] Z5 fun w hO => no w hO.below fun q => by have := hm.1 q; grind)) (fun h6 => ?_))))
 rcases (by omega : parts = 0 ∨ parts = 1 ∨ parts = 2 ∨ parts = 3) with rfl | rfl | rfl | rfl
 ·refine x_drawF (.s (.s (.s (.s (.s (.s (.s (.s .z)))))))) 8 [] (gR [0, 0] 2 (nB (R := fun v' ob' => ∃ g, v' = .slice (some ⟨g, 0, none⟩) 3 3 ∧ ob' = [⟨g, bC v, 3⟩]) (fun w hO => hnum w) ?_))
  rintro v' ob' ⟨gb, rfl, rfl⟩
  exact bR 3 [] (d9 42 [1] (v.maj = 0) (fun a1 => d9 42 [1] (v.min = 0) (fun a2 => d9 42 [1] (v.pat = 0) (fun a3 => zE (v := .bool v.may) [0] (fun w hO => hmay w) (yT 46 v.may (fun e3 => kD 51 [0] v.build [] (fun h4 => kD 57 [0] v.pre [] (fun h8 => (zB [] Z4 fun w hO => ⟨by rw [hm.2 ⟨by omega, e3, h4, by omega, by omega, by first | exact .inr h8 | exact .inl Om, by omega, by omega, by omega⟩], hO.below⟩)) (fun h8 => (zB [0] Z5 fun w hO => no w hO.below fun q => by have := hm.1 q; grind))) (fun h4 => (zB [] Z5 fun w hO => no w hO.below fun q => by have := hm.1 q; grind))) (fun e3 => (zB [] Z5 fun w hO => no w hO.below fun q => by have := hm.1 q; grind)))) (fun a3 => (zB [] Z5 fun w hO => no w hO.below fun q => by have := hm.1 q; grind))) (fun a2 => (zB [] Z5 fun w hO => no w hO.below fun q => by have := hm.1 q; grind))) (fun a1 => (zB [] Z5 fun w hO => no w hO.below fun q => by have := hm.1 q; grind)))
 ·refine x_drawF (.s (.s (.s (.s (.s (.s (.s (.s .z)))))))) 8 [] (gR [0, 0] 2 (nB (R := fun v' ob' => ∃ g, v' = .slice (some ⟨g, 0, none⟩) 3 3 ∧ ob' = [⟨g, bC v, 3⟩]) (fun w hO => hnum w) ?_))
  rintro v' ob' ⟨gb, rfl, rfl⟩
  exact bR 3 [] (d9 42 [1] (v.min = 0) (fun a2 => d9 42 [1] (v.pat = 0) (fun a3 => zE (v := .bool v.may) [0] (fun w hO => hmay w) (yT 46 v.may (fun e3 => kD 51 [0] v.build [] (fun h4 => kD 57 [0] v.pre [] (fun h8 => (zB [] Z4 fun w hO => ⟨by rw [hm.2 ⟨by omega, e3, h4, by omega, by omega, by first | exact .inr h8 | exact .inl Om, by omega, by omega, by omega⟩], hO.below⟩)) (fun h8 => (zB [0] Z5 fun w hO => no w hO.below fun q => by have := hm.1 q; grind))) (fun h4 => (zB [] Z5 fun w hO => no w hO.below fun q => by have := hm.1 q; grind))) (fun e3 => (zB [] Z5 fun w hO => no w hO.below fun q => by have := hm.1 q; grind)))) (fun a3 => (zB [] Z5 fun w hO => no w hO.below fun q => by have := hm.1 q; grind))) (fun a2 => (zB [] Z5 fun w hO => no w hO.below fun q => by have := hm.1 q; grind)))
 ·refine x_drawF (.s (.s (.s (.s (.s (.s (.s (.s .z)))))))) 8 [] (gR [0, 0] 2 (nB (R := fun v' ob' => ∃ g, v' = .slice (some ⟨g, 0, none⟩) 3 3 ∧ ob' = [⟨g, bC v, 3⟩]) (fun w hO => hnum w) ?_))
  rintro v' ob' ⟨gb, rfl, rfl⟩
  exact bR 3 [] (d9 42 [1] (v.pat = 0) (fun a3 => zE (v := .bool v.may) [0] (fun w hO => hmay w) (yT 46 v.may (fun e3 => kD 51 [0] v.build [] (fun h4 => kD 57 [0] v.pre [] (fun h8 => (zB [] Z4 fun w hO => ⟨by rw [hm.2 ⟨by omega, e3, h4, by omega, by omega, by first | exact .inr h8 | exact .inl Om, by omega, by omega, by omega⟩], hO.below⟩)) (fun h8 => (zB [0] Z5 fun w hO => no w hO.below fun q => by have := hm.1 q; grind))) (fun h4 => (zB [] Z5 fun w hO => no w hO.below fun q => by have := hm.1 q; grind))) (fun e3 => (zB [] Z5 fun w hO => no w hO.below fun q => by have := hm.1 q; grind)))) (fun a3 => (zB [] Z5 fun w hO => no w hO.below fun q => by have := hm.1 q; grind)))
 ·refine x_drawF (.s (.s (.s (.s (.s (.s (.s (.s .z)))))))) 8 [] (gR [0, 0] 2 (nB (R := fun v' ob' => ∃ g, v' = .slice (some ⟨g, 0, none⟩) 3 3 ∧ ob' = [⟨g, bC v, 3⟩]) (fun w hO => hnum w) ?_))
  rintro v' ob' ⟨gb, rfl, rfl⟩
  exact bR 3 [] (zE (v := .bool v.may) [0] (fun w hO => hmay w) (yT 46 v.may (fun e3 => kD 51 [0] v.build [] (fun h4 => kD 57 [0] v.pre [] (fun h8 => (zB [] Z4 fun w hO => ⟨by rw [hm.2 ⟨by omega, e3, h4, by omega, by omega, by first | exact .inr h8 | exact .inl Om, by omega, by omega, by omega⟩], hO.below⟩)) (fun h8 => (zB [0] Z4 fun w hO => ⟨by rw [hm.2 ⟨by omega, e3, h4, by omega, by omega, by first | exact .inr h8 | exact .inl Om, by omega, by omega, by omega⟩], hO.below⟩))) (fun h4 => (zB [] Z5 fun w hO => no w hO.below fun q => by have := hm.1 q; grind))) (fun e3 => (zB [] Z5 fun w hO => no w hO.below fun q => by have := hm.1 q; grind))))
theorem csign_any (op : Int) (W : World) : YC 244 #[YI op] W (YR (.string (mkS (zR op))) W) := by
 exact zL Tryz.func244 (y9 7 [] (op = 2) (fun h => bT 24 [] [33] [61] (zB [] (.string (mkS ([33] ++ [61]))) fun w hO => ⟨by subst h; rfl, hO.below⟩)) (fun h2 => y9 9 [] (op = 1) (fun h => bT 24 [] [] [61] (zB [] (.string (mkS ([] ++ [61]))) fun w hO => ⟨by subst h; rfl, hO.below⟩)) (fun h1 => y9 11 [] (op = 4) (fun h => bT 24 [] [60] [61] (zB [] (.string (mkS ([60] ++ [61]))) fun w hO => ⟨by subst h; rfl, hO.below⟩)) (fun h4 => y9 13 [] (op = 3) (fun h => bT 24 [] [60] [] (zB [] (.string (mkS ([60] ++ []))) fun w hO => ⟨by subst h; rfl, hO.below⟩)) (fun h3 => y9 15 [] (op = 6) (fun h => bT 24 [] [62] [61] (zB [] (.string (mkS ([62] ++ [61]))) fun w hO => ⟨by subst h; rfl, hO.below⟩)) (fun h6 => y9 17 [] (op = 5) (fun h => bT 24 [] [62] [] (zB [] (.string (mkS ([62] ++ []))) fun w hO => ⟨by subst h; rfl, hO.below⟩)) (fun h5 => y9 19 [] (op = 7) (fun h => bT 24 [] [94] [] (zB [] (.string (mkS ([94] ++ []))) fun w hO => ⟨by subst h; rfl, hO.below⟩)) (fun h7 => y9 21 [] (op = 8) (fun h => bT 24 [] [126] [] (zB [] (.string (mkS ([126] ++ []))) fun w hO => ⟨by subst h; rfl, hO.below⟩)) (fun h8 => bT 24 [] [] [] (zB [] (.string (mkS ([] ++ []))) fun w hO => ⟨by unfold zR; rw [if_neg h1, if_neg h2, if_neg h3, if_neg h4, if_neg h5, if_neg h6, if_neg h7, if_neg h8]; rfl, hO.below⟩))))))))))
end
section
theorem splitn_any (s : List UInt8) (W : World) (hs : s.length ≤ 1000000) : YC 141 #[.string (mkS s), .string ⟨#[46]⟩, YI 3] W fun e w' => ∃ v' ob', e = .returned v' ∧ SlT v' (wK 2 s) ob' ∧ Own [] W w' ob' := by
 refine Z2 (n := 11) Tryz.func141 rfl (ZO (Zv (.slice none 0 0) (ZR (Zv (.string (mkS s)) (Zv (.string ⟨#[46]⟩) (Zv (YI 3) (Zr (k := 173) (args := #[.string (mkS s), .string ⟨#[46]⟩, YI 0, YI 3]) (fun v' L' => SlT v' (wK 2 s) L') (fun w hO => (split3_any s w hs).mono fun e w' ⟨v', ob', k1, k2, k3⟩ => ⟨v', ob', k1, k2, by simpa using Own.joinN hO k3⟩) (fun v1 o1 hr1 => ?_))))))))
 exact Zv (v1) (ZN (zN (ZF (v1) Tryz.results141 (fun w hO => ⟨v1, o1, rfl, hr1, hO⟩))))
theorem sgo_take {s r : List UInt8} {k : Nat} {op : Int} (h : sgo s k = (op, r)) (hb : yK s (zR ((k + 1 : Nat) : Int)) = true) (hl : ((mkS (cpL s (zR ((k + 1 : Nat) : Int)))).size : Int) < ((mkS r).size : Int)) : sgo s (k + 1) = (((k + 1 : Nat) : Int), cpL s (zR ((k + 1 : Nat) : Int))) := by
 rw [yC, yC] at hl
 unfold cpL at hl ⊢
 rw [if_pos hb] at hl ⊢
 unfold sgo
 rw [h, if_pos ⟨hb, by show _ < r.length; omega⟩]
theorem sgo_not {s r : List UInt8} {k : Nat} {op : Int} (h : sgo s k = (op, r)) (hb : yK s (zR ((k + 1 : Nat) : Int)) = false) : sgo s (k + 1) = (op, r) := by
 unfold sgo
 rw [h, if_neg (fun q => by rw [hb] at q; exact Bool.false_ne_true q.1)]
theorem sgo_long {s r : List UInt8} {k : Nat} {op : Int} (h : sgo s k = (op, r)) (hb : yK s (zR ((k + 1 : Nat) : Int)) = true) (hl : ¬ ((mkS (cpL s (zR ((k + 1 : Nat) : Int)))).size : Int) < ((mkS r).size : Int)) : sgo s (k + 1) = (op, r) := by
 rw [yC, yC] at hl
 unfold cpL at hl
 rw [if_pos hb] at hl
 unfold sgo
 rw [h, if_neg (fun q => hl (by have q2 : _ < r.length := q.2; omega))]
theorem ccut_any (s : List UInt8) (W : World) (hs : s.length ≤ 1000000) : YC 214 #[.string (mkS s)] W (YR (.tuple #[YI (sgo s 8).1, .string (mkS (sgo s 8).2)]) W) := by
 refine Z2 (n := 33) Tryz.func214 rfl (ZO (Zv (YI 0) (Zv (.string ⟨#[]⟩) (ZR (Zv (.string (mkS s)) (Zv (YI 7) (Zv (.string (mkS s)) ?_)))))))
 refine ZN (zH (ZO (Zv (YI 1) (ZN (yG (vJ (fun L f m => ∃ (k : Nat) (op : Int) (r : List UInt8) (j : Nat → Value), (k ≤ 8 ∧ sgo s k = (op, r)) ∧ L = [] ∧ f = j6 j [(0, .string (mkS s)), (4, YI op), (5, .string (mkS r)), (6, YI ((k + 1 : Nat) : Int))] ∧ m = 8 - k) (8 - 0) ⟨0, _, _, _, ⟨by omega, rfl⟩, rfl, ZU, rfl⟩ ?_))))))
 rintro L f m ⟨k, op, r, j, hrel, rfl, rfl, rfl⟩
 have hkl := hrel.1
 refine zH (ZO (Zv (YI ((k + 1 : Nat) : Int)) ?_))
 by_cases h1 : ((k + 1 : Nat) : Int) < 9
 ·refine Zg h1 (ZY (ZB (zH (yG (ZO (Zv (.string (mkS s)) (Zv (YI ((k + 1 : Nat) : Int)) ?_)))))))
  refine Zc (k := 244) (args := #[YI ((k + 1 : Nat) : Int)]) (.string (mkS (zR ((k + 1 : Nat) : Int)))) (fun w _ => csign_any _ w) (Zc (k := 120) (args := #[.string (mkS s), .string (mkS (zR ((k + 1 : Nat) : Int)))]) (.tuple #[.string (mkS (cpL s (zR ((k + 1 : Nat) : Int)))), .bool (yK s (zR ((k + 1 : Nat) : Int)))]) (fun w _ => cutpre_any s (zR ((k + 1 : Nat) : Int)) w) (Zv (.tuple #[.string (mkS (cpL s (zR ((k + 1 : Nat) : Int)))), .bool (yK s (zR ((k + 1 : Nat) : Int)))]) (Zv (.string (mkS (cpL s (zR ((k + 1 : Nat) : Int))))) (Zv (.bool (yK s (zR ((k + 1 : Nat) : Int)))) (Zv (.string (mkS (cpL s (zR ((k + 1 : Nat) : Int))))) (Zv (.bool (yK s (zR ((k + 1 : Nat) : Int)))) (ZR (Zv (.bool (yK s (zR ((k + 1 : Nat) : Int)))) ?_))))))))
  refine Zv (.bool (yK s (zR ((k + 1 : Nat) : Int)))) ?_
  cases h2 : yK s (zR ((k + 1 : Nat) : Int)) with
  | true =>
   refine Zv (.string (mkS (cpL s (zR ((k + 1 : Nat) : Int))))) (Zv (YI ((mkS (cpL s (zR ((k + 1 : Nat) : Int)))).size)) (Zv (.string (mkS r)) (Zv (YI ((mkS r).size)) ?_)))
   by_cases h3 : ((mkS (cpL s (zR ((k + 1 : Nat) : Int)))).size : Int) < (mkS r).size
   ·refine Zg h3 (Zv Z4 (ZY (zF (Zv (YI ((k + 1 : Nat) : Int)) (Zv (.string (mkS (cpL s (zR ((k + 1 : Nat) : Int))))) (Zv (YI ((k + 1 : Nat) : Int)) (Zv (.string (mkS (cpL s (zR ((k + 1 : Nat) : Int))))) (y8 (zV ?_)))))))))
    exact zJ (zF (Zv (YI ((k + 1 : Nat) : Int)) (Zu (k := .i64) (((k + 1 + 1 : Nat) : Int)) (IntWalk.i64_in _ Om) (Zv (YI ((k + 1 + 1 : Nat) : Int)) (y8 (yZ (m' := 8 - (k + 1)) Om ⟨k + 1, ((k + 1 : Nat) : Int), cpL s (zR ((k + 1 : Nat) : Int)), _, ⟨by omega, sgo_take hrel.2 h2 h3⟩, rfl, ZU, rfl⟩))))))
   refine Zh h3 (Zv Z5 (ZX (dL (zV (zJ (zF (Zv (YI ((k + 1 : Nat) : Int)) (Zu (k := .i64) (((k + 1 + 1 : Nat) : Int)) (IntWalk.i64_in _ Om) (Zv (YI ((k + 1 + 1 : Nat) : Int)) ?_)))))))))
   exact y8 (yZ (m' := 8 - (k + 1)) Om ⟨k + 1, op, r, _, ⟨by omega, sgo_long hrel.2 h2 h3⟩, rfl, ZU, rfl⟩)
  | false =>
   refine Zk (Zk (Zk (Zk (Zk (Zv Z5 (ZX (dL (zV (zJ ?_)))))))))
   exact zF (Zv (YI ((k + 1 : Nat) : Int)) (Zu (k := .i64) (((k + 1 + 1 : Nat) : Int)) (IntWalk.i64_in _ Om) (Zv (YI ((k + 1 + 1 : Nat) : Int)) (y8 (yZ (m' := 8 - (k + 1)) Om ⟨k + 1, op, r, _, ⟨by omega, sgo_not hrel.2 h2⟩, rfl, ZU, rfl⟩)))))
 refine Zh h1 (ZX (vK (yM (yI (yJ (zJ (ZO (Zv (YI op) ?_))))))))
 exact Zv (.string (mkS r)) (Zv (YI op) (Zv (.string (mkS r)) (ZN (zN (ZG (YI op) (.string (mkS r)) Tryz.results214 (fun w hO => ⟨by have hk8 : k = 8 := Om; subst hk8; rw [hrel.2], hO.below⟩))))))
theorem nth_ok {v : Ver} (h : v.may = true) {k : Nat} (hk : k < 3) : zW (qV v.maj v.min v.pat k) = true := by
 obtain ⟨m1, m2, m3⟩ := gL h
 have hj : k = 0 ∨ k = 1 ∨ k = 2 := by omega
 rcases hj with rfl | rfl | rfl
 ·exact m1
 ·exact m2
 ·exact m3
theorem nth_in {v : Ver} (h : v.may = true) {k : Nat} (hk : k < 3) : -9223372036854775808 ≤ qV v.maj v.min v.pat k ∧ qV v.maj v.min v.pat k ≤ 9223372036854775807 := by
 have q := nth_ok h hk
 unfold zW at q; simp at q; omega
theorem nums_next (v : Ver) {k : Nat} (hk : k < 3) : zT v (k + 1) = zT v k ++ [Lib.itoa (qV v.maj v.min v.pat k)] := by
 have hj : k = 0 ∨ k = 1 ∨ k = 2 := by omega
 rcases hj with rfl | rfl | rfl <;> rfl
theorem own_dropP {M : List Nat} {W w : World} {x y z : Blk} {A : List Blk} (h : Own M W w ([x, y, z] ++ A ++ [])) : Own M W w (y :: z :: A) := h.sublist (by rw [List.append_nil]; exact List.sublist_append_right [x] _)
theorem star_ne {l : List (List UInt8)} : zG 46 (l ++ [[42]]) ≠ [] := fun e => by
 have h := last_join [] l
 rw [show ([] : List UInt8) ++ [42] = [42] from rfl, e] at h
 cases h
theorem nums_ne {c : Co} (h : c.may = true) (hn : ¬ c.op = 9) : zG 46 (zT c.v c.parts.toNat) ≠ [] := fun e => by
 obtain ⟨d, r, e2, hd⟩ := fJ h hn
 unfold Co.rest at e2
 rw [if_neg hn, e, List.nil_append] at e2
 unfold kE at e2
 split at e2
 ·cases e2
 ·injection e2 with e3 _
  rw [← e3] at hd
  revert hd; decide
theorem text_pre2 {c : Co} (h9 : ¬ c.op = 9) (hp : ¬ c.v.pre = []) : zR c.op ++ zG 46 (zT c.v c.parts.toNat) ++ ([45] ++ c.v.pre) = c.text := by
 rw [← text_pre h9 hp]; simp
theorem star_text2 {c : Co} (h9 : c.op = 9) : zR c.op ++ zG 46 (zT c.v c.parts.toNat ++ [[42]]) = c.text := by
 rw [← star_text h9, h9]; rfl
theorem star_pre {c : Co} (h : c.may = true) (h9 : c.op = 9) : c.v.pre = [] := by
 obtain ⟨_, _, _, k9, _, hp, _⟩ := Co.facts h
 have := k9 h9
 exact hp.resolve_left Om
theorem cPrint_any (c : Co) (W : World) (hc : c.short) (ht : HasTab W) : YC 215 #[coV c] W (YR (.string (mkS c.print)) W) := by
 refine Z2 (n := 50) Tryz.func215 rfl (ZO (Zb (coV c) (fun b1 => Zv (.string ⟨#[]⟩) (ZN (zH (ZO (Zl 0 ⟨b1, (coV c).cells, 142⟩ (off := 0) (coV c) (Zc (k := 223) (args := #[coV c]) (.bool c.may) (fun w _ => cMay_any c w hc) ?_))))))))
 cases h1 : c.may with
 | true =>
  have hcm := h1
  have hcv := (Co.facts hcm).2.1
  have hpn := parts_nat hcm
  have hpr := hpn.2
  have hpc := hpn.1
  refine Zv Z5 (ZX (ZB (ZO (Zv (.slice none 0 0) (ZN (zH ?_))))))
  refine zH (ok_anyh Kr (ZT 0 [] _ (Zp b1 2) (xE (xE qA)) rfl (ZL 1 [] _ 0 ⟨b1, (coV c).cells, 142⟩ (off := 2) (.agg (ZP c.v)) (xE (xE qA)) rfl rfl (ZT 3 [] _ (Zp b1 1) (xE (xE qA)) rfl (ZL 4 [] _ 0 ⟨b1, (coV c).cells, 142⟩ (off := 1) (YI c.parts) (xE (xE qA)) rfl rfl (ZT 7 [] _ (YI 0) (xE (xE qA)) rfl (Zz 2 (nU _ (k := 245) (args := #[.agg (ZP c.v)]) (fun v' L' => ∃ ob', L' = ob' ++ ([] ++ ([⟨b1, (coV c).cells, 142⟩])) ∧ ∃ g, v' = .slice (some ⟨g, 0, none⟩) 3 3 ∧ ob' = [⟨g, bC c.v, 3⟩]) rfl Kr (fun _ => Kr) (fun w hO => (cnums_any c.v w).mono fun e w' ⟨v', ob', k1, k2, k3⟩ => ⟨v', _, k1, ⟨ob', rfl, k2⟩, Own.joinN hO k3⟩) (fun v' L' ⟨ob', e, _⟩ w hO => by subst e; exact Own.sub [] (Own.sub ob' hO)) (fun v1 L2 hv2 => ?_)))))))))
  obtain ⟨o1, rfl, hr1⟩ := hv2
  obtain ⟨g1, rfl, ho1⟩ := hr1
  refine h_cast (L' := (o1 ++ ([] : List Blk)) ++ ([⟨b1, (coV c).cells, 142⟩])) (List.append_assoc _ _ _).symm (h_take 5 (o1 ++ ([] : List Blk)) _ (.slice (some ⟨g1, 0, none⟩) c.parts.toNat 3) rfl Kr Kr Kr (xE (xE qA)) Kr (fun w _ => run_slhi (b := g1) (off := 0) (n := 3) (c := 3) (k := .i64) (j := c.parts) (e := 3) (sz := 1) rfl Kr Kr Kr Kr Om Om w) (ZT 6 (o1 ++ ([] : List Blk)) _ (YI (c.parts.toNat : Int)) (xE (xE qA)) rfl (ZZ (zJ (yG (qT (L' := ⟨g1, bC c.v, 3⟩ :: ⟨b1, (coV c).cells, 142⟩ :: []) (by rw [ho1]; rfl) (vJ (fun L f m => ∃ (k : Nat) (va : Value) (oa : List Blk) (j : Nat → Value), (k ≤ c.parts.toNat ∧ SlT va (zT c.v k) oa) ∧ L = ⟨g1, bC c.v, 3⟩ :: ⟨b1, (coV c).cells, 142⟩ :: oa ∧ f = j6 j [(1, Zp b1 0), (3, va), (15, .slice (some ⟨g1, 0, none⟩) c.parts.toNat 3), (16, YI (c.parts.toNat : Int)), (17, YI (k : Int))] ∧ m = c.parts.toNat - k) (c.parts.toNat - 0) ⟨0, _, [], _, ⟨Nat.zero_le _, Sl.nil _ _⟩, rfl, ZU, rfl⟩ ?_)))))))
  rintro L f m ⟨k, va, oa, j, hrel, rfl, rfl, rfl⟩
  have hkl := hrel.1
  refine zH (zF ?_)
  by_cases h2 : (k : Int) < (c.parts.toNat : Int)
  ·refine Zg h2 (ZN (zH (Zt (ZB (zH (yG (ZO (yO (Zp g1 (0 + k)) Kr (ZV (b := g1) (off := 0) (n := c.parts.toNat) (c := 3) (k := .i64) (j := (k : Int)) (e := 3) (sz := 1)) ?_))))))))
   refine mG 0 ⟨g1, bC c.v, 3⟩ (off := 0 + k) (YI (qV c.v.maj c.v.min c.v.pat k)) Kr rfl Kr Kr (by rw [Nat.zero_add]; exact rd_nums c.v k Om) (Zv (YI (qV c.v.maj c.v.min c.v.pat k)) (ZN (zF (Zv (va) (Zv (YI (qV c.v.maj c.v.min c.v.pat k)) (Zc (k := 125) (args := #[YI (qV c.v.maj c.v.min c.v.pat k)]) (.string (mkS (Lib.itoa (qV c.v.maj c.v.min c.v.pat k)))) (fun w hO => digits_mk _ (nth_in hcv (show k < 3 by omega)).1 (nth_in hcv (show k < 3 by omega)).2 w (ht.on hO.below)) (s_lit 9 #[.string (mkS (Lib.itoa (qV c.v.maj c.v.min c.v.pat k)))] Kr rfl (fun _ => Kr) (fun b2 => ?_))))))))
   obtain ⟨i0, z0, e1, e2, e3, e4, e5⟩ := tW
   have hlk : (zT c.v k).length ≤ 3 := by have := fN c.v k; omega
   refine zO (L' := [⟨b2, #[.string (mkS (Lib.itoa (qV c.v.maj c.v.min c.v.pat k)))], 9⟩, ⟨g1, bC c.v, 3⟩, ⟨b1, (coV c).cells, 142⟩] ++ oa ++ []) (List.append_nil _).symm (wI (sz := 1) Kr rfl Tryz.underlying58 e1 e2 e3 e4 Kr hrel.2 (a := ⟨b2, 0, none⟩) (m := 1) (c := 1) (news := qP [Lib.itoa (qV c.v.maj c.v.min c.v.pat k)]) Kr rfl (fun w hO j u hj => ?_) (str_cells _) (by unfold maxLen; omega) (by rw [e5]; omega) (fun va2 oa2 hva0 => ?_))
   ·rw [yX, cell_of_row w b2 (0 + j) (qP [Lib.itoa (qV c.v.maj c.v.min c.v.pat k)]).toArray 9 _ (hO.held ⟨b2, (qP [Lib.itoa (qV c.v.maj c.v.min c.v.pat k)]).toArray, 9⟩ (List.mem_append_left _ (List.mem_append_left _ (List.mem_cons_self ..))))]; simpa using hj
   have hva2 : SlT va2 ((zT c.v k) ++ [Lib.itoa (qV c.v.maj c.v.min c.v.pat k)]) oa2 := hva0.to (by rw [List.length_append]; rfl) (by unfold qP; rw [List.map_append])
   exact Zv (va2) (y8 (zV (zJ (zF (Zu (k := .i64) (((k + 1 : Nat) : Int)) (IntWalk.i64_in _ Om) (Zv (YI ((k + 1 : Nat) : Int)) (y8 (vG (L' := ⟨g1, bC c.v, 3⟩ :: ⟨b1, (coV c).cells, 142⟩ :: oa2) (fun w hO => own_dropP hO) (yZ (m' := c.parts.toNat - (k + 1)) Om ⟨k + 1, va2, oa2, _, ⟨by omega, by rw [nums_next c.v Om]; exact hva2⟩, rfl, ZU, rfl⟩)))))))))
  have hkq : k = c.parts.toNat := by omega
  have hvk : SlT va (zT c.v c.parts.toNat) oa := hkq ▸ hrel.2
  refine Zh h2 (ZN (zH (Zf (vK (yM (yI (yJ (zJ (zH (zH ?_))))))))))
  refine zF (Zv (Zp b1 0) (Zl 1 ⟨b1, (coV c).cells, 142⟩ (off := 0) (YI c.op) ?_))
  by_cases h3 : (c.op : Int) = 9
  ·refine Zg h3 (ZY (zF (Zv (va) (s_lit 9 #[.string ⟨#[42]⟩] Kr rfl (fun _ => Kr) (fun b2 => ?_)))))
   obtain ⟨i0, z0, e1, e2, e3, e4, e5⟩ := tW
   have hlk : (zT c.v c.parts.toNat).length ≤ 3 := by have := fN c.v c.parts.toNat; omega
   refine zO (L' := [⟨b2, #[.string ⟨#[42]⟩], 9⟩, ⟨g1, bC c.v, 3⟩, ⟨b1, (coV c).cells, 142⟩] ++ oa ++ []) (List.append_nil _).symm (wI (sz := 1) Kr rfl Tryz.underlying58 e1 e2 e3 e4 Kr hvk (a := ⟨b2, 0, none⟩) (m := 1) (c := 1) (news := qP [[42]]) Kr rfl (fun w hO j u hj => ?_) (str_cells _) (by unfold maxLen; omega) (by rw [e5]; omega) (fun va2 oa2 hva0 => ?_))
   ·rw [yX, cell_of_row w b2 (0 + j) (qP [[42]]).toArray 9 _ (hO.held ⟨b2, (qP [[42]]).toArray, 9⟩ (List.mem_append_left _ (List.mem_append_left _ (List.mem_cons_self ..))))]; simpa using hj
   have hva2 : SlT va2 ((zT c.v c.parts.toNat) ++ [[42]]) oa2 := hva0.to (by rw [List.length_append]; rfl) (by unfold qP; rw [List.map_append])
   refine Zv (va2) (y8 (vG (L' := ⟨g1, bC c.v, 3⟩ :: ⟨b1, (coV c).cells, 142⟩ :: oa2) (fun w hO => own_dropP hO) (zJ (ZO (Zv (Zp b1 0) (Zl 1 ⟨b1, (coV c).cells, 142⟩ (off := 0) (YI c.op) (Zc (k := 244) (args := #[YI c.op]) (.string (mkS (zR c.op))) (fun w _ => csign_any c.op w) (Zv (va2) (Zc (k := 123) (args := #[va2, .int .u8 46]) (.string (mkS (zG 46 (zT c.v c.parts.toNat ++ [[42]])))) (fun w hO => jD va2 _ 46 w (SlT.readsT hva2 hO (fun x hx => by simp [hx])) (Nat.le_trans (bM hcv _) (by decide)) (by rw [List.length_append]; have := fN c.v c.parts.toNat; simp; omega) star_ne) (yO (.string (mkS ((zR c.op) ++ (zG 46 (zT c.v c.parts.toNat ++ [[42]]))))) Kr (bV (a := (zR c.op)) (b := (zG 46 (zT c.v c.parts.toNat ++ [[42]]))) rfl Kr Kr (by have q1 := pA c.op; have q2 := bN hcv c.parts.toNat; have q4 := bM hcv c.parts.toNat; have q3 := hc.1; first | omega | (simp only [List.length_append, List.length_cons, List.length_nil]; omega))) ?_))))))))))
   refine Zv (.string (mkS ((zR c.op) ++ (zG 46 (zT c.v c.parts.toNat ++ [[42]]))))) (ZN (zH (ZO (Zv (Zp b1 2) (Zv (Zp b1 5) (Zl 1 ⟨b1, (coV c).cells, 142⟩ (off := 5) (.string (mkS c.v.pre)) (yO Z5 Kr (kJ (a := c.v.pre) (b := ([])) rfl Kr Kr (decide_eq_true (star_pre hcm h3))) (y8 (zJ ?_)))))))))
   exact Zf (ZB (ZO (Zv (.string (mkS ((zR c.op) ++ (zG 46 (zT c.v c.parts.toNat ++ [[42]]))))) (Zv (.string (mkS ((zR c.op) ++ (zG 46 (zT c.v c.parts.toNat ++ [[42]]))))) (ZN (zN (ZF (.string (mkS ((zR c.op) ++ (zG 46 (zT c.v c.parts.toNat ++ [[42]]))))) Tryz.results215 (fun w hO => ⟨by rw [vI hcm, ← star_text2 h3], hO.below⟩))))))))
  refine Zh h3 (ZX (ZB (ZO (Zv (Zp b1 0) (Zl 1 ⟨b1, (coV c).cells, 142⟩ (off := 0) (YI c.op) (Zc (k := 244) (args := #[YI c.op]) (.string (mkS (zR c.op))) (fun w _ => csign_any c.op w) (Zv (va) ?_)))))))
  refine Zc (k := 123) (args := #[va, .int .u8 46]) (.string (mkS (zG 46 (zT c.v c.parts.toNat)))) (fun w hO => jD va _ 46 w (SlT.readsT hvk hO (fun x hx => by simp [hx])) (Nat.le_trans (bN hcv _) (by decide)) (Nat.le_trans (fN _ _) (by decide)) (nums_ne hcm h3)) (yO (.string (mkS ((zR c.op) ++ (zG 46 (zT c.v c.parts.toNat))))) Kr (bV (a := (zR c.op)) (b := (zG 46 (zT c.v c.parts.toNat))) rfl Kr Kr (by have q1 := pA c.op; have q2 := bN hcv c.parts.toNat; have q4 := bM hcv c.parts.toNat; have q3 := hc.1; first | omega | (simp only [List.length_append, List.length_cons, List.length_nil]; omega))) (Zv (.string (mkS ((zR c.op) ++ (zG 46 (zT c.v c.parts.toNat))))) (ZN (zH (ZO (Zv (Zp b1 2) (Zv (Zp b1 5) (Zl 1 ⟨b1, (coV c).cells, 142⟩ (off := 5) (.string (mkS c.v.pre)) ?_))))))))
  by_cases h4 : (c.v.pre : List UInt8) = []
  ·refine yO Z5 Kr (kJ (a := c.v.pre) (b := ([])) rfl Kr Kr (decide_eq_true (h4))) (ZX (ZB (ZO (Zv (.string (mkS ((zR c.op) ++ (zG 46 (zT c.v c.parts.toNat))))) (Zv (.string (mkS ((zR c.op) ++ (zG 46 (zT c.v c.parts.toNat))))) (y8 (zJ ?_)))))))
   exact zN (ZF (.string (mkS ((zR c.op) ++ (zG 46 (zT c.v c.parts.toNat))))) Tryz.results215 (fun w hO => ⟨by rw [vI hcm, ← text_bare h3 h4], hO.below⟩))
  refine yO Z4 Kr (kJ (a := c.v.pre) (b := ([])) rfl Kr Kr (decide_eq_false (h4))) (ZY (zF (Zv (.string (mkS ((zR c.op) ++ (zG 46 (zT c.v c.parts.toNat))))) (Zv (Zp b1 2) (Zv (Zp b1 5) (Zl 1 ⟨b1, (coV c).cells, 142⟩ (off := 5) (.string (mkS c.v.pre)) (yO (.string (mkS ([45] ++ c.v.pre))) Kr (bV (a := [45]) (b := c.v.pre) rfl Kr Kr (by have q1 := pA c.op; have q2 := bN hcv c.parts.toNat; have q4 := bM hcv c.parts.toNat; have q3 := hc.1; first | omega | (simp only [List.length_append, List.length_cons, List.length_nil]; omega))) (yO (.string (mkS (((zR c.op) ++ (zG 46 (zT c.v c.parts.toNat))) ++ ([45] ++ c.v.pre)))) Kr (bV (a := ((zR c.op) ++ (zG 46 (zT c.v c.parts.toNat)))) (b := ([45] ++ c.v.pre)) rfl Kr Kr (by have q1 := pA c.op; have q2 := bN hcv c.parts.toNat; have q4 := bM hcv c.parts.toNat; have q3 := hc.1; first | omega | (simp only [List.length_append, List.length_cons, List.length_nil]; omega))) (Zv (.string (mkS (((zR c.op) ++ (zG 46 (zT c.v c.parts.toNat))) ++ ([45] ++ c.v.pre)))) ?_)))))))))
  exact ZR (Zv (.string (mkS (((zR c.op) ++ (zG 46 (zT c.v c.parts.toNat))) ++ ([45] ++ c.v.pre)))) (Zv (.string (mkS (((zR c.op) ++ (zG 46 (zT c.v c.parts.toNat))) ++ ([45] ++ c.v.pre)))) (ZN (zN (ZF (.string (mkS (((zR c.op) ++ (zG 46 (zT c.v c.parts.toNat))) ++ ([45] ++ c.v.pre)))) Tryz.results215 (fun w hO => ⟨by rw [vI hcm, ← text_pre2 h3 h4], hO.below⟩))))))
 | false =>
  refine Zv Z4 (ZY (ZO (Zv (.string ⟨#[]⟩) (ZN (zN (z7 (ZF (.string ⟨#[]⟩) Tryz.results215 ?_)))))))
  exact fun w hO => ⟨by unfold Co.print; simp [h1]; rfl, hO.below⟩
end
section
theorem last_pl {l : List (List UInt8)} (h : 1 ≤ l.length) {x : List UInt8} (hx : tg l (l.length - 1) = x) : l.getLast? = some x := by
 rw [List.getLast?_eq_getElem?, List.getElem?_eq_getElem (by omega), tgi_get (by omega), hx]
theorem guess_is {s r ah tl : List UInt8} {op : Int} {pl : List (List UInt8)} (h1 : (sgo s 8).1 = op) (h2 : (sgo s 8).2 = r) (h3 : (z8 45 r).1 = ah) (h4 : (z8 45 r).2.1 = tl) (h5 : wK 2 ah = pl) {x : List UInt8} (hx : tg pl (pl.length - 1) = x) (hl : 1 ≤ pl.length) :
  vA s = if x = [42] then (⟨9, ((pl.length : Int) - 1), ⟨zK (tg pl 0), zK (tg pl 1), zK (tg pl 2), tl, []⟩⟩ : Co) else (⟨op, (pl.length : Int), ⟨zK (tg pl 0), zK (tg pl 1), zK (tg pl 2), tl, []⟩⟩ : Co) := by
 have hp : jY s = pl := by unfold jY; rw [h2, h3, h5]
 unfold vA starP
 rw [hp, h2, h4, h1, last_pl hl hx]
 by_cases q : x = [42]
 ·rw [if_pos q, q, decide_eq_true rfl]; rfl
 ·rw [if_neg q, decide_eq_false (fun e => q (Option.some.inj e))]; rfl
theorem wX {s pt : List UInt8} {c : Co} (hg : vA s = c) (hp : c.print = pt) (h : pt = s ∨ pt = [94] ++ s) : pcV s = c ∧ pcE s = 0 := by
 have h2 := prog_some (s := s) (by rw [hg, hp]; exact h)
 rw [hg] at h2
 exact pc_some h2
theorem fit_no {s pt : List UInt8} {c : Co} (hg : vA s = c) (hp : c.print = pt) (h1 : ¬ pt = s) (h2 : ¬ pt = [94] ++ s) : pcV s = ⟨0, 0, Ver.zero⟩ ∧ pcE s = 6 :=
 pc_none (prog_none (by rw [hg, hp]; exact fun q => q.elim h1 h2))
theorem cParse_any (s : List UInt8) (W : World) (hs : s.length ≤ 1000000) (ht : HasTab W) : YC 181 #[.string (mkS s)] W (YR (.tuple #[coV (pcV s), YI (pcE s)]) W) := by
 obtain ⟨op, hop⟩ : ∃ x, (sgo s 8).1 = x := ⟨_, rfl⟩
 obtain ⟨r, hr⟩ : ∃ x, (sgo s 8).2 = x := ⟨_, rfl⟩
 obtain ⟨ah, hah⟩ : ∃ x, (z8 45 r).1 = x := ⟨_, rfl⟩
 obtain ⟨tl, htl⟩ : ∃ x, (z8 45 r).2.1 = x := ⟨_, rfl⟩
 obtain ⟨fd, hfd⟩ : ∃ x, (z8 45 r).2.2 = x := ⟨_, rfl⟩
 obtain ⟨pl, hpl⟩ : ∃ x, wK 2 ah = x := ⟨_, rfl⟩
 have hrl : r.length ≤ s.length := hr ▸ sgo_le s 8
 have hal : ah.length + tl.length ≤ r.length := by rw [← hah, ← htl]; exact wU 45 r
 obtain ⟨hp1, hp3⟩ : 1 ≤ pl.length ∧ pl.length ≤ 3 := hpl ▸ pcsK_len 2 ah
 have htp : ∀ x ∈ pl, x.length ≤ 1000000 := fun x hx => by rw [← hpl] at hx; exact Nat.le_trans (pcsK_mem 2 ah x hx) Om
 have hgu := fun {x} (hx : tg pl (pl.length - 1) = x) => guess_is hop hr hah htl hpl hx Om
 have hcs : ∀ w, YC 214 #[.string (mkS s)] w (YR (.tuple #[YI op, .string (mkS r)]) w) := fun w => by have := ccut_any s w hs; rw [hop, hr] at this; exact this
 have hct : ∀ w, YC 112 #[.string (mkS r), .string ⟨#[45]⟩] w (YR (.tuple #[.string (mkS ah), .string (mkS tl), .bool fd]) w) := fun w => ret_v (by rw [hah, htl, hfd]) (wT r 45 w Om)
 have hsp : ∀ w, YC 141 #[.string (mkS ah), .string ⟨#[46]⟩, YI 3] w fun e w' => ∃ v' ob', e = .returned v' ∧ SlT v' pl ob' ∧ Own [] w w' ob' := fun w => by have := splitn_any ah w Om; rw [hpl] at this; exact this
 have hnu : ∀ x ∈ pl, ∀ w, YC 114 #[.string (mkS x)] w (YR (.tuple #[YI (zK x), .bool (vP x)]) w) := fun x hx w => fO x _ rfl w (Nat.le_trans (htp x hx) (by decide))
 have hcl : ∀ w, YC 42 #[.string (mkS tl)] w (YR (.string (mkS tl)) w) := fun w => m4 (mkS tl) w (by rw [yC]; omega)
 have hpr : ∀ (c : Co) w, c.short → Below W.heap.size W w → YC 215 #[coV c] w (YR (.string (mkS c.print)) w) := fun c w hc hb => cPrint_any c w hc (ht.on hb)
 have hsh : ∀ a b c d e, (⟨a, b, ⟨c, d, e, tl, []⟩⟩ : Co).short := fun a b c d e => ⟨by show tl.length ≤ _; omega, Nat.zero_le _⟩
 refine zL Tryz.func181 (zY [] fun b2 => zE (v := .tuple #[YI op, .string (mkS r)]) [] (fun w _ => hcs w) (zE (v := .tuple #[.string (mkS ah), .string (mkS tl), .bool fd]) [] (fun w _ => hct w) (zY [] fun b8 => jX (R := fun v ob => SlT v pl ob) [] (fun w _ => hsp w) ?_)))
 rintro v ob hsl
 obtain ⟨A1, c1, rfl⟩ := hsl.form
 obtain ⟨g1, cur1, rfl, rfl, hc1, hm1, hz1, ht1⟩ := Sl.block hsl Om
 rw [kI] at ht1
 have hrd : ∀ i x, i < pl.length → tg pl i = x → yN Tryz.prog 9 cur1 (i * 1 + 0) = some (.string (mkS x)) := fun i x hi hx => read_part yH ht1 i 0 hi (by decide) _ (by rw [tgi_get hi, hx]; kernel_rfl)
 clear hcs hct hsp ht1 hsl
 obtain ⟨p0, rfl⟩ | ⟨p0, p1, rfl⟩ | ⟨p0, p1, p2, rfl⟩ : (∃ p0, pl = [p0]) ∨ (∃ p0 p1, pl = [p0, p1]) ∨ ∃ p0 p1 p2, pl = [p0, p1, p2] := by
  match pl, hp1, hp3 with
  | [p0], _, _ => exact .inl ⟨p0, rfl⟩
  | [p0, p1], _, _ => exact .inr (.inl ⟨p0, p1, rfl⟩)
  | [p0, p1, p2], _, _ => exact .inr (.inr ⟨p0, p1, p2, rfl⟩)
 ·refine bR 3 [] (tP 33 [] 2 cur1 (0 * 1 + 0) 9 (.string (mkS p0)) (hrd 0 _ (by simp) rfl) (zE (v := .tuple #[YI (zK p0), .bool (vP p0)]) [] (fun w _ => hnu p0 (by simp) w) (zY [0] fun b12 => tP 51 [0] 3 cur1 (0 * 1 + 0) 9 (.string (mkS p0)) (hrd 0 _ (by simp) rfl) (kD 52 [] p0 [42] (fun h3 => ?_) (fun h3 => ?_)))))
  ·obtain ⟨pt, hpt⟩ : ∃ x, Co.print ⟨9, 0, ⟨zK p0, 0, 0, tl, []⟩⟩ = x := ⟨_, rfl⟩
   have hp := fun w hb => hpt ▸ hpr ⟨9, 0, ⟨zK p0, 0, 0, tl, []⟩⟩ w (hsh _ _ _ _ _) hb
   refine zE (v := .string (mkS pt)) [0, 0, 0, 1, 1, 1, 0, 0] (fun w hO => hp w hO.below) (vY 71 [] pt s (fun h4 => ?_) (fun h4 => bT 75 [] [94] s (vY 76 [] pt ([94] ++ s) (fun h5 => ?_) (fun h5 => ?_))))
   ·exact zE (v := .string (mkS tl)) [] (fun w _ => hcl w) (kN [0, 0, 2] 2 (coV (⟨9, 0, ⟨zK p0, 0, 0, tl, []⟩⟩ : Co)) (YI 0) fun w hO => ⟨by have q := wX (c := ⟨9, 0, ⟨zK p0, 0, 0, tl, []⟩⟩) ((hgu (x := p0) rfl).trans (if_pos h3)) hpt (.inl h4); rw [q.1, q.2], hO.below⟩)
   ·exact zE (v := .string (mkS tl)) [] (fun w _ => hcl w) (kN [0, 0, 2] 2 (coV (⟨9, 0, ⟨zK p0, 0, 0, tl, []⟩⟩ : Co)) (YI 0) fun w hO => ⟨by have q := wX (c := ⟨9, 0, ⟨zK p0, 0, 0, tl, []⟩⟩) ((hgu (x := p0) rfl).trans (if_pos h3)) hpt (.inr h5); rw [q.1, q.2], hO.below⟩)
   ·exact kN [2] 2 (coV ⟨0, 0, Ver.zero⟩) (YI 6) fun w hO => ⟨by have q := fit_no (c := ⟨9, 0, ⟨zK p0, 0, 0, tl, []⟩⟩) ((hgu (x := p0) rfl).trans (if_pos h3)) hpt h4 h5; rw [q.1, q.2], hO.below⟩
  obtain ⟨pt, hpt⟩ : ∃ x, Co.print ⟨op, 1, ⟨zK p0, 0, 0, tl, []⟩⟩ = x := ⟨_, rfl⟩
  have hp := fun w hb => hpt ▸ hpr ⟨op, 1, ⟨zK p0, 0, 0, tl, []⟩⟩ w (hsh _ _ _ _ _) hb
  refine zE (v := .string (mkS pt)) [1, 1, 1, 0, 0] (fun w hO => hp w hO.below) (vY 71 [] pt s (fun h4 => ?_) (fun h4 => bT 75 [] [94] s (vY 76 [] pt ([94] ++ s) (fun h5 => ?_) (fun h5 => ?_))))
  ·exact zE (v := .string (mkS tl)) [] (fun w _ => hcl w) (kN [0, 0, 2] 2 (coV (⟨op, 1, ⟨zK p0, 0, 0, tl, []⟩⟩ : Co)) (YI 0) fun w hO => ⟨by have q := wX (c := ⟨op, 1, ⟨zK p0, 0, 0, tl, []⟩⟩) ((hgu (x := p0) rfl).trans (if_neg h3)) hpt (.inl h4); rw [q.1, q.2], hO.below⟩)
  ·exact zE (v := .string (mkS tl)) [] (fun w _ => hcl w) (kN [0, 0, 2] 2 (coV (⟨op, 1, ⟨zK p0, 0, 0, tl, []⟩⟩ : Co)) (YI 0) fun w hO => ⟨by have q := wX (c := ⟨op, 1, ⟨zK p0, 0, 0, tl, []⟩⟩) ((hgu (x := p0) rfl).trans (if_neg h3)) hpt (.inr h5); rw [q.1, q.2], hO.below⟩)
  ·exact kN [2] 2 (coV ⟨0, 0, Ver.zero⟩) (YI 6) fun w hO => ⟨by have q := fit_no (c := ⟨op, 1, ⟨zK p0, 0, 0, tl, []⟩⟩) ((hgu (x := p0) rfl).trans (if_neg h3)) hpt h4 h5; rw [q.1, q.2], hO.below⟩
 ·refine bR 3 [] (tP 33 [] 2 cur1 (0 * 1 + 0) 9 (.string (mkS p0)) (hrd 0 _ (by simp) rfl) (zE (v := .tuple #[YI (zK p0), .bool (vP p0)]) [] (fun w _ => hnu p0 (by simp) w) (tP 33 [0] 2 cur1 (1 * 1 + 0) 9 (.string (mkS p1)) (hrd 1 _ (by simp) rfl) (zE (v := .tuple #[YI (zK p1), .bool (vP p1)]) [] (fun w _ => hnu p1 (by simp) w) (zY [0] fun b12 => tP 51 [0] 3 cur1 (1 * 1 + 0) 9 (.string (mkS p1)) (hrd 1 _ (by simp) rfl) (kD 52 [] p1 [42] (fun h3 => ?_) (fun h3 => ?_)))))))
  ·obtain ⟨pt, hpt⟩ : ∃ x, Co.print ⟨9, 1, ⟨zK p0, zK p1, 0, tl, []⟩⟩ = x := ⟨_, rfl⟩
   have hp := fun w hb => hpt ▸ hpr ⟨9, 1, ⟨zK p0, zK p1, 0, tl, []⟩⟩ w (hsh _ _ _ _ _) hb
   refine zE (v := .string (mkS pt)) [0, 0, 0, 1, 1, 1, 0, 0] (fun w hO => hp w hO.below) (vY 71 [] pt s (fun h4 => ?_) (fun h4 => bT 75 [] [94] s (vY 76 [] pt ([94] ++ s) (fun h5 => ?_) (fun h5 => ?_))))
   ·exact zE (v := .string (mkS tl)) [] (fun w _ => hcl w) (kN [0, 0, 2] 2 (coV (⟨9, 1, ⟨zK p0, zK p1, 0, tl, []⟩⟩ : Co)) (YI 0) fun w hO => ⟨by have q := wX (c := ⟨9, 1, ⟨zK p0, zK p1, 0, tl, []⟩⟩) ((hgu (x := p1) rfl).trans (if_pos h3)) hpt (.inl h4); rw [q.1, q.2], hO.below⟩)
   ·exact zE (v := .string (mkS tl)) [] (fun w _ => hcl w) (kN [0, 0, 2] 2 (coV (⟨9, 1, ⟨zK p0, zK p1, 0, tl, []⟩⟩ : Co)) (YI 0) fun w hO => ⟨by have q := wX (c := ⟨9, 1, ⟨zK p0, zK p1, 0, tl, []⟩⟩) ((hgu (x := p1) rfl).trans (if_pos h3)) hpt (.inr h5); rw [q.1, q.2], hO.below⟩)
   ·exact kN [2] 2 (coV ⟨0, 0, Ver.zero⟩) (YI 6) fun w hO => ⟨by have q := fit_no (c := ⟨9, 1, ⟨zK p0, zK p1, 0, tl, []⟩⟩) ((hgu (x := p1) rfl).trans (if_pos h3)) hpt h4 h5; rw [q.1, q.2], hO.below⟩
  obtain ⟨pt, hpt⟩ : ∃ x, Co.print ⟨op, 2, ⟨zK p0, zK p1, 0, tl, []⟩⟩ = x := ⟨_, rfl⟩
  have hp := fun w hb => hpt ▸ hpr ⟨op, 2, ⟨zK p0, zK p1, 0, tl, []⟩⟩ w (hsh _ _ _ _ _) hb
  refine zE (v := .string (mkS pt)) [1, 1, 1, 0, 0] (fun w hO => hp w hO.below) (vY 71 [] pt s (fun h4 => ?_) (fun h4 => bT 75 [] [94] s (vY 76 [] pt ([94] ++ s) (fun h5 => ?_) (fun h5 => ?_))))
  ·exact zE (v := .string (mkS tl)) [] (fun w _ => hcl w) (kN [0, 0, 2] 2 (coV (⟨op, 2, ⟨zK p0, zK p1, 0, tl, []⟩⟩ : Co)) (YI 0) fun w hO => ⟨by have q := wX (c := ⟨op, 2, ⟨zK p0, zK p1, 0, tl, []⟩⟩) ((hgu (x := p1) rfl).trans (if_neg h3)) hpt (.inl h4); rw [q.1, q.2], hO.below⟩)
  ·exact zE (v := .string (mkS tl)) [] (fun w _ => hcl w) (kN [0, 0, 2] 2 (coV (⟨op, 2, ⟨zK p0, zK p1, 0, tl, []⟩⟩ : Co)) (YI 0) fun w hO => ⟨by have q := wX (c := ⟨op, 2, ⟨zK p0, zK p1, 0, tl, []⟩⟩) ((hgu (x := p1) rfl).trans (if_neg h3)) hpt (.inr h5); rw [q.1, q.2], hO.below⟩)
  ·exact kN [2] 2 (coV ⟨0, 0, Ver.zero⟩) (YI 6) fun w hO => ⟨by have q := fit_no (c := ⟨op, 2, ⟨zK p0, zK p1, 0, tl, []⟩⟩) ((hgu (x := p1) rfl).trans (if_neg h3)) hpt h4 h5; rw [q.1, q.2], hO.below⟩
 ·refine bR 3 [] (tP 33 [] 2 cur1 (0 * 1 + 0) 9 (.string (mkS p0)) (hrd 0 _ (by simp) rfl) (zE (v := .tuple #[YI (zK p0), .bool (vP p0)]) [] (fun w _ => hnu p0 (by simp) w) (tP 33 [0] 2 cur1 (1 * 1 + 0) 9 (.string (mkS p1)) (hrd 1 _ (by simp) rfl) (zE (v := .tuple #[YI (zK p1), .bool (vP p1)]) [] (fun w _ => hnu p1 (by simp) w) (tP 33 [0] 2 cur1 (2 * 1 + 0) 9 (.string (mkS p2)) (hrd 2 _ (by simp) rfl) (zE (v := .tuple #[YI (zK p2), .bool (vP p2)]) [] (fun w _ => hnu p2 (by simp) w) (zY [0] fun b12 => tP 51 [0] 3 cur1 (2 * 1 + 0) 9 (.string (mkS p2)) (hrd 2 _ (by simp) rfl) (kD 52 [] p2 [42] (fun h3 => ?_) (fun h3 => ?_)))))))))
  ·obtain ⟨pt, hpt⟩ : ∃ x, Co.print ⟨9, 2, ⟨zK p0, zK p1, zK p2, tl, []⟩⟩ = x := ⟨_, rfl⟩
   have hp := fun w hb => hpt ▸ hpr ⟨9, 2, ⟨zK p0, zK p1, zK p2, tl, []⟩⟩ w (hsh _ _ _ _ _) hb
   refine zE (v := .string (mkS pt)) [0, 0, 0, 1, 1, 1, 0, 0] (fun w hO => hp w hO.below) (vY 71 [] pt s (fun h4 => ?_) (fun h4 => bT 75 [] [94] s (vY 76 [] pt ([94] ++ s) (fun h5 => ?_) (fun h5 => ?_))))
   ·exact zE (v := .string (mkS tl)) [] (fun w _ => hcl w) (kN [0, 0, 2] 2 (coV (⟨9, 2, ⟨zK p0, zK p1, zK p2, tl, []⟩⟩ : Co)) (YI 0) fun w hO => ⟨by have q := wX (c := ⟨9, 2, ⟨zK p0, zK p1, zK p2, tl, []⟩⟩) ((hgu (x := p2) rfl).trans (if_pos h3)) hpt (.inl h4); rw [q.1, q.2], hO.below⟩)
   ·exact zE (v := .string (mkS tl)) [] (fun w _ => hcl w) (kN [0, 0, 2] 2 (coV (⟨9, 2, ⟨zK p0, zK p1, zK p2, tl, []⟩⟩ : Co)) (YI 0) fun w hO => ⟨by have q := wX (c := ⟨9, 2, ⟨zK p0, zK p1, zK p2, tl, []⟩⟩) ((hgu (x := p2) rfl).trans (if_pos h3)) hpt (.inr h5); rw [q.1, q.2], hO.below⟩)
   ·exact kN [2] 2 (coV ⟨0, 0, Ver.zero⟩) (YI 6) fun w hO => ⟨by have q := fit_no (c := ⟨9, 2, ⟨zK p0, zK p1, zK p2, tl, []⟩⟩) ((hgu (x := p2) rfl).trans (if_pos h3)) hpt h4 h5; rw [q.1, q.2], hO.below⟩
  obtain ⟨pt, hpt⟩ : ∃ x, Co.print ⟨op, 3, ⟨zK p0, zK p1, zK p2, tl, []⟩⟩ = x := ⟨_, rfl⟩
  have hp := fun w hb => hpt ▸ hpr ⟨op, 3, ⟨zK p0, zK p1, zK p2, tl, []⟩⟩ w (hsh _ _ _ _ _) hb
  refine zE (v := .string (mkS pt)) [1, 1, 1, 0, 0] (fun w hO => hp w hO.below) (vY 71 [] pt s (fun h4 => ?_) (fun h4 => bT 75 [] [94] s (vY 76 [] pt ([94] ++ s) (fun h5 => ?_) (fun h5 => ?_))))
  ·exact zE (v := .string (mkS tl)) [] (fun w _ => hcl w) (kN [0, 0, 2] 2 (coV (⟨op, 3, ⟨zK p0, zK p1, zK p2, tl, []⟩⟩ : Co)) (YI 0) fun w hO => ⟨by have q := wX (c := ⟨op, 3, ⟨zK p0, zK p1, zK p2, tl, []⟩⟩) ((hgu (x := p2) rfl).trans (if_neg h3)) hpt (.inl h4); rw [q.1, q.2], hO.below⟩)
  ·exact zE (v := .string (mkS tl)) [] (fun w _ => hcl w) (kN [0, 0, 2] 2 (coV (⟨op, 3, ⟨zK p0, zK p1, zK p2, tl, []⟩⟩ : Co)) (YI 0) fun w hO => ⟨by have q := wX (c := ⟨op, 3, ⟨zK p0, zK p1, zK p2, tl, []⟩⟩) ((hgu (x := p2) rfl).trans (if_neg h3)) hpt (.inr h5); rw [q.1, q.2], hO.below⟩)
  ·exact kN [2] 2 (coV ⟨0, 0, Ver.zero⟩) (YI 6) fun w hO => ⟨by have q := fit_no (c := ⟨op, 3, ⟨zK p0, zK p1, zK p2, tl, []⟩⟩) ((hgu (x := p2) rfl).trans (if_neg h3)) hpt h4 h5; rw [q.1, q.2], hO.below⟩
end
end Go.Proofs.YtjimgokkpcfgpaaGreatDoor
