/-
  What the statements' proofs lean on, part 2: each part begins with a remark that says what it proves and on what conditions.
-/
import Derived.Lib.AppendStr
import Derived.Lib.ItoaNum
import Derived.Lib.ItoaMem
import Derived.Lib.CutLaws
import Derived.Shelf.Small.Bits
import Derived.Shelf.Small.Wraps
import Derived.Shelf.Strconv.Itoa0
import Derived.Shelf.LaysM
import Derived.Shelf.Strconv.Clone
import Derived.Shelf.Strings.Search1
import Derived.Shelf.Strings.Search2
import Derived.Shelf.Strings.Cut
import Derived.Shelf.Strings.Shaped
import Derived.Shelf.Sort.Plain
import Derived.Shelf.Strings.Prefix
import Derived.Shelf.Slices.In.SortNone
import Derived.Ground.SlgfProg
import Derived.Shelf.SlicesQ.IndexFunc
import Derived.Test.YtglbfknmeojfkaaProg
import Derived.Shelf.RegionOpenPlain
import Derived.IntWalk
import Derived.WalkKit
import Derived.Lib.Hide
import Derived.Test.YtglbfknmeojfkaaFA1

section
/-
  A walk in great steps: operations that the kernel alone can't reckon (strings, places in arrays and slices). No condition of their own but what each theorem names.
-/
namespace Go.Proofs.Ytglbfknmeojfkaa
open Go.RowKit
set_option linter.unusedVariables false
set_option linter.unusedSimpArgs false

def oT (o : Oper) : TypeId := match o.op with
  | .index t _ _ => t
  | .indexAddr t _ _ => t
  | .binOp _ t _ _ _ => t
  | .load t _ => t
  | _ => 0
def oU (o : Oper) : TypeId := match o.op with
  | .binOp _ _ _ _ t => t
  | _ => 0
def oX (o : Oper) : Operand := match o.op with
  | .index _ x _ => x
  | .indexAddr _ x _ => x
  | .binOp _ _ x _ _ => x
  | .load _ x => x
  | _ => .tmp 0
def oY (o : Oper) : Operand := match o.op with
  | .index _ _ y => y
  | .indexAddr _ _ y => y
  | .binOp _ _ _ y _ => y
  | _ => .tmp 0
def xAg : Value → Array Value
  | .agg vs => vs
  | _ => #[]
def xEl (P : Program) (t : TypeId) : TypeId := match P.underlying t with
  | some (.array _ e) => e
  | some (.slice e) => e
  | _ => 0
def xW (n : Nat) (c : Xc) : Bool := match c.top with
  | .ops a (o :: _) => want a n c.f o
  | .qps a (o :: _) => want a n c.f o
  | _ => false
section
variable {M : List Nat} {P : Program} {n : Nat} {W : World} {Q : Exit → Act → World → Prop} {c : Xc}
/-- A slot's value by another name, by a proof. -/
theorem x_ren (t : Nat) (h : List Nat) (v0 v : Value) (e : v0 = v) (hg : Good M P n W Q ((xgo P n t h c).st t v)) (hkt : (xgl P n t h c, (xgo P n t h c).f t) = (xgr P n t h c, v0) := by kernel_rfl) : Good M P n W Q c := by
  obtain ⟨hk, hv⟩ := Prod.mk.inj hkt
  exact x_set t h v (hv.trans e) hg hk
/-- A number of 64 bits that does not overflow. -/
theorem x_i (t : Nat) (h : List Nat) (z : Int) (hg : Good M P n W Q ((xgo P n t h c).st t (.int .i64 z))) (hz : -9223372036854775808 ≤ z ∧ z ≤ 9223372036854775807 := by omega)
    (hkt : (xgl P n t h c, (xgo P n t h c).f t) = (xgr P n t h c, .int .i64 (IntKind.i64.wrap z)) := by kernel_rfl) : Good M P n W Q c :=  by
  obtain ⟨hk, hv⟩ := Prod.mk.inj hkt
  exact x_sum t h z (IntWalk.i64_in _ hz) hg hkt
theorem Own.nth {L : List Blk} {w : World} (i : Nat) (x : Blk) (hO : Own M W w L) (h : L[i]? = some x := by kernel_rfl) : Own M W w [x] := hO.take (fun y hy => by rw [List.mem_singleton.1 hy]; exact List.mem_of_getElem? h) (by simp)
theorem Own.past {L : List Blk} {w : World} (i : Nat) (L' : List Blk) (hO : Own M W w L) (h : L.drop i = L' := by kernel_rfl) : Own M W w L' := by
  rw [← h]
  exact Own.sub (L.take i) (by rw [List.take_append_drop]; exact hO)
theorem Own.cast {L L' : List Blk} {w : World} (hO : Own M W w L) (e : L = L') : Own M W w L' := e ▸ hO
theorem Own.no {L : List Blk} {w : World} (hO : Own M W w L) : Own M W w [] := hO.take (fun y hy => by simp at hy) (by simp)
theorem put_val {v : Value} (hw : xW n c = true) (hr : ∀ w, (execOp (ev n c.f) (xO c)).run P w = .ok (.value v) w) (hg : Good M P n W Q (c.put v)) : Good M P n W Q c := by
  obtain ⟨top, kk, L, f⟩ := c
  unfold xW at hw
  unfold Xc.put at hg
  cases top with
  | ops a r => cases r with
    | nil => cases hw
    | cons o r => exact ⟨fun hq => s_val v hw hr (hg.go hq)⟩
  | qps a r => cases r with
    | nil => cases hw
    | cons o r => exact ⟨fun hq => q_val v hw hr (hg.go hq)⟩
  | _ => cases hw
/-- A value that a proof tells: of the operation that writes slot d. -/
theorem x_val (d : Nat) (h : List Nat) (v : Value) (hr : ∀ w, (execOp (ev n (xgo P n (d + 50000) h c).f) (xO (xgo P n (d + 50000) h c))).run P w = .ok (.value v) w) (hg : Good M P n W Q ((xgo P n (d + 50000) h c).put v))
    (hkt : (xgl P n (d + 50000) h c, xW n (xgo P n (d + 50000) h c)) = (xgr P n (d + 50000) h c, true) := by kernel_rfl) : Good M P n W Q c :=  by
  obtain ⟨hk, hw⟩ := Prod.mk.inj hkt
  exact xgo_ok h c hk (put_val hw hr hg)
theorem x_idx (d : Nat) (h : List Nat) (g : Nat → List UInt8) (k N : Nat) (hN : k < N) (hg : Good M P n W Q ((xgo P n (d + 50000) h c).put (.string (mkS (g k)))))
    (hk : xgl P n (d + 50000) h c = xgr P n (d + 50000) h c := by kernel_rfl)
    (hp : ((List.range N).map fun i => fun w => (part (xEl P (oT (xO (xgo P n (d + 50000) h c)))) (xAg (ev n (xgo P n (d + 50000) h c).f (oX (xO (xgo P n (d + 50000) h c))))) i).run P w) = (List.range N).map fun i => (fun w => .ok (.string (mkS (g i))) w) := by kernel_rfl)
    (ht : (xW n (xgo P n (d + 50000) h c), (xO (xgo P n (d + 50000) h c)).op, ev n (xgo P n (d + 50000) h c).f (oX (xO (xgo P n (d + 50000) h c))), ev n (xgo P n (d + 50000) h c).f (oY (xO (xgo P n (d + 50000) h c))), P.underlying (oT (xO (xgo P n (d + 50000) h c))), (P.info? (xEl P (oT (xO (xgo P n (d + 50000) h c))))).map (·.size))
      = (true, .index (oT (xO (xgo P n (d + 50000) h c))) (oX (xO (xgo P n (d + 50000) h c))) (oY (xO (xgo P n (d + 50000) h c))), .agg (xAg (ev n (xgo P n (d + 50000) h c).f (oX (xO (xgo P n (d + 50000) h c))))), .int .i64 (k : Int), some (.array N (xEl P (oT (xO (xgo P n (d + 50000) h c))))), some 1) := by kernel_rfl) : Good M P n W Q c := by
  simp only [Prod.mk.injEq] at ht
  obtain ⟨e1, e2, e3, e4, e5, e6⟩ := ht
  refine xgo_ok h c hk (put_val e1 (run_idxg g hN e2 e3 e4 e5 (fun i hi w => ?_) e6) hg)
  have := congrFun (List.map_inj_left.1 hp i (List.mem_range.2 hi)) w
  exact this
/-- Two strings put together. -/
theorem x_cat (d : Nat) (h : List Nat) (a b : List UInt8) (hg : Good M P n W Q ((xgo P n (d + 50000) h c).put (.string (mkS (a ++ b))))) (hb : a.length + b.length ≤ 4000000000 := by (try simp only [List.length_append, List.length_cons, List.length_nil]); omega)
    (hkt : (xgl P n (d + 50000) h c, (xW n (xgo P n (d + 50000) h c), (xO (xgo P n (d + 50000) h c)).op, ev n (xgo P n (d + 50000) h c).f (oX (xO (xgo P n (d + 50000) h c))), ev n (xgo P n (d + 50000) h c).f (oY (xO (xgo P n (d + 50000) h c))))) = (xgr P n (d + 50000) h c, (true, .binOp .add (oT (xO (xgo P n (d + 50000) h c))) (oX (xO (xgo P n (d + 50000) h c))) (oY (xO (xgo P n (d + 50000) h c))) (oU (xO (xgo P n (d + 50000) h c))), .string (mkS a), .string (mkS b))) := by kernel_rfl) : Good M P n W Q c := by
  obtain ⟨hk, ht⟩ := Prod.mk.inj hkt
  simp only [Prod.mk.injEq] at ht
  exact xgo_ok h c hk (put_val ht.1 (run_stradd ht.2.1 ht.2.2.1 ht.2.2.2 hb) hg)
def xPb : Value → Nat
  | .pointer (some a) => a.block
  | _ => 0
def xOi (i : Nat) (c : Xc) : Oper := (xA c).getD i default
def xHn (c : Xc) (i : Nat) (v : Value) : Xc := ⟨.hps (xA c) ((xS c).setIfInBounds i true) (xU c) (xL0 c), c.k, c.L, upd c.f (xOi i c).dst v⟩
/-- May the operation i be taken first? -/
def xFree (n : Nat) (i : Nat) (c : Xc) : XTop × Option Oper × Bool × Bool × Bool × Bool :=
  (c.top, (xA c)[i]?, want (xA c) n c.f (xOi i c), Region.noSelect (xA c), Region.free .any (xA c) (xS c) i, (Region.ready .any (xA c) (xS c)).contains i)
def xFreeR (i : Nat) (c : Xc) : XTop × Option Oper × Bool × Bool × Bool × Bool := (.hps (xA c) (xS c) (xU c + 1) (xL0 c), some (xOi i c), true, true, true, true)
theorem xtake {i : Nat} {v : Value} (hv : ∀ w, Own M W w (xL0 c) → (execOp (ev n c.f) (xOi i c)).run P w = .ok (.value v) w) (hg : Good M P n W Q (xHn c i v)) (hf : xFree n i c = xFreeR i c) : Good M P n W Q c := by
  simp only [xFree, xFreeR, Prod.mk.injEq] at hf
  obtain ⟨e1, e2, e3, e4, e5, e6⟩ := hf
  have : c = ⟨.hps (xA c) (xS c) (xU c + 1) (xL0 c), c.k, c.L, c.f⟩ := by rw [← e1]
  rw [this]
  exact ⟨fun hq hs => hl_take i _ v e2 e4 e5 e6 (pq_KQ hq c.k) hs e3 hv (hg.go hq hs)⟩
/-- The address of an element of an array of one's own, in a drawn region. -/
theorem xh_ixa (t : Nat) (h : List Nat) (i N k sz : Nat) (hN : k < N) (hg : Good M P n W Q (xHn (xgo P n t h c) i (.pointer (some ⟨xPb (ev n (xgo P n t h c).f (oX (xOi i (xgo P n t h c)))), xOff (ev n (xgo P n t h c).f (oX (xOi i (xgo P n t h c)))) + (k : Int).toNat * sz, none⟩))))
    (hkt : (xgl P n t h c, xFree n i (xgo P n t h c), (xOi i (xgo P n t h c)).op, ev n (xgo P n t h c).f (oX (xOi i (xgo P n t h c))), ev n (xgo P n t h c).f (oY (xOi i (xgo P n t h c))), P.underlying (oT (xOi i (xgo P n t h c))), (P.info? (xEl P (oT (xOi i (xgo P n t h c))))).map (·.size))
      = (xgr P n t h c, xFreeR i (xgo P n t h c), .indexAddr (oT (xOi i (xgo P n t h c))) (oX (xOi i (xgo P n t h c))) (oY (xOi i (xgo P n t h c))), .pointer (some ⟨xPb (ev n (xgo P n t h c).f (oX (xOi i (xgo P n t h c)))), xOff (ev n (xgo P n t h c).f (oX (xOi i (xgo P n t h c)))), none⟩), .int .i64 (k : Int), some (.array N (xEl P (oT (xOi i (xgo P n t h c))))), some sz) := by kernel_rfl) : Good M P n W Q c := by
  simp only [Prod.mk.injEq] at hkt
  obtain ⟨hk, e1, e2, e3, e4, e5, e6⟩ := hkt
  exact xgo_ok h c hk (xtake (fun w _ => run_ixarr e2 e3 e4 e5 e6 (by omega) (by omega) rfl w) hg e1)
/-- A load out of what is held, at a place that a proof knows, in a drawn region. -/
theorem xh_ldk (t : Nat) (h : List Nat) (i q : Nat) (cs : Array Value) (off : Nat) (ty : TypeId) (v : Value) (hv : readAt P ty cs off = some v) (hg : Good M P n W Q (xHn (xgo P n t h c) i v))
    (hkt : (xgl P n t h c, xFree n i (xgo P n t h c), (xOi i (xgo P n t h c)).op, (xL0 (xgo P n t h c))[q]?, (xBlk (xL0 (xgo P n t h c)) q).cs, ev n (xgo P n t h c).f (oX (xOi i (xgo P n t h c))))
      = (xgr P n t h c, xFreeR i (xgo P n t h c), .load ty (oX (xOi i (xgo P n t h c))), some (xBlk (xL0 (xgo P n t h c)) q), cs, .pointer (some ⟨(xBlk (xL0 (xgo P n t h c)) q).b, off, none⟩)) := by kernel_rfl) : Good M P n W Q c := by
  simp only [Prod.mk.injEq] at hkt
  obtain ⟨hk, e1, e2, e3, e4, e5⟩ := hkt
  exact xgo_ok h c hk (xtake (fun w hO => run_load_op e2 e5 (run_readAt (by rw [e4]; exact hv) (hO.get e3))) hg e1)
def aT (o : Oper) : TypeId := match o.op with
  | .call c => c.argTypes.getD 0 0
  | _ => 0
def aX (o : Oper) (i : Nat) : Operand := match o.op with
  | .call c => c.args.getD i (.tmp 0)
  | _ => .tmp 0
def aOp (o : Oper) : Op := .call { callee := .builtin .append, args := #[aX o 0, aX o 1], argTypes := #[aT o, aT o] }
def aInfo (P : Program) (T : TypeId) : Option (Bool × Nat × Option Nat) := (P.info? T).map fun i => (Nat.ble i.bytes 1000000, i.size, i.zero.map fun z => z.cells.size)
def aNext (c : Xc) (L : List Blk) (v : Value) : Xc := ⟨.hps (xA c) ((hS c).setIfInBounds (hI c) true) (hU c) (hL c), c.k, L, upd c.f (xO c).dst v⟩
theorem hs_take' {ops : Array Oper} {L L' L0 : List Blk} {u i : Nat} {s : Array Bool} {f : Nat → Value} (hs : ∀ w, Own M W w L → Own M W w L') (h : HStep M P n ops W L0 Q u s i L' f) : HStep M P n ops W L0 Q u s i L f := ⟨fun w hO => h.go w (hs w hO)⟩
theorem aInfo_is {T : TypeId} {sz : Nat} (h : aInfo P T = some (true, sz, some sz)) : ∃ i z, P.info? T = some i ∧ i.zero = some z ∧ i.size = sz ∧ z.cells.size = sz ∧ i.bytes ≤ 1000000 := by
  unfold aInfo at h
  cases hi : P.info? T with
  | none => rw [hi] at h; cases h
  | some i =>
    rw [hi] at h
    simp only [Option.map_some, Option.some.injEq, Prod.mk.injEq] at h
    obtain ⟨h1, h2, h3⟩ := h
    cases hz : i.zero with
    | none => rw [hz] at h3; cases h3
    | some z => rw [hz] at h3; exact ⟨i, z, rfl, hz, h2, Option.some.inj h3, Nat.le_of_ble_eq_true h1⟩
/-- append of a literal (block number q of E, all of it) to a slice of one's own, in a drawn region. -/
theorem xh_app {T : TypeId} {sz k m cp : Nat} {v : Value} {xs : List Value} (E ob R : List Blk) (q : Nat) (L1 L0 : List Blk) (hs : ∀ w, Own M W w L1 → Own M W w (E ++ ob ++ R)) (hsub : ∀ ob' w, Own M W w (E ++ ob' ++ R) → Own M W w L0) (hv : Sl T sz v k xs ob) (hN : k + m ≤ 1000000)
    (hg : ∀ v' ob', Sl T sz v' (k + m) (xs ++ (xBlk E q).cs.toList) ob' → Good M P n W Q (aNext c (E ++ ob' ++ R) v'))
    (hkt : (c.L, hL c, c.top, (xA c)[hI c]?, want (xA c) n c.f (xO c), (xO c).op, ev n c.f (aX (xO c) 0), ev n c.f (aX (xO c) 1), E[q]?, P.underlying (aT (xO c)), aInfo P T, (xBlk E q).cs.toList.length, (xBlk E q).cs.toList.all fun u => u.oneCell')
      = (L1, L0, .hst (xA c) (hS c) (hU c) (hL c) (hI c), some (xO c), true, aOp (xO c), v, .slice (some ⟨(xBlk E q).b, 0, none⟩) m cp, some (xBlk E q), some (.slice T), some (true, sz, some sz), m * sz, true) := by kernel_rfl) : Good M P n W Q c := by
  simp only [Prod.mk.injEq] at hkt
  obtain ⟨f1, f2, e1, e2, e3, e4, e5, e6, e7, e8, e9, e10, e11⟩ := hkt
  rw [← f1] at hs
  rw [← f2] at hsub
  have : c = ⟨.hst (xA c) (hS c) (hU c) (hL c) (hI c), c.k, c.L, c.f⟩ := by rw [← e1]
  rw [this]
  obtain ⟨i, z, hi, hz, hsz, hzs, hby⟩ := aInfo_is e9
  refine ⟨fun hq hs0 => hs_take' hs (hl_append (E := E) (ob := ob) (R := R) (xO c) e2 e3 e4 e8 hi hz hsz hzs e5 hv e6 e10 (fun w hO j u hj => ?_) (List.all_eq_true.1 e11) ?_ ?_ hsub fun v' ob' h => (hg v' ob' h).go hq (hsub ob'))⟩
  · have hmem : xBlk E q ∈ E ++ ob ++ R := List.mem_append_left _ (List.mem_append_left _ (List.mem_of_getElem? e7))
    rw [add_off, cell_of_row w _ _ _ _ _ (hO.held _ hmem), Nat.zero_add]
    simpa using hj
  · unfold maxLen; omega
  · have := Nat.mul_le_mul hN hby; omega
theorem put_read {v : Value} (hw : xW n c = true) (hr : ∀ w, Own M W w c.L → (execOp (ev n c.f) (xO c)).run P w = .ok (.value v) w) (hg : Good M P n W Q (c.put v)) : Good M P n W Q c := by
  obtain ⟨top, kk, L, f⟩ := c
  unfold xW at hw
  unfold Xc.put at hg
  cases top with
  | ops a r => cases r with
    | nil => cases hw
    | cons o r => exact ⟨fun hq => s_read v hw hr (hg.go hq)⟩
  | qps a r => cases r with
    | nil => cases hw
    | cons o r => exact ⟨fun hq => q_read v hw hr (hg.go hq)⟩
  | _ => cases hw
/-- The address of element j of a slice that came in. -/
theorem x_ixA (d : Nat) (h : List Nat) {A : Option Addr} {b off : Nat} (hA : A = some ⟨b, off, none⟩) (N cp j sz : Nat) (hj : j < N) (hg : Good M P n W Q ((xgo P n (d + 50000) h c).put (.pointer (some ⟨b, off + (j : Int).toNat * sz, none⟩))))
    (hkt : (xgl P n (d + 50000) h c, xW n (xgo P n (d + 50000) h c), (xO (xgo P n (d + 50000) h c)).op, ev n (xgo P n (d + 50000) h c).f (oX (xO (xgo P n (d + 50000) h c))), ev n (xgo P n (d + 50000) h c).f (oY (xO (xgo P n (d + 50000) h c))), P.underlying (oT (xO (xgo P n (d + 50000) h c))), (P.info? (xEl P (oT (xO (xgo P n (d + 50000) h c))))).map (·.size))
      = (xgr P n (d + 50000) h c, true, .indexAddr (oT (xO (xgo P n (d + 50000) h c))) (oX (xO (xgo P n (d + 50000) h c))) (oY (xO (xgo P n (d + 50000) h c))), .slice A N cp, .int .i64 (j : Int), some (.slice (xEl P (oT (xO (xgo P n (d + 50000) h c))))), some sz) := by kernel_rfl) : Good M P n W Q c := by
  simp only [Prod.mk.injEq] at hkt
  obtain ⟨hk, e1, e2, e3, e4, e5, e6⟩ := hkt
  exact xgo_ok h c hk (put_val e1 (fun w => run_ixA e2 e3 hA e4 e5 e6 (by omega) (by omega) rfl w) hg)
/-- A load of what was there before the call. -/
theorem x_old (d : Nat) (h : List Nat) (ty : TypeId) (b o : Nat) (v : Value) (hv : ∀ w, Own M W w (xgo P n (d + 50000) h c).L → (loadVar ty ⟨b, o, none⟩).run P w = .ok v w) (hg : Good M P n W Q ((xgo P n (d + 50000) h c).put v))
    (hkt : (xgl P n (d + 50000) h c, xW n (xgo P n (d + 50000) h c), (xO (xgo P n (d + 50000) h c)).op, ev n (xgo P n (d + 50000) h c).f (oX (xO (xgo P n (d + 50000) h c)))) = (xgr P n (d + 50000) h c, true, .load ty (oX (xO (xgo P n (d + 50000) h c))), .pointer (some ⟨b, o, none⟩)) := by kernel_rfl) : Good M P n W Q c := by
  simp only [Prod.mk.injEq] at hkt
  obtain ⟨hk, e1, e2, e3⟩ := hkt
  exact xgo_ok h c hk (put_read e1 (fun w hO => run_load_op e2 e3 (hv w hO)) hg)
/-- Are two strings alike? -/
theorem x_seq (d : Nat) (h : List Nat) (s u : List UInt8) (h1 : s = u → Good M P n W Q ((xgo P n (d + 50000) h c).put (.bool true))) (h2 : ¬ s = u → Good M P n W Q ((xgo P n (d + 50000) h c).put (.bool false)))
    (hkt : (xgl P n (d + 50000) h c, xW n (xgo P n (d + 50000) h c), (xO (xgo P n (d + 50000) h c)).op, ev n (xgo P n (d + 50000) h c).f (oX (xO (xgo P n (d + 50000) h c))), ev n (xgo P n (d + 50000) h c).f (oY (xO (xgo P n (d + 50000) h c)))) = (xgr P n (d + 50000) h c, true, .binOp .eql (oT (xO (xgo P n (d + 50000) h c))) (oX (xO (xgo P n (d + 50000) h c))) (oY (xO (xgo P n (d + 50000) h c))) (oU (xO (xgo P n (d + 50000) h c))), .string (mkS s), .string (mkS u)) := by kernel_rfl) : Good M P n W Q c := by
  simp only [Prod.mk.injEq] at hkt
  obtain ⟨hk, e1, e2, e3, e4⟩ := hkt
  by_cases hp : s = u
  · exact xgo_ok h c hk (put_val e1 (fun w => run_streql e2 e3 e4 (decide_eq_true hp) w) (h1 hp))
  · exact xgo_ok h c hk (put_val e1 (fun w => run_streql e2 e3 e4 (decide_eq_false hp) w) (h2 hp))
theorem x_sne (d : Nat) (h : List Nat) (s u : List UInt8) (h1 : s = u → Good M P n W Q ((xgo P n (d + 50000) h c).put (.bool false))) (h2 : ¬ s = u → Good M P n W Q ((xgo P n (d + 50000) h c).put (.bool true)))
    (hkt : (xgl P n (d + 50000) h c, xW n (xgo P n (d + 50000) h c), (xO (xgo P n (d + 50000) h c)).op, ev n (xgo P n (d + 50000) h c).f (oX (xO (xgo P n (d + 50000) h c))), ev n (xgo P n (d + 50000) h c).f (oY (xO (xgo P n (d + 50000) h c)))) = (xgr P n (d + 50000) h c, true, .binOp .neq (oT (xO (xgo P n (d + 50000) h c))) (oX (xO (xgo P n (d + 50000) h c))) (oY (xO (xgo P n (d + 50000) h c))) (oU (xO (xgo P n (d + 50000) h c))), .string (mkS s), .string (mkS u)) := by kernel_rfl) : Good M P n W Q c := by
  simp only [Prod.mk.injEq] at hkt
  obtain ⟨hk, e1, e2, e3, e4⟩ := hkt
  by_cases hp : s = u
  · exact xgo_ok h c hk (put_val e1 (fun w => run_strneq e2 e3 e4 (decide_eq_true hp) w) (h1 hp))
  · exact xgo_ok h c hk (put_val e1 (fun w => run_strneq e2 e3 e4 (decide_eq_false hp) w) (h2 hp))
def xBo : Value → Bool
  | .bool b => b
  | _ => false
/-- A test of which nothing is said. -/
theorem x_tst (t : Nat) (h : List Nat) (h1 : Good M P n W Q ((xgo P n t h c).st t (.bool true))) (h2 : Good M P n W Q ((xgo P n t h c).st t (.bool false)))
    (hkt : (xgl P n t h c, (xgo P n t h c).f t) = (xgr P n t h c, .bool (xBo ((xgo P n t h c).f t))) := by kernel_rfl) : Good M P n W Q c := by
  obtain ⟨hk, hv⟩ := Prod.mk.inj hkt
  cases hb : xBo ((xgo P n t h c).f t) with
  | true => rw [hb] at hv; exact x_set t h _ hv h1 hk
  | false => rw [hb] at hv; exact x_set t h _ hv h2 hk
/-- The same in a drawn region. -/
theorem xh_ixA (t : Nat) (h : List Nat) (i : Nat) {A : Option Addr} {b off : Nat} (hA : A = some ⟨b, off, none⟩) (N cp j sz : Nat) (hj : j < N) (hg : Good M P n W Q (xHn (xgo P n t h c) i (.pointer (some ⟨b, off + (j : Int).toNat * sz, none⟩))))
    (hkt : (xgl P n t h c, xFree n i (xgo P n t h c), (xOi i (xgo P n t h c)).op, ev n (xgo P n t h c).f (oX (xOi i (xgo P n t h c))), ev n (xgo P n t h c).f (oY (xOi i (xgo P n t h c))), P.underlying (oT (xOi i (xgo P n t h c))), (P.info? (xEl P (oT (xOi i (xgo P n t h c))))).map (·.size))
      = (xgr P n t h c, xFreeR i (xgo P n t h c), .indexAddr (oT (xOi i (xgo P n t h c))) (oX (xOi i (xgo P n t h c))) (oY (xOi i (xgo P n t h c))), .slice A N cp, .int .i64 (j : Int), some (.slice (xEl P (oT (xOi i (xgo P n t h c))))), some sz) := by kernel_rfl) : Good M P n W Q c := by
  simp only [Prod.mk.injEq] at hkt
  obtain ⟨hk, e1, e2, e3, e4, e5, e6⟩ := hkt
  exact xgo_ok h c hk (xtake (fun w _ => run_ixA e2 e3 hA e4 e5 e6 (by omega) (by omega) rfl w) hg e1)
theorem xh_old (t : Nat) (h : List Nat) (i : Nat) (ty : TypeId) (b o : Nat) (v : Value) (hv : ∀ w, Own M W w (xL0 (xgo P n t h c)) → (loadVar ty ⟨b, o, none⟩).run P w = .ok v w) (hg : Good M P n W Q (xHn (xgo P n t h c) i v))
    (hkt : (xgl P n t h c, xFree n i (xgo P n t h c), (xOi i (xgo P n t h c)).op, ev n (xgo P n t h c).f (oX (xOi i (xgo P n t h c)))) = (xgr P n t h c, xFreeR i (xgo P n t h c), .load ty (oX (xOi i (xgo P n t h c))), .pointer (some ⟨b, o, none⟩)) := by kernel_rfl) : Good M P n W Q c := by
  simp only [Prod.mk.injEq] at hkt
  obtain ⟨hk, e1, e2, e3⟩ := hkt
  exact xgo_ok h c hk (xtake (fun w hO => run_load_op e2 e3 (hv w hO)) hg e1)
theorem xh_cat (t : Nat) (h : List Nat) (i : Nat) (a b : List UInt8) (hg : Good M P n W Q (xHn (xgo P n t h c) i (.string (mkS (a ++ b))))) (hb : a.length + b.length ≤ 4000000000 := by (try simp only [List.length_append, List.length_cons, List.length_nil]); omega)
    (hkt : (xgl P n t h c, xFree n i (xgo P n t h c), (xOi i (xgo P n t h c)).op, ev n (xgo P n t h c).f (oX (xOi i (xgo P n t h c))), ev n (xgo P n t h c).f (oY (xOi i (xgo P n t h c))))
      = (xgr P n t h c, xFreeR i (xgo P n t h c), .binOp .add (oT (xOi i (xgo P n t h c))) (oX (xOi i (xgo P n t h c))) (oY (xOi i (xgo P n t h c))) (oU (xOi i (xgo P n t h c))), .string (mkS a), .string (mkS b)) := by kernel_rfl) : Good M P n W Q c := by
  simp only [Prod.mk.injEq] at hkt
  obtain ⟨hk, e1, e2, e3, e4⟩ := hkt
  exact xgo_ok h c hk (xtake (fun w _ => run_stradd e2 e3 e4 hb w) hg e1)
/-- An element of what came in. -/
theorem Reads.elem {α : Type} {g : α → List Value} {sz : Nat} (hg : ∀ x, (g x).length = sz) {A : Option Addr} {l : List α} {B : Nat} (h : Reads g W B A l) (j : Nat) (hj : j < l.length) : ∃ b off, A = some ⟨b, off, none⟩ ∧ ∀ w, Below B W w → ∀ (ty : TypeId) (fo : Nat) (v : Value), readAt P ty ((g l[j]).drop fo).toArray 0 = some v → (loadVar ty ⟨b, off + j * sz + fo, none⟩).run P w = .ok v w := by
  obtain ⟨b, off, e, hb, hc⟩ := h (by omega)
  refine ⟨b, off, e, fun w hw ty fo v hr => elem_load hg (fun k u hu => ?_) j fo hj rfl v hr⟩
  have := hc k u hu
  rw [← this]
  unfold World.cell?
  rw [hw.block b hb]
/-- The address of an element of an array of one's own. -/
theorem x_ixa (d : Nat) (h : List Nat) (N k sz : Nat) (hN : k < N) (hg : Good M P n W Q ((xgo P n (d + 50000) h c).put (.pointer (some ⟨xPb (ev n (xgo P n (d + 50000) h c).f (oX (xO (xgo P n (d + 50000) h c)))), xOff (ev n (xgo P n (d + 50000) h c).f (oX (xO (xgo P n (d + 50000) h c)))) + (k : Int).toNat * sz, none⟩))))
    (hkt : (xgl P n (d + 50000) h c, xW n (xgo P n (d + 50000) h c), (xO (xgo P n (d + 50000) h c)).op, ev n (xgo P n (d + 50000) h c).f (oX (xO (xgo P n (d + 50000) h c))), ev n (xgo P n (d + 50000) h c).f (oY (xO (xgo P n (d + 50000) h c))), P.underlying (oT (xO (xgo P n (d + 50000) h c))), (P.info? (xEl P (oT (xO (xgo P n (d + 50000) h c))))).map (·.size))
      = (xgr P n (d + 50000) h c, true, .indexAddr (oT (xO (xgo P n (d + 50000) h c))) (oX (xO (xgo P n (d + 50000) h c))) (oY (xO (xgo P n (d + 50000) h c))), .pointer (some ⟨xPb (ev n (xgo P n (d + 50000) h c).f (oX (xO (xgo P n (d + 50000) h c)))), xOff (ev n (xgo P n (d + 50000) h c).f (oX (xO (xgo P n (d + 50000) h c)))), none⟩), .int .i64 (k : Int), some (.array N (xEl P (oT (xO (xgo P n (d + 50000) h c))))), some sz) := by kernel_rfl) : Good M P n W Q c := by
  simp only [Prod.mk.injEq] at hkt
  obtain ⟨hk, e1, e2, e3, e4, e5, e6⟩ := hkt
  exact xgo_ok h c hk (put_val e1 (fun w => run_ixarr e2 e3 e4 e5 e6 (by omega) (by omega) rfl w) hg)
/-- A load out of what is held, at a place that a proof knows. -/
theorem x_ldk (d : Nat) (h : List Nat) (q : Nat) (cs : Array Value) (off : Nat) (ty : TypeId) (v : Value) (hv : readAt P ty cs off = some v) (hg : Good M P n W Q ((xgo P n (d + 50000) h c).put v))
    (hkt : (xgl P n (d + 50000) h c, xW n (xgo P n (d + 50000) h c), (xO (xgo P n (d + 50000) h c)).op, (xgo P n (d + 50000) h c).L[q]?, (xBlk (xgo P n (d + 50000) h c).L q).cs, ev n (xgo P n (d + 50000) h c).f (oX (xO (xgo P n (d + 50000) h c)))) = (xgr P n (d + 50000) h c, true, .load ty (oX (xO (xgo P n (d + 50000) h c))), some (xBlk (xgo P n (d + 50000) h c).L q), cs, .pointer (some ⟨(xBlk (xgo P n (d + 50000) h c).L q).b, off, none⟩)) := by kernel_rfl) : Good M P n W Q c := by
  simp only [Prod.mk.injEq] at hkt
  obtain ⟨hk, e1, e2, e3, e4, e5⟩ := hkt
  exact xgo_ok h c hk (put_read e1 (fun w hO => run_load_op e2 e5 (run_readAt (by rw [e4]; exact hv) (hO.get e3))) hg)
/-- append of a literal (block number q of E, all of it) to a slice of one's own. -/
theorem x_app {T : TypeId} {sz k m cp : Nat} {v : Value} {xs : List Value} (h : List Nat) (E ob R : List Blk) (q : Nat) (L1 : List Blk) (hs : ∀ w, Own M W w L1 → Own M W w (E ++ ob ++ R)) (hv : Sl T sz v k xs ob) (hN : k + m ≤ 1000000)
    (hg : ∀ v' ob', Sl T sz v' (k + m) (xs ++ (xBlk E q).cs.toList) ob' → Good M P n W Q ⟨.ops (xA (xgo P n nS h c)) (xT (xgo P n nS h c)), (xgo P n nS h c).k, E ++ ob' ++ R, upd (xgo P n nS h c).f (xO (xgo P n nS h c)).dst v'⟩)
    (hkt : (xgl P n nS h c, (xgo P n nS h c).L, (xgo P n nS h c).top, want (xA (xgo P n nS h c)) n (xgo P n nS h c).f (xO (xgo P n nS h c)), (xO (xgo P n nS h c)).op, ev n (xgo P n nS h c).f (aX (xO (xgo P n nS h c)) 0), ev n (xgo P n nS h c).f (aX (xO (xgo P n nS h c)) 1), E[q]?, P.underlying (aT (xO (xgo P n nS h c))), aInfo P T, (xBlk E q).cs.toList.length, (xBlk E q).cs.toList.all fun u => u.oneCell')
      = (xgr P n nS h c, L1, .ops (xA (xgo P n nS h c)) (xO (xgo P n nS h c) :: xT (xgo P n nS h c)), true, aOp (xO (xgo P n nS h c)), v, .slice (some ⟨(xBlk E q).b, 0, none⟩) m cp, some (xBlk E q), some (.slice T), some (true, sz, some sz), m * sz, true) := by kernel_rfl) : Good M P n W Q c := by
  simp only [Prod.mk.injEq] at hkt
  obtain ⟨hk, f1, e1, e3, e4, e5, e6, e7, e8, e9, e10, e11⟩ := hkt
  refine xgo_ok h c hk ?_
  generalize (xgo P n nS h c) = d at *
  rw [← f1] at hs
  have : d = ⟨.ops (xA d) (xO d :: xT d), d.k, d.L, d.f⟩ := by rw [← e1]
  rw [this]
  obtain ⟨i, z, hi, hz, hsz, hzs, hby⟩ := aInfo_is e9
  refine ⟨fun hq => s_take hs (s_append (E := E) (ob := ob) (L0 := R) e3 e4 e8 hi hz hsz hzs e5 hv e6 e10 (fun w hO j u hj => ?_) (List.all_eq_true.1 e11) ?_ ?_ fun v' ob' h => (hg v' ob' h).go hq)⟩
  · have hmem : xBlk E q ∈ E ++ ob ++ R := List.mem_append_left _ (List.mem_append_left _ (List.mem_of_getElem? e7))
    rw [add_off, cell_of_row w _ _ _ _ _ (hO.held _ hmem), Nat.zero_add]
    simpa using hj
  · unfold maxLen; omega
  · have := Nat.mul_le_mul hN hby; omega
end

end Go.Proofs.Ytglbfknmeojfkaa
end

section
/-
  Great steps that go on in the world as it then is, as a new entry world: operations and calls that change it otherwise than by cells of one's own (maps), loops whose rounds carry it. No condition of its own.
-/
namespace Go.Proofs.Ytglbfknmeojfkaa
open Go.RowKit
set_option linter.unusedVariables false
set_option linter.unusedSimpArgs false

/-- Nothing that stands behind speaks of the entry world. -/
def xNl : List XIt → Bool
  | [] => true
  | .lp _ _ :: _ => false
  | _ :: k => xNl k
theorem KQ_any {M M' : List Nat} {P : Program} {n : Nat} {W W' : World} {Q : Exit → Act → World → Prop} : ∀ {k : List XIt}, xNl k = true → KQ M P n W Q k = KQ M' P n W' Q k
  | [], _ => rfl
  | .lp _ _ :: _, h => by cases h
  | .code c :: k, h => by unfold KQ; rw [KQ_any (k := k) h]
  | .blk _ :: k, h => by unfold KQ; rw [KQ_any (k := k) h]
  | .tl _ _ :: k, h => by unfold KQ; rw [KQ_any (k := k) h]
  | .rd _ _ :: k, h => by unfold KQ; rw [KQ_any (k := k) h]
theorem pq_of {M : List Nat} {P : Program} {n : Nat} {W : World} {Q : Exit → Act → World → Prop} : ∀ {k : List XIt}, PQ (KQ M P n W Q k) → PQ Q
  | [], h => h
  | .lp _ _ :: k, h => pq_of (k := k) fun c a d v w q => h c a d v w q
  | .code c :: k, h => pq_of (k := k) fun c a d v w q => h c a d v w q
  | .blk _ :: k, h => pq_of (k := k) fun c a d v w q => h c a d v w q
  | .tl _ _ :: k, h => pq_of (k := k) fun c a d v w q => h c a d v w q
  | .rd _ _ :: k, h => pq_of (k := k) fun c a d v w q => h c a d v w q
def xOut : Exit → Bool
  | .exit _ => true
  | .ret => true
  | _ => false
section
variable {M : List Nat} {P : Program} {n : Nat} {W : World} {Q : Exit → Act → World → Prop} {c : Xc}
theorem wp_skip {K : Act → World → Prop} {o : Oper} {f : Nat → Value} {w w' : World} (hr : (execOp (ev n f) o).run P w = .ok .skip w') (h : K (Fr n (upd f o.dst undef)) w') : o.wp P (Fr n f) w K Q := by
  unfold Oper.wp
  rw [Fr_eval, hr]
  show K ((Fr n f).put o.dst undef) w'
  rw [Fr_put]; exact h
/-- What goes on behind an operation. -/
def xNx (d : Xc) (L' : List Blk) (v : Value) : Xc := ⟨.ops (xA d) (xT d), d.k, L', upd d.f (xO d).dst v⟩
/-- An operation that gives a value and may change the world. -/
theorem x_opW (h : List Nat) (hs : ∀ w, Own M W w (xgo P n nS h c).L → ∃ v w' M' L', (execOp (ev n (xgo P n nS h c).f) (xO (xgo P n nS h c))).run P w = .ok (.value v) w' ∧ Own M' w' w' L' ∧ Good M' P n w' Q (xNx (xgo P n nS h c) L' v))
    (hkt : (xgl P n nS h c, (xgo P n nS h c).top, want (xA (xgo P n nS h c)) n (xgo P n nS h c).f (xO (xgo P n nS h c)), xNl (xgo P n nS h c).k) = (xgr P n nS h c, .ops (xA (xgo P n nS h c)) (xO (xgo P n nS h c) :: xT (xgo P n nS h c)), true, true) := by kernel_rfl) : Good M P n W Q c := by
  simp only [Prod.mk.injEq] at hkt
  obtain ⟨hk, e1, e2, e3⟩ := hkt
  refine xgo_ok h c hk ?_
  generalize xgo P n nS h c = d at *
  have : d = ⟨.ops (xA d) (xO d :: xT d), d.k, d.L, d.f⟩ := by rw [← e1]
  rw [this]
  refine ⟨fun hq => s_step e2 fun w hO => ?_⟩
  obtain ⟨v, w', M', L', hr, hO', hg⟩ := hs w hO
  refine wp_val v hr ?_
  have := (hg.go hq).go w' hO'
  rw [KQ_any (M := M) (W := W) (M' := M') (W' := w') e3]; exact this
/-- An operation that gives no value. -/
theorem x_opS (h : List Nat) (hs : ∀ w, Own M W w (xgo P n nS h c).L → ∃ w' M' L', (execOp (ev n (xgo P n nS h c).f) (xO (xgo P n nS h c))).run P w = .ok .skip w' ∧ Own M' w' w' L' ∧ Good M' P n w' Q (xNx (xgo P n nS h c) L' undef))
    (hkt : (xgl P n nS h c, (xgo P n nS h c).top, want (xA (xgo P n nS h c)) n (xgo P n nS h c).f (xO (xgo P n nS h c)), xNl (xgo P n nS h c).k) = (xgr P n nS h c, .ops (xA (xgo P n nS h c)) (xO (xgo P n nS h c) :: xT (xgo P n nS h c)), true, true) := by kernel_rfl) : Good M P n W Q c := by
  simp only [Prod.mk.injEq] at hkt
  obtain ⟨hk, e1, e2, e3⟩ := hkt
  refine xgo_ok h c hk ?_
  generalize xgo P n nS h c = d at *
  have : d = ⟨.ops (xA d) (xO d :: xT d), d.k, d.L, d.f⟩ := by rw [← e1]
  rw [this]
  refine ⟨fun hq => s_step e2 fun w hO => ?_⟩
  obtain ⟨w', M', L', hr, hO', hg⟩ := hs w hO
  refine wp_skip hr ?_
  have := (hg.go hq).go w' hO'
  rw [KQ_any (M := M) (W := W) (M' := M') (W' := w') e3]; exact this
/-- A call, whatever it does to the world. -/
theorem x_callW {k : FuncId} {args : Array Value} (h : List Nat) (hs : ∀ w, Own M W w (xgo P n nS h c).L → Calls P k args w fun e w' => ∃ v M' L', e = .returned v ∧ Own M' w' w' L' ∧ Good M' P n w' Q (xNx (xgo P n nS h c) L' v))
    (hkt : (xgl P n nS h c, (xgo P n nS h c).top, want (xA (xgo P n nS h c)) n (xgo P n nS h c).f (xO (xgo P n nS h c)), xNl (xgo P n nS h c).k, xEnt P n (xgo P n nS h c)) = (xgr P n nS h c, .ops (xA (xgo P n nS h c)) (xO (xgo P n nS h c) :: xT (xgo P n nS h c)), true, true, fun w => .ok (.enter k args) w) := by kernel_rfl) : Good M P n W Q c := by
  simp only [Prod.mk.injEq] at hkt
  obtain ⟨hk, e1, e2, e3, e4⟩ := hkt
  refine xgo_ok h c hk ?_
  generalize xgo P n nS h c = d at *
  generalize hA : xA d = a at e1 e2
  generalize hOo : xO d = o at e1 e2
  generalize hT : xT d = r at e1
  obtain ⟨top, kk, L, f⟩ := d
  dsimp only at e1
  subst e1
  unfold xEnt at e4
  dsimp only at e2 e4
  rw [e2] at e4
  refine ⟨fun hq => s_step e2 fun w hO => wp_enter (congrFun e4 w) ((hs w hO).mono fun e w' ⟨v, M', L', q1, q2, q3⟩ => ⟨v, q1, ?_⟩)⟩
  have := (q3.go hq).go w' q2
  rw [KQ_any (M := M) (W := W) (M' := M') (W' := w') e3]
  rw [← hA, ← hOo, ← hT]; exact this
theorem ok_loopW' {c : Code} {L : List Blk} {f : Nat → Value} (Inv : World → (Nat → Value) → Nat → Prop) (m : Nat) (h0 : ∀ w, Own M W w L → Inv w f m) (h : ∀ w f m, Inv w f m → Code.wp P c (RoundW n Inv m Q) (Fr n f) w) : Ok M P n W Q (.loop c) L f := ⟨fun w hO => by
  intro b k cs
  have run : ∀ (m : Nat) (f : Nat → Value) (w : World), Inv w f m → ∃ e a' w', Q e a' w' ∧ Arrives P (lone (b.at (Fr n f) (.code c :: .inLoop c :: k)) cs w) b k cs e a' w' := by
    intro m
    induction m using Nat.strongRecOn with
    | _ m ih =>
      intro f w hI
      obtain ⟨e, a₁, w₁, hq, harr⟩ := h w f m hI b (.inLoop c :: k) cs
      cases e with
      | normal =>
        obtain ⟨f', m', hlt, hI', rfl⟩ := hq
        obtain ⟨e₂, a₂, w₂, hq₂, harr₂⟩ := ih m' hlt f' w₁ hI'
        exact ⟨e₂, a₂, w₂, hq₂, .of_steps (Steps.trans harr (.one step_inLoop)) harr₂⟩
      | exit id => exact ⟨_, a₁, w₁, hq, .pass (x := .inLoop c) rfl (fun _ _ => .inl (by simp)) harr⟩
      | goto l => exact ⟨_, a₁, w₁, hq, .pass (x := .inLoop c) rfl (fun _ _ => .inl (by simp)) harr⟩
      | ret => exact ⟨_, a₁, w₁, hq, .pass (x := .inLoop c) rfl (fun _ _ => .inl (by simp)) harr⟩
      | panic ch => exact ⟨_, a₁, w₁, hq, .pass (x := .inLoop c) rfl (fun _ _ => .inl (by simp)) harr⟩
      | outgrown => exact ⟨_, a₁, w₁, hq, .pass (x := .inLoop c) rfl (fun _ _ => .inl (by simp)) harr⟩
  obtain ⟨e, a', w', hq, harr⟩ := run m f w (h0 w hO)
  exact ⟨e, a', w', hq, .of_steps (.one step_loop) harr⟩⟩
theorem pq_roundW {Inv : World → (Nat → Value) → Nat → Prop} {m : Nat} (h : PQ Q) : PQ (RoundW n Inv m Q) := fun c a d v w h2 => h c a d v w h2
/-- A loop: what holds at each round's head (x: what changes; in the world w). -/
def xIW (n : Nat) {α : Type} (lv : α → List (Nat × Value)) (Mf : α → List Nat) (Lf : α → List Blk) (rel : α → World → Nat → Prop) : World → (Nat → Value) → Nat → Prop := fun w f m => ∃ x, rel x w m ∧ Own (Mf x) w w (Lf x) ∧ Agrees f (lv x)
theorem x_loopW {α : Type} (lv : α → List (Nat × Value)) (Mf : α → List Nat) (Lf : α → List Blk) (rel : α → World → Nat → Prop) (x0 : α) (m0 : Nat) (h : List Nat) (h0 : ∀ w, Own M W w (xgo P n nS h c).L → rel x0 w m0 ∧ Own (Mf x0) w w (Lf x0))
    (hg : ∀ x w m g, rel x w m → Own (Mf x) w w (Lf x) → Good (Mf x) P n w (RoundW n (xIW n lv Mf Lf rel) m (KQ M P n W Q (xgo P n nS h c).k)) ⟨.code (xBody (xgo P n nS h c)), [], Lf x, upds g (lv x)⟩)
    (hkt : (xgl P n nS h c, (xgo P n nS h c).top, xV (xgo P n nS h c).f (lv x0)) = (xgr P n nS h c, .code (.loop (xBody (xgo P n nS h c))), (lv x0).map Prod.snd) := by kernel_rfl) : Good M P n W Q c := by
  simp only [Prod.mk.injEq] at hkt
  obtain ⟨hk, e1, e2⟩ := hkt
  refine xgo_ok h c hk ?_
  generalize xgo P n nS h c = d at *
  have : d = ⟨.code (.loop (xBody d)), d.k, d.L, d.f⟩ := by rw [← e1]
  rw [this]
  refine ⟨fun hq => ok_loopW' (M := M) (W := W) (xIW n lv Mf Lf rel) m0 (fun w hO => ⟨x0, (h0 w hO).1, (h0 w hO).2, agrees_of e2⟩) fun w f m ⟨x, hr, hO, hA⟩ => ?_⟩
  have hx := hg x w m f hr hO
  rw [← upds_self _ hA] at hx
  exact (hx.go (pq_roundW (pq_KQ hq d.k))).go w hO
/-- A round's end. -/
theorem x_nxW {α : Type} {lv : α → List (Nat × Value)} {Mf : α → List Nat} {Lf : α → List Blk} {rel : α → World → Nat → Prop} {m : Nat} (x' : α) (m' : Nat) (h : List Nat) (hlt : m' < m) (hs : ∀ w, Own M W w (xgo P n nS h c).L → rel x' w m' ∧ Own (Mf x') w w (Lf x'))
    (hkt : (xgl P n nS h c, (xgo P n nS h c).top, (xgo P n nS h c).k, xV (xgo P n nS h c).f (lv x')) = (xgr P n nS h c, .fin .normal, [], (lv x').map Prod.snd) := by kernel_rfl) : Good M P n W (RoundW n (xIW n lv Mf Lf rel) m Q) c := by
  simp only [Prod.mk.injEq] at hkt
  obtain ⟨hk, e1, e2, e3⟩ := hkt
  refine xgo_ok h c hk ?_
  generalize xgo P n nS h c = d at *
  have : d = ⟨.fin .normal, [], d.L, d.f⟩ := by rw [← e1, ← e2]
  rw [this]
  exact ⟨fun _ => fin_roundW hlt fun w hO => ⟨x', (hs w hO).1, (hs w hO).2, agrees_of e3⟩⟩
/-- A way out of the loop, in the world at hand. -/
theorem x_outW {M0 : List Nat} {W0 : World} {k : List XIt} {Inv : World → (Nat → Value) → Nat → Prop} {m : Nat} (e : Exit) (h : List Nat) (hg : Good M P n W Q ⟨.fin e, k, (xgo P n nS h c).L, (xgo P n nS h c).f⟩) (he : xOut e = true)
    (hkt : (xgl P n nS h c, (xgo P n nS h c).top, (xgo P n nS h c).k, xNl k) = (xgr P n nS h c, .fin e, [], true) := by kernel_rfl) : Good M P n W (RoundW n Inv m (KQ M0 P n W0 Q k)) c := by
  simp only [Prod.mk.injEq] at hkt
  obtain ⟨hk, e1, e2, e3⟩ := hkt
  refine xgo_ok h c hk ?_
  generalize xgo P n nS h c = d at *
  have : d = ⟨.fin e, [], d.L, d.f⟩ := by rw [← e1, ← e2]
  rw [this]
  refine ⟨fun hq => ⟨fun w hO => ?_⟩⟩
  have hq' : PQ Q := pq_of (k := k) (M := M0) (W := W0) (P := P) (n := n) fun c a dd v w h2 => hq c a dd v w h2
  have hf := (hg.go hq').go w hO
  rw [KQ_any (M := M) (W := W) (M' := M0) (W' := W0) e3] at hf
  cases e with
  | exit id => exact hf
  | ret => exact hf
  | _ => cases he
end

end Go.Proofs.Ytglbfknmeojfkaa
end

section
/-
  append of a string's bytes to a slice of bytes of the call's own. No condition of its own but the bounds that the theorem names.
-/
namespace Go.Proofs.Ytglbfknmeojfkaa
open Go.RowKit
set_option linter.unusedVariables false
set_option linter.unusedSimpArgs false

section
variable {M : List Nat} {P : Program} {W w : World} {E ob L0 : List Blk}
end
section
variable {M : List Nat} {P : Program} {n0 : Nat} {ops : Array Oper} {W : World} {Q : Exit → Act → World → Prop} {rest : List Oper} {o : Oper} {E ob L0 : List Blk} {f : Nat → Value}
end
section
variable {M : List Nat} {P : Program} {n : Nat} {W : World} {L : List Blk} {f : Nat → Value}
/-- The end of a function without results. -/
theorem fin_none {fn : Func} {R : Ending → World → Prop} (hres : fn.results = #[]) (hR : ∀ w, Own M W w L → R (.returned (.tuple #[])) w) : Fin M n W (bodyPost P fn R) .normal L f := ⟨fun w hO =>
  bodyPost_end (results_none hres _ _ _) rfl (hR w hO)⟩
theorem fin_none_ret {fn : Func} {R : Ending → World → Prop} (hres : fn.results = #[]) (hR : ∀ w, Own M W w L → R (.returned (.tuple #[])) w) : Fin M n W (bodyPost P fn R) .ret L f := ⟨fun w hO =>
  bodyPost_ret (results_none hres _ _ _) rfl (hR w hO)⟩
end

end Go.Proofs.Ytglbfknmeojfkaa
end

section
/-
  Great steps: ends of functions with no, three, four results; a beginning with lent memory; a value that hangs on what is held. No condition of their own.
-/
namespace Go.Proofs.Ytglbfknmeojfkaa
open Go.RowKit
set_option linter.unusedVariables false
set_option linter.unusedSimpArgs false

section
variable {M : List Nat} {P : Program} {n : Nat} {W : World} {Q : Exit → Act → World → Prop} {c : Xc}
theorem x_enterL {M : List Nat} {L : List Blk} {k : FuncId} {fn : Func} {args : Array Value} {R : Ending → World → Prop} (hO : Own M W W L) (hf : P.funcs[k]? = some fn) (hg : Good M P fn.ntmps W (bodyPost P fn R) ⟨.code (fn.body.getD .skip), [], L, fun t => args.getD t undef⟩)
    (hb : fn.body.isSome = true := by kernel_rfl) (hle : Nat.ble args.size fn.ntmps = true := by kernel_rfl) : Calls P k args W R := by
  cases hb' : fn.body with
  | none => rw [hb'] at hb; cases hb
  | some b => rw [hb'] at hg; exact calls_okL hO hf hb' rfl hle (hg.go pq_body)
theorem x_ret3 {fn : Func} {R : Ending → World → Prop} (h : List Nat) (v v' v2 : Value) (hR : ∀ w, Own M W w (xgo P n nS h c).L → R (.returned (.tuple #[v, v', v2])) w)
    (hkt : (xgl P n nS h c, ((xgo P n nS h c).top, (xgo P n nS h c).k, fn.results, ev n (xgo P n nS h c).f (.tmp (xRt fn 0)), ev n (xgo P n nS h c).f (.tmp (xRt fn 1)), ev n (xgo P n nS h c).f (.tmp (xRt fn 2)))) = (xgr P n nS h c, (.fin .ret, [], #[.tmp (xRt fn 0), .tmp (xRt fn 1), .tmp (xRt fn 2)], v, v', v2)) := by kernel_rfl) : Good M P n W (bodyPost P fn R) c := by
  obtain ⟨hk, ht⟩ := Prod.mk.inj hkt
  refine xgo_ok h c hk ?_
  generalize xgo P n nS h c = d at hR ht ⊢
  obtain ⟨top, kk, L, f⟩ := d
  simp only [Prod.mk.injEq] at ht
  obtain ⟨rfl, rfl, e3, e4, e5, e6⟩ := ht
  exact ⟨fun _ => fin_ret3 v v' v2 e3 e4 e5 e6 hR⟩
theorem x_ret4 {fn : Func} {R : Ending → World → Prop} (h : List Nat) (v v' v2 v3 : Value) (hR : ∀ w, Own M W w (xgo P n nS h c).L → R (.returned (.tuple #[v, v', v2, v3])) w)
    (hkt : (xgl P n nS h c, ((xgo P n nS h c).top, (xgo P n nS h c).k, fn.results, ev n (xgo P n nS h c).f (.tmp (xRt fn 0)), ev n (xgo P n nS h c).f (.tmp (xRt fn 1)), ev n (xgo P n nS h c).f (.tmp (xRt fn 2)), ev n (xgo P n nS h c).f (.tmp (xRt fn 3)))) = (xgr P n nS h c, (.fin .ret, [], #[.tmp (xRt fn 0), .tmp (xRt fn 1), .tmp (xRt fn 2), .tmp (xRt fn 3)], v, v', v2, v3)) := by kernel_rfl) : Good M P n W (bodyPost P fn R) c := by
  obtain ⟨hk, ht⟩ := Prod.mk.inj hkt
  refine xgo_ok h c hk ?_
  generalize xgo P n nS h c = d at hR ht ⊢
  obtain ⟨top, kk, L, f⟩ := d
  simp only [Prod.mk.injEq] at ht
  obtain ⟨rfl, rfl, e3, e4, e5, e6, e7⟩ := ht
  exact ⟨fun _ => fin_ret4 v v' v2 v3 e3 e4 e5 e6 e7 hR⟩
theorem x_ret0 {fn : Func} {R : Ending → World → Prop} (h : List Nat) (hR : ∀ w, Own M W w (xgo P n nS h c).L → R (.returned (.tuple #[])) w)
    (hkt : (xgl P n nS h c, (xgo P n nS h c).top, (xgo P n nS h c).k, fn.results) = (xgr P n nS h c, .fin .ret, [], #[]) := by kernel_rfl) : Good M P n W (bodyPost P fn R) c := by
  simp only [Prod.mk.injEq] at hkt
  obtain ⟨hk, e1, e2, e3⟩ := hkt
  refine xgo_ok h c hk ?_
  generalize xgo P n nS h c = d at *
  obtain ⟨top, kk, L, f⟩ := d
  dsimp only at e1 e2
  subst e1; subst e2
  exact ⟨fun _ => fin_none_ret e3 hR⟩
theorem x_end0 {fn : Func} {R : Ending → World → Prop} (h : List Nat) (hR : ∀ w, Own M W w (xgo P n nS h c).L → R (.returned (.tuple #[])) w)
    (hkt : (xgl P n nS h c, (xgo P n nS h c).top, (xgo P n nS h c).k, fn.results) = (xgr P n nS h c, .fin .normal, [], #[]) := by kernel_rfl) : Good M P n W (bodyPost P fn R) c := by
  simp only [Prod.mk.injEq] at hkt
  obtain ⟨hk, e1, e2, e3⟩ := hkt
  refine xgo_ok h c hk ?_
  generalize xgo P n nS h c = d at *
  obtain ⟨top, kk, L, f⟩ := d
  dsimp only at e1 e2
  subst e1; subst e2
  exact ⟨fun _ => fin_none e3 hR⟩
/-- A slot that has just been written, at once. -/
theorem x_nowb (t : Nat) (b : Bool) (h1 : b = true → Good M P n W Q (c.st t (.bool true))) (h2 : b = false → Good M P n W Q (c.st t (.bool false))) (hv : c.f t = .bool b := by kernel_rfl) : Good M P n W Q c := by
  cases b with
  | true =>
    have h := h1 rfl
    unfold Xc.st at h
    rw [← upd_self hv] at h
    exact h
  | false =>
    have h := h2 rfl
    unfold Xc.st at h
    rw [← upd_self hv] at h
    exact h
end
/-- What is held in the end as it was held in the beginning: nothing of what was there has changed. -/
theorem Own.same {M : List Nat} {w w1 : World} {L : List Blk} (h0 : Own M w w L) (h : Own M w w1 L) (hM : ∀ m ∈ M, ∃ x ∈ L, x.b = m) : Below w.heap.size w w1 :=
  ⟨h.os, h.tape, h.output, h.size, h.drawn, fun k hk => by
    by_cases hm : k ∈ M
    · obtain ⟨x, hx, rfl⟩ := hM k hm
      rw [h.held x hx, h0.held x hx]
    · exact h.kept k hk hm⟩
theorem Own.and {M : List Nat} {W w w' : World} (h : Own M W w []) (h' : Own M w w' []) : Own M W w' [] :=
  ⟨h'.os.trans h.os, h'.tape.trans h.tape, h'.output.trans h.output, Nat.le_trans h.size h'.size, Nat.le_trans h.drawn h'.drawn, fun k hk hm => (h'.kept k (Nat.lt_of_lt_of_le hk h.size) hm).trans (h.kept k hk hm), by simp, by simp, by simp⟩
theorem Own.more {M M' : List Nat} {W w : World} (h : Own M W w []) (hM : ∀ m ∈ M, m ∈ M') : Own M' W w [] :=
  ⟨h.os, h.tape, h.output, h.size, h.drawn, fun k hk hm => h.kept k hk (fun q => hm (hM k q)), by simp, by simp, by simp⟩
/-- Written is at most what stands at B or above. -/
theorem Own.under {M : List Nat} {W w : World} {B : Nat} {L : List Blk} (h : Own M W w L) (hM : ∀ m ∈ M, B ≤ m) (hB : B ≤ W.heap.size) : Below B W w :=
  ⟨h.os, h.tape, h.output, h.size, h.drawn, fun k hk => h.kept k (Nat.lt_of_lt_of_le hk hB) (fun q => by have := hM k q; omega)⟩
theorem Below.no {W w : World} (h : Below W.heap.size W w) : Own [] W w [] := ⟨h.os, h.tape, h.output, h.size, h.drawn, fun k hk _ => h.block k hk, by simp, by simp, by simp⟩
end Go.Proofs.Ytglbfknmeojfkaa
end

section
/-
  Plain: the check of a marker's nodes, what a marker says of a platform, what is left of it under what is known (chapter 10). No program is named here.
-/
namespace Go.Proofs.Ytglbfknmeojfkaa
set_option linter.unusedVariables false
set_option linter.unusedSimpArgs false

/-! ### The check of the nodes -/
def leafB (n : Nd) : Bool := decide (n.op = 1) && decide (0 ≤ n.key) && decide (n.key < 3) && wdL n.text && decide (n.a = 0) && decide (n.b = 0)
def bareB (n : Nd) : Bool := decide (n.key = 0) && decide (n.text = [])
def isNot (st : List (Nat × Tr)) (n : Nd) : Bool := match st with
  | p :: _ => decide (n.op = 2) && bareB n && decide (n.a = (p.1 : Int)) && decide (n.b = 0)
  | [] => false
def isBin (st : List (Nat × Tr)) (n : Nd) : Bool := match st with
  | p :: q :: _ => (decide (n.op = 3) || decide (n.op = 4)) && bareB n && decide (n.a = (q.1 : Int)) && decide (n.b = (p.1 : Int))
  | _ => false
/-- One node; the last open tree stands first. -/
def stp (i : Nat) (st : List (Nat × Tr)) (n : Nd) : Option (List (Nat × Tr)) :=
  if leafB n then some ((i, .is n.key.toNat n.text) :: st)
  else if isNot st n then (match st with | p :: r => some ((i, .no p.2) :: r) | [] => none)
  else if isBin st n then (match st with | p :: q :: r => some ((i, if n.op = 3 then .both q.2 p.2 else .one q.2 p.2) :: r) | _ => none)
  else none
def runT : Nat → List (Nat × Tr) → List Nd → Option (List (Nat × Tr))
  | _, st, [] => some st
  | i, st, n :: r => match stp i st n with | some s => runT (i + 1) s r | none => none
def treeOf (l : List Nd) : Option Tr := match runT 0 [] l with
  | some [p] => some p.2
  | _ => none
/-- The open trees, the last first, are what the nodes so far hold. -/
def Lies : List (Nat × Tr) → List Nd → Prop
  | [], l => l = []
  | p :: r, l => ∃ l0, Lies r l0 ∧ p.2.ok = true ∧ p.1 = l0.length + p.2.sz - 1 ∧ l = l0 ++ p.2.enc l0.length
/-- A valid marker. -/
def mayM (l : List Nd) : Bool := match treeOf l with
  | some t => decide (t.sz ≤ 15) && decide (t.text.length ≤ 96)
  | none => decide (l = [])
/-! ### What a marker says -/
abbrev Pf := Nat → List UInt8
def evT (e : Pf) : Tr → Int
  | .is k t => if e k = [] then 1 else if e k = t then 2 else 0
  | .no x => 2 - evT e x
  | .both x y => min (evT e x) (evT e y)
  | .one x y => max (evT e x) (evT e y)
/-- The values of all nodes. -/
def vlT (e : Pf) : Tr → List Int
  | .is k t => [evT e (.is k t)]
  | .no x => vlT e x ++ [evT e (.no x)]
  | .both x y => vlT e x ++ vlT e y ++ [evT e (.both x y)]
  | .one x y => vlT e x ++ vlT e y ++ [evT e (.one x y)]
/-- More is known. -/
def Ext (e g : Pf) : Prop := ∀ k, e k ≠ [] → g k = e k
/-! ### What is left -/
def leftT (e : Pf) : Tr → Tr
  | .is k t => .is k t
  | .no x => .no (leftT e x)
  | .both x y => if evT e y ≠ 1 then leftT e x else if evT e x ≠ 1 then leftT e y else .both (leftT e x) (leftT e y)
  | .one x y => if evT e y ≠ 1 then leftT e x else if evT e x ≠ 1 then leftT e y else .one (leftT e x) (leftT e y)
/-- The keys that a tree asks. -/
def Asks (p : Nat → Prop) : Tr → Prop
  | .is k _ => p k
  | .no x => Asks p x
  | .both x y => Asks p x ∧ Asks p y
  | .one x y => Asks p x ∧ Asks p y
/-- Where all is known: logic. -/
def truthT (e : Pf) : Tr → Bool
  | .is k t => decide (e k = t)
  | .no x => !truthT e x
  | .both x y => truthT e x && truthT e y
  | .one x y => truthT e x || truthT e y
end Go.Proofs.Ytglbfknmeojfkaa
end

section
/-
  Plain: the texts of markers: their lengths, that they are read back; what Parse, Print, Eval and Under return (chapter 10). No program is named here.
-/
namespace Go.Proofs.Ytglbfknmeojfkaa
set_option linter.unusedVariables false
set_option linter.unusedSimpArgs false

/-! ### Lengths -/
def tl : List Tok → Nat
  | [] => 0
  | x :: r => x.length + 1 + tl r
def Tr.w (t : Tr) : Nat := tl t.tok
def Tr.w1 (t : Tr) : Nat := t.w + if t.isOne then 4 else 0
def Tr.w2 (t : Tr) : Nat := t.w + if t.isBin then 4 else 0
/-! ### What the four functions return -/
def printM (l : List Nd) : List UInt8 := if mayM l then (match treeOf l with | some t => t.text | none => []) else []
def wordsM (s : List UInt8) : List Tok := splitL 32 [] s
/-- A tree that may be a marker. -/
def Tr.fit (t : Tr) : Bool := decide (t.sz ≤ 15) && decide (t.text.length ≤ 96)
def readM (s : List UInt8) : Option Tr := match pOr (wordsM s).length (wordsM s) with
  | some (t, []) => if t.fit then some t else none
  | _ => none
def errM (s : List UInt8) : Int := if 96 < s.length then 3 else if s = [] then 0 else match readM s with | some _ => 0 | none => 7
def nodM (s : List UInt8) : List Nd := if 96 < s.length then [] else if s = [] then [] else match readM s with | some t => t.enc 0 | none => []
def pfOk (e : Pf) : Bool := (decide (e 0 = []) || wdL (e 0)) && (decide (e 1 = []) || wdL (e 1)) && (decide (e 2 = []) || wdL (e 2))
def evalM (l : List Nd) (e : Pf) : Int := if mayM l && pfOk e then (match treeOf l with | some t => evT e t | none => 2) else 0
def underM (l : List Nd) (e : Pf) : List Nd := if evalM l e = 1 then (match treeOf l with | some t => (leftT e t).enc 0 | none => []) else []
/-! ### Texts are read back -/
theorem wordGo_no {b : UInt8} (hb : wdB b.toNat = false) : ∀ (l : List UInt8), wordGo l = true → b ∉ l
  | [], _ => by simp
  | c :: r, h => by
    have hc : wdB c.toNat = true := by
      unfold wordGo at h
      unfold wdB
      rw [Bool.and_eq_true] at h; exact h.1
    rw [wordGo_ok c r hc] at h
    intro hm
    rcases List.mem_cons.1 hm with e | hm
    · subst e; rw [hb] at hc; cases hc
    · exact wordGo_no hb r h hm
theorem wdL_no {s : List UInt8} {b : UInt8} (hb : wdB b.toNat = false) (h : wdL s = true) : b ∉ s := by
  unfold wdL at h
  rw [Bool.and_eq_true] at h; exact wordGo_no hb s h.2
/-- What is read is made of words. -/
def Oks (part : List Tok → Option (Tr × List Tok)) : Prop := ∀ ts t r, part ts = some (t, r) → t.ok = true
/-! ### In brackets; two together -/
end Go.Proofs.Ytglbfknmeojfkaa
end

section
/-
  strings.Clone returns the string itself (for at most 2^48 bytes); nothing that was there is changed.
-/
namespace Go.Proofs.Ytglbfknmeojfkaa
open Go.RowKit
set_option maxRecDepth 100000
set_option linter.unusedVariables false
set_option linter.unusedSimpArgs false

theorem infoByte9 : (Try.prog.info? 5).map (fun i => (i.zero.map (·.cells.size), i.size, i.bytes)) = some (some 1, 1, 1) := by kernel_rfl
theorem byte_info : ∃ i z, Try.prog.info? 5 = some i ∧ i.zero = some z ∧ i.size = 1 ∧ z.cells.size = 1 ∧ i.bytes = 1 := by
  have h := infoByte9
  cases hi : Try.prog.info? 5 with
  | none => rw [hi] at h; cases h
  | some i =>
    rw [hi] at h
    simp only [Option.map_some, Option.some.injEq, Prod.mk.injEq] at h
    cases hz : i.zero with
    | none => rw [hz] at h; simp at h
    | some z => rw [hz] at h; simp at h; exact ⟨i, z, rfl, hz, h.2.1, h.1, h.2.2⟩
theorem empty_of {s : ByteArray} (h : (s.size : Int) = 0) : s = ⟨#[]⟩ := by
  have h2 : s.data.size = 0 := Int.ofNat.inj h
  exact ByteArray.ext (Array.eq_empty_of_size_eq_zero h2)

theorem sclone_any (s : ByteArray) (w : World) (hs : s.size ≤ 281474976710656) :
    Calls Try.prog 52 #[.string s] w fun e w' => e = .returned (.string s) ∧ Below w.heap.size w w' := by
  refine calls_ok (n := 18) Try.func52 rfl (by kernel_rfl) (by kernel_rfl) ?_
  refine ok_seq ?_
  refine ok_region ?_
  refine s_val (.string ⟨#[]⟩) (by kernel_rfl) (fun _ => by kernel_rfl) ?_
  refine s_nil ?_
  refine fin_seq ?_
  refine ok_seq ?_
  refine ok_seq ?_
  refine ok_region ?_
  refine s_val (.string s) (by kernel_rfl) (fun _ => by kernel_rfl) ?_
  refine s_val (.int .i64 ((s).size)) (by kernel_rfl) (fun _ => by kernel_rfl) ?_
  by_cases h1 : ((s).size : Int) = 0
  · skip
    refine s_dec (p := ((s).size : Int) = 0) true (by kernel_rfl) (fun _ => by kernel_rfl) (decide_eq_true (h1)) ?_
    refine s_nil ?_
    refine fin_seq ?_
    refine ok_true (by kernel_rfl) ?_
    refine ok_seq ?_
    refine ok_region ?_
    refine s_val (.string ⟨#[]⟩) (by kernel_rfl) (fun _ => by kernel_rfl) ?_
    refine s_nil ?_
    refine fin_seq ?_
    refine ok_ret ?_
    refine fin_seq_ret ?_
    refine fin_ret (.string ⟨#[]⟩) Try.results52 (by kernel_rfl) ?_
    exact fun w hO => ⟨by rw [empty_of (s := s) (by assumption)], hO.below⟩
  · skip
    refine s_dec (p := ((s).size : Int) = 0) false (by kernel_rfl) (fun _ => by kernel_rfl) (decide_eq_false (h1)) ?_
    refine s_nil ?_
    refine fin_seq ?_
    refine ok_false (by kernel_rfl) ?_
    refine ok_skip ?_
    refine fin_seq ?_
    refine ok_seq ?_
    refine ok_region ?_
    refine s_val (.string s) (by kernel_rfl) (fun _ => by kernel_rfl) ?_
    refine s_val (.int .i64 ((s).size)) (by kernel_rfl) (fun _ => by kernel_rfl) ?_
    obtain ⟨i, z, e1, e2, e3, e4, e5⟩ := byte_info
    refine s_make (kl := .i64) (kc := .i64) (l := (s.size : Int)) (c := (s.size : Int)) (by kernel_rfl) rfl (by kernel_rfl) (by kernel_rfl) Try.underlying96 e1 e2 (by omega) (by omega) (by rw [e5]; omega) (by omega) (fun b => ?_)
    rw [show ((s.size : Nat) : Int).toNat = s.size from rfl]
    obtain ⟨cs, hcs⟩ : ∃ cs, cs = madeCells z.cells (s.size * i.size) := ⟨_, rfl⟩
    have hcz : cs.size = s.size := by rw [hcs, size_madeCells, e3]; simp
    rw [← hcs]
    refine s_val (.slice (some ⟨b, 0, none⟩) s.size s.size) (by kernel_rfl) (fun _ => by kernel_rfl) ?_
    refine s_nil ?_
    refine fin_seq ?_
    refine ok_seq ?_
    refine ok_region ?_
    refine s_val (.slice (some ⟨b, 0, none⟩) s.size s.size) (by kernel_rfl) (fun _ => by kernel_rfl) ?_
    refine s_val (.string s) (by kernel_rfl) (fun _ => by kernel_rfl) ?_
    refine s_copyS (b := b) (cap := s.size) (s := s) (cs := cs) (by kernel_rfl) rfl (by kernel_rfl) (by kernel_rfl) Try.underlying96 (by kernel_rfl) hcz ?_
    refine s_nil ?_
    refine fin_seq ?_
    refine ok_seq ?_
    refine ok_region ?_
    refine s_val (.slice (some ⟨b, 0, none⟩) s.size s.size) (by kernel_rfl) (fun _ => by kernel_rfl) ?_
    refine s_val (.pointer (some ⟨b, 0, none⟩)) (by kernel_rfl) (run_ixsl (b := b) (off := 0) (n := s.size) (c := s.size) (k := .i64) (j := 0) (e := 5) (sz := 1) rfl (by kernel_rfl) (by kernel_rfl) (by kernel_rfl) (by kernel_rfl) (by omega) (by omega) (by omega)) ?_
    refine s_val (.slice (some ⟨b, 0, none⟩) s.size s.size) (by kernel_rfl) (fun _ => by kernel_rfl) ?_
    refine s_val (.int .i64 (s.size : Int)) (by kernel_rfl) (fun _ => by kernel_rfl) ?_
    refine s_ustr (s := s) (by kernel_rfl) rfl (by kernel_rfl) (by kernel_rfl) Try.underlying97 (by unfold Program.cellsOf; simp [e1, e3]) (by omega) (by omega) ?_
    refine s_val (.string s) (by kernel_rfl) (fun _ => by kernel_rfl) ?_
    refine s_nil ?_
    refine fin_seq ?_
    refine ok_ret ?_
    refine fin_ret (.string s) Try.results52 (by kernel_rfl) ?_
    exact fun w hO => ⟨rfl, hO.below⟩
theorem clone_any (s : ByteArray) (w : World) (hs : s.size ≤ 281474976710656) :
    Calls Try.prog 27 #[.string s] w fun e w' => e = .returned (.string s) ∧ Below w.heap.size w w' := by
  refine calls_ok (n := 5) Try.func27 rfl (by kernel_rfl) (by kernel_rfl) ?_
  refine ok_seq ?_
  refine ok_region ?_
  refine s_val (.string ⟨#[]⟩) (by kernel_rfl) (fun _ => by kernel_rfl) ?_
  refine s_nil ?_
  refine fin_seq ?_
  refine ok_seq ?_
  refine ok_region ?_
  refine s_val (.string s) (by kernel_rfl) (fun _ => by kernel_rfl) ?_
  refine s_call (k := 52) (args := #[.string s]) (.string s) (by kernel_rfl) (fun _ => by kernel_rfl) (fun w _ => sclone_any s w hs) ?_
  refine s_val (.string s) (by kernel_rfl) (fun _ => by kernel_rfl) ?_
  refine s_nil ?_
  refine fin_seq ?_
  refine ok_ret ?_
  refine fin_ret (.string s) Try.results27 (by kernel_rfl) ?_
  exact fun w hO => ⟨rfl, hO.below⟩
end Go.Proofs.Ytglbfknmeojfkaa
end

section
/-
  Plain mathematics for chapter 1: which number a string of bytes denotes, computed digit by digit with an early end (package ident) and at once (the document's own answer): the two agree; and the digits of a number denote it.
-/
namespace Go.Proofs.Ytglbfknmeojfkaa
open Go.RowKit

def numGo : Nat → Bool → List UInt8 → Option Nat
  | n, first, [] => if first then none else some n
  | n, first, c :: r =>
    if digB c.toNat then
      (if first = false ∧ n = 0 then none
       else if n * 10 + (c.toNat - 48) ≤ 9999 then numGo (n * 10 + (c.toNat - 48)) false r else none)
    else none
def numB (s : ByteArray) : Option Nat := numGo 0 true s.data.toList
def numV (s : ByteArray) : Int := ((numB s).getD 0 : Nat)
def numOk (s : ByteArray) : Bool := (numB s).isSome

theorem numGo_bad (n : Nat) (f : Bool) (c : UInt8) (r : List UInt8) (h : digB c.toNat = false) : numGo n f (c :: r) = none := by
  rw [numGo, if_neg (by simp [h])]
theorem numGo_zero (c : UInt8) (r : List UInt8) : numGo 0 false (c :: r) = none := by
  rw [numGo]; simp
theorem numGo_big (n : Nat) (f : Bool) (c : UInt8) (r : List UInt8) (h3 : ¬ n * 10 + (c.toNat - 48) ≤ 9999) : numGo n f (c :: r) = none := by
  rw [numGo, if_neg h3]; simp
theorem numGo_on (n : Nat) (f : Bool) (c : UInt8) (r : List UInt8) (h : digB c.toNat = true) (h2 : ¬ (f = false ∧ n = 0)) (h3 : n * 10 + (c.toNat - 48) ≤ 9999) :
    numGo n f (c :: r) = numGo (n * 10 + (c.toNat - 48)) false r := by
  rw [numGo, if_pos h, if_neg h2, if_pos h3]

/-- All are digits; the value. -/
def allDig (l : List UInt8) : Bool := l.all fun c => digB c.toNat
def foldV (n : Nat) (l : List UInt8) : Nat := l.foldl (fun n c => n * 10 + (c.toNat - 48)) n
theorem foldV_le (l : List UInt8) : ∀ n, n ≤ foldV n l := by
  induction l with
  | nil => intro n; exact Nat.le_refl _
  | cons c r ih => intro n; exact Nat.le_trans (by omega) (ih (n * 10 + (c.toNat - 48)))
theorem foldV_pow (l : List UInt8) : ∀ n, n * 10 ^ l.length ≤ foldV n l := by
  induction l with
  | nil => intro n; simp [foldV]
  | cons c r ih =>
    intro n
    refine Nat.le_trans ?_ (ih (n * 10 + (c.toNat - 48)))
    rw [List.length_cons, Nat.pow_succ, Nat.mul_comm (10 ^ r.length) 10, ← Nat.mul_assoc]
    exact Nat.mul_le_mul_right _ (by omega)

theorem numGo_pos (l : List UInt8) : ∀ n, 1 ≤ n → n ≤ 9999 → numGo n false l = if allDig l = true ∧ foldV n l ≤ 9999 then some (foldV n l) else none := by
  induction l with
  | nil => intro n h1 h2; simp [numGo, allDig, foldV, h2]
  | cons c r ih =>
    intro n h1 h2
    by_cases hd : digB c.toNat = true
    · by_cases h3 : n * 10 + (c.toNat - 48) ≤ 9999
      · rw [numGo_on n false c r hd (by omega) h3, ih _ (by omega) h3]
        have e1 : allDig (c :: r) = allDig r := by unfold allDig; rw [List.all_cons, hd]; rfl
        rw [e1]; rfl
      · rw [numGo_big n false c r h3, if_neg]
        rintro ⟨_, h⟩
        have h4 : n * 10 + (c.toNat - 48) ≤ foldV n (c :: r) := foldV_le r _
        omega
    · rw [numGo_bad _ _ _ _ (Bool.eq_false_iff.2 hd), if_neg]
      rintro ⟨h, _⟩
      unfold allDig at h
      rw [List.all_cons, Bool.and_eq_true] at h
      exact hd h.1

/-- The reference's way. -/
def numRef (l : List UInt8) : Option Nat :=
  if l.length < 1 ∨ l.length > 9 ∨ (l.length > 1 ∧ l.head? = some 48) then none
  else if allDig l = true ∧ foldV 0 l ≤ 9999 then some (foldV 0 l) else none

theorem numGo_ref (l : List UInt8) : numGo 0 true l = numRef l := by
  cases l with
  | nil => rfl
  | cons c r =>
    unfold numRef
    by_cases hd : digB c.toNat = true
    · have hc : 48 ≤ c.toNat ∧ c.toNat ≤ 57 := by unfold digB at hd; simp at hd; omega
      rw [numGo_on 0 true c r hd (by simp) (by omega)]
      have e1 : allDig (c :: r) = allDig r := by unfold allDig; rw [List.all_cons, hd]; rfl
      have e2 : foldV 0 (c :: r) = foldV (c.toNat - 48) r := by unfold foldV; rw [List.foldl_cons]; simp
      by_cases h0 : c.toNat = 48
      · have hc48 : c = 48 := by apply UInt8.toNat_inj.1; simpa using h0
        cases r with
        | nil => subst hc48; decide
        | cons c2 r2 =>
          have e0 : 0 * 10 + (c.toNat - 48) = 0 := by omega
          rw [e0, numGo_zero, if_pos]
          right; right
          exact ⟨by simp, by rw [hc48]; rfl⟩
      · have hne : ¬ (c :: r).head? = some 48 := by
          intro h
          have : c = 48 := by simpa using h
          subst this
          exact h0 rfl
        have e0 : 0 * 10 + (c.toNat - 48) = c.toNat - 48 := by omega
        rw [e0, numGo_pos r _ (by omega) (by omega), e1, e2]
        by_cases h9 : (c :: r).length > 9
        · rw [if_pos (Or.inr (Or.inl h9)), if_neg]
          rintro ⟨_, h⟩
          have hp := foldV_pow r (c.toNat - 48)
          have h10 : 10 ^ 9 ≤ 10 ^ r.length := Nat.pow_le_pow_right (by omega) (by rw [List.length_cons] at h9; omega)
          have h11 : 1 * 10 ^ r.length ≤ (c.toNat - 48) * 10 ^ r.length := Nat.mul_le_mul_right _ (by omega)
          omega
        · rw [if_neg (c := (c :: r).length < 1 ∨ _)]
          rintro (h | h | h)
          · simp at h
          · exact h9 h
          · exact hne h.2
    · rw [numGo_bad _ _ _ _ (Bool.eq_false_iff.2 hd)]
      have e1 : ¬ (allDig (c :: r) = true ∧ foldV 0 (c :: r) ≤ 9999) := by
        rintro ⟨h, _⟩
        unfold allDig at h
        rw [List.all_cons, Bool.and_eq_true] at h
        exact hd h.1
      rw [if_neg e1]
      split <;> rfl

/-! ### The digits of a number denote it -/
theorem foldV_append (l r : List UInt8) (n : Nat) : foldV n (l ++ r) = foldV (foldV n l) r := by unfold foldV; rw [List.foldl_append]
theorem allDig_append (l r : List UInt8) : allDig (l ++ r) = (allDig l && allDig r) := by unfold allDig; rw [List.all_append]
end Go.Proofs.Ytglbfknmeojfkaa
end

section
/-
  Plain mathematics for chapter 2: tags, lists of tags (read piece by piece with an early end, and at once), cutting a string at its first byte of a kind.
-/
namespace Go.Proofs.Ytglbfknmeojfkaa
open Go.RowKit

def tagC (c : UInt8) : Bool := letB c.toNat || digB c.toNat || decide ((c.toNat : Int) = 45)
def tagOk (t : List UInt8) : Bool := decide (1 ≤ t.length ∧ t.length ≤ 8) && t.all tagC
def numer (t : List UInt8) : Bool := !t.isEmpty && allDig t
def numI (t : List UInt8) : Bool := (numGo 0 true t).isSome
def pcs (s : List UInt8) : List (List UInt8) := splitL 46 [] s
def listOk (s : List UInt8) : Bool := s.isEmpty || (decide ((pcs s).length ≤ 4) && (pcs s).all tagOk)
def preT (t : List UInt8) : Bool := !numer t || numI t
def preOk (s : List UInt8) : Bool := listOk s && (s.isEmpty || (pcs s).all preT)

/-- Cut at the first byte b. -/
def cutAt (b : UInt8) : List UInt8 → List UInt8 × List UInt8 × Bool
  | [] => ([], [], false)
  | c :: r => if c = b then ([], r, true) else ((c :: (cutAt b r).1), (cutAt b r).2.1, (cutAt b r).2.2)
theorem cutAt_cut (b : UInt8) (l : List UInt8) : Lib.cut l [b] = cutAt b l := by
  induction l with
  | nil => rfl
  | cons c r ih =>
    have hge := Lib.index_ge r [b]
    unfold Lib.cut at ih ⊢
    unfold cutAt
    rw [Lib.index]
    by_cases h : c = b
    · subst h; simp
    · have e1 : ([b].isPrefixOf (c :: r)) = false := by simp [List.isPrefixOf]; exact fun e => h e.symm
      rw [e1, if_neg h, ← ih]
      by_cases hm : Lib.index r [b] = -1
      · rw [if_neg (by simp : ¬ (false = true))]; simp [hm]
      · have e3 : (if (Lib.index r [b] == -1) = true then (-1 : Int) else Lib.index r [b] + 1) = Lib.index r [b] + 1 := if_neg (by simpa using hm)
        rw [if_neg (by simp : ¬ (false = true)), e3, if_pos (by omega), if_pos (by omega)]
        have e2 : (Lib.index r [b] + 1).toNat = (Lib.index r [b]).toNat + 1 := by omega
        simp only [e2, List.take_succ_cons, List.length_cons, List.length_nil, Prod.mk.injEq, and_true, true_and]
        rw [show (Lib.index r [b]).toNat + 1 + (0 + 1) = ((Lib.index r [b]).toNat + (0 + 1)) + 1 from by omega, List.drop_succ_cons]
theorem cutAt_le (b : UInt8) (l : List UInt8) : (cutAt b l).1.length + (cutAt b l).2.1.length ≤ l.length := by
  induction l with
  | nil => simp [cutAt]
  | cons c r ih => unfold cutAt; split <;> simp <;> omega
theorem cutAt_split (b : UInt8) (l : List UInt8) : ∀ acc, splitL b acc l = (acc ++ (cutAt b l).1) :: (if (cutAt b l).2.2 then splitL b [] (cutAt b l).2.1 else []) := by
  induction l with
  | nil => intro acc; simp [splitL, cutAt]
  | cons c r ih =>
    intro acc
    rw [show splitL b acc (c :: r) = if c = b then acc :: splitL b [] r else splitL b (acc ++ [c]) r from rfl, show cutAt b (c :: r) = if c = b then ([], r, true) else ((c :: (cutAt b r).1), (cutAt b r).2.1, (cutAt b r).2.2) from rfl]
    by_cases h : c = b
    · rw [if_pos h, if_pos h]; simp
    · rw [if_neg h, if_neg h, ih]; simp
theorem cutAt_back (b : UInt8) (l : List UInt8) : l = (cutAt b l).1 ++ (if (cutAt b l).2.2 then b :: (cutAt b l).2.1 else []) := by
  induction l with
  | nil => simp [cutAt]
  | cons c r ih =>
    unfold cutAt
    by_cases h : c = b
    · simp [h]
    · rw [if_neg h]; simp only [List.cons_append, ← ih]
theorem cutAt_miss (b : UInt8) (x : List UInt8) (h : b ∉ x) : cutAt b x = (x, [], false) := by
  induction x with
  | nil => simp [cutAt]
  | cons c r ih =>
    simp at h
    rw [cutAt, if_neg (fun e => h.1 e.symm), ih h.2]
/-- The list read tag by tag, at most n of them: the tags, and whether that was all. -/
def cutGo : Nat → List UInt8 → List (List UInt8) × Bool
  | 0, _ => ([], false)
  | n + 1, s =>
    if tagOk (cutAt 46 s).1 then
      (if (cutAt 46 s).2.2 then ((cutAt 46 s).1 :: (cutGo n (cutAt 46 s).2.1).1, (cutGo n (cutAt 46 s).2.1).2)
       else ([(cutAt 46 s).1], true))
    else ([], false)
/-- The four places that list fills. -/
def tg (l : List (List UInt8)) (i : Nat) : List UInt8 := (l[i]?).getD []
def lst (s : List UInt8) : List (List UInt8) × Bool := if s.isEmpty then ([], true) else cutGo 4 s
end Go.Proofs.Ytglbfknmeojfkaa
end

section
/-
  DERIVED: THE SHELF's CONTRACTS AT THIS DUMP, IN PLAIN WORDS (tools/lay-plain.mjs out of 'TryShelf.lean', which tools/lay-shelf.mjs wrote): THE SAME DECLARATIONS UNDER THE SAME NAMES: 'import', 'namespace', 'open', 'def', 'theorem' AND NOTHING ELSE: no command of the shelf's: FOR A HAND-IN. Each laying: the table of numbers ('.._ren') and one theorem, a field a fact of the dump's own or the kernel's comparison; each contract: ONE APPLICATION.
-/
namespace Go.Proofs
open Go.Shelf
def Try.lays103_ren : Go.Shelf.Ren := ⟨fun | 103 => 28 | 210 => 53 | 206 => 64 | n => n, fun | 9 => 9 | 4 => 4 | 24 => 51 | 3 => 3 | n => n, fun | n => n⟩
theorem Try.lays103 : Go.Proofs.Lays.n103 Try.prog Try.lays103_ren := {
  mixed := by kernel_rfl
  f103 := Try.func28.trans (congrArg some (by kernel_rfl))
  f206 := Try.func64.trans (congrArg some (by kernel_rfl))
  f210 := Try.func53.trans (congrArg some (by kernel_rfl))
  t3 := Try.underlying3
  a3 := Try.isAgg3
  z3 := Try.sizeOf3
  v3 := Try.zeroValue3
  t4 := Try.underlying4
  a4 := Try.isAgg4
  z4 := Try.sizeOf4
  v4 := Try.zeroValue4
  t9 := Try.underlying9
  a9 := Try.isAgg9
  z9 := Try.sizeOf9
  v9 := Try.zeroValue9
  t24 := Try.underlying51
  a24 := Try.isAgg51
  z24 := Try.sizeOf51
  v24 := Try.zeroValue51 }
open Go.RowKit in
/-- strings.CutPrefix: "CutPrefix returns s without the provided leading prefix string and reports whether it found the prefix. If s doesn't start with prefix, CutPrefix returns s, false. If prefix is the empty string, CutPrefix returns s, true.": IT RETURNS '(Lib.trimPrefix s p, Lib.hasPrefix s p)'; the world is as it was. (LAID: no walk: one application.) -/
theorem Try.strings_CutPrefix (s p : ByteArray) (w : World) :
    Calls Try.prog 28 #[.string s, .string p] w fun e w' => e = .returned (.tuple #[.string ⟨(Lib.trimPrefix s.data.toList p.data.toList).toArray⟩, .bool (Lib.hasPrefix s.data.toList p.data.toList)]) ∧ w' = w := Any.strings_CutPrefix Try.lays103 s p w
def Try.lays219_ren : Go.Shelf.Ren := ⟨fun | 219 => 65 | 217 => 72 | 225 => 73 | 224 => 74 | 267 => 75 | 266 => 89 | 314 => 90 | n => n, fun | 9 => 9 | 3 => 3 | 4 => 4 | 5 => 5 | 46 => 78 | 146 => 120 | 51 => 116 | n => n, fun | 1 => 0 | n => n⟩
theorem Try.lays219 : Go.Proofs.Lays.n219 Try.prog Try.lays219_ren := {
  mixed := by kernel_rfl
  f217 := Try.func72.trans (congrArg some (by kernel_rfl))
  f219 := Try.func65.trans (congrArg some (by kernel_rfl))
  f224 := Try.func74.trans (congrArg some (by kernel_rfl))
  f225 := Try.func73.trans (congrArg some (by kernel_rfl))
  f266 := Try.func89.trans (congrArg some (by kernel_rfl))
  f267 := Try.func75.trans (congrArg some (by kernel_rfl))
  f314 := Try.func90.trans (congrArg some (by kernel_rfl))
  t3 := Try.underlying3
  a3 := Try.isAgg3
  z3 := Try.sizeOf3
  v3 := Try.zeroValue3
  t4 := Try.underlying4
  a4 := Try.isAgg4
  z4 := Try.sizeOf4
  v4 := Try.zeroValue4
  t5 := Try.underlying5
  a5 := Try.isAgg5
  z5 := Try.sizeOf5
  v5 := Try.zeroValue5
  t9 := Try.underlying9
  a9 := Try.isAgg9
  z9 := Try.sizeOf9
  v9 := Try.zeroValue9
  t46 := Try.underlying78
  a46 := Try.isAgg78
  z46 := Try.sizeOf78
  v46 := Try.zeroValue78
  t51 := Try.underlying116
  a51 := Try.isAgg116
  z51 := Try.sizeOf116
  v51 := Try.zeroValue116
  t146 := Try.underlying120
  a146 := Try.isAgg120
  z146 := Try.sizeOf120
  v146 := Try.zeroValue120
  g1 := by kernel_rfl }
open Go.RowKit Go.Lib in
/-- internal/stringslite.Index (what strings.Index calls) AT A substr OF ONE BYTE c: IT RETURNS 'Lib.indexByte s c'; the world is as it was. (LAID: no walk: one application.) -/
theorem Try.stringslite_Index_one (s : ByteArray) (c : UInt8) (w : World) :
    Calls Try.prog 65 #[.string s, .string ⟨#[c]⟩] w fun e w' => e = .returned (.int .i64 (Lib.indexByte s.data.toList c)) ∧ w' = w := Any.stringslite_Index_one Try.lays219 s c w
def Try.lays190_ren : Go.Shelf.Ren := ⟨fun | 190 => 57 | 125 => 67 | 258 => 66 | 128 => 85 | 129 => 86 | 302 => 76 | 303 => 77 | 304 => 78 | 305 => 79 | 306 => 80 | 307 => 81 | 308 => 82 | 309 => 83 | 310 => 84 | 333 => 91 | 329 => 92 | 330 => 93 | 334 => 94 | 335 => 95 | 336 => 96 | 344 => 100 | n => n, fun | 31 => 30 | 9 => 9 | 3 => 3 | 46 => 78 | 0 => 0 | 51 => 116 | 53 => 118 | 4 => 4 | 183 => 109 | 182 => 108 | 131 => 113 | 5 => 5 | 218 => 122 | 222 => 126 | 228 => 131 | 229 => 132 | n => n, fun | n => n⟩
theorem Try.lays190 : Go.Proofs.Lays.n190 Try.prog Try.lays190_ren := {
  mixed := by kernel_rfl
  f125 := Try.func67.trans (congrArg some (by kernel_rfl))
  f128 := Try.func85.trans (congrArg some (by kernel_rfl))
  f129 := Try.func86.trans (congrArg some (by kernel_rfl))
  f190 := Try.func57.trans (congrArg some (by kernel_rfl))
  f258 := Try.func66.trans (congrArg some (by kernel_rfl))
  f302 := Try.func76.trans (congrArg some (by kernel_rfl))
  f303 := Try.func77.trans (congrArg some (by kernel_rfl))
  f304 := Try.func78.trans (congrArg some (by kernel_rfl))
  f305 := Try.func79.trans (congrArg some (by kernel_rfl))
  f306 := Try.func80.trans (congrArg some (by kernel_rfl))
  f307 := Try.func81.trans (congrArg some (by kernel_rfl))
  f308 := Try.func82.trans (congrArg some (by kernel_rfl))
  f309 := Try.func83.trans (congrArg some (by kernel_rfl))
  f310 := Try.func84.trans (congrArg some (by kernel_rfl))
  f329 := Try.func92.trans (congrArg some (by kernel_rfl))
  f330 := Try.func93.trans (congrArg some (by kernel_rfl))
  f333 := Try.func91.trans (congrArg some (by kernel_rfl))
  f334 := Try.func94.trans (congrArg some (by kernel_rfl))
  f335 := Try.func95.trans (congrArg some (by kernel_rfl))
  f336 := Try.func96.trans (congrArg some (by kernel_rfl))
  f344 := Try.func100.trans (congrArg some (by kernel_rfl))
  t0 := Try.underlying0
  a0 := Try.isAgg0
  z0 := Try.sizeOf0
  v0 := Try.zeroValue0
  t3 := Try.underlying3
  a3 := Try.isAgg3
  z3 := Try.sizeOf3
  v3 := Try.zeroValue3
  t4 := Try.underlying4
  a4 := Try.isAgg4
  z4 := Try.sizeOf4
  v4 := Try.zeroValue4
  t5 := Try.underlying5
  a5 := Try.isAgg5
  z5 := Try.sizeOf5
  v5 := Try.zeroValue5
  t9 := Try.underlying9
  a9 := Try.isAgg9
  z9 := Try.sizeOf9
  v9 := Try.zeroValue9
  t31 := Try.underlying30
  a31 := Try.isAgg30
  z31 := Try.sizeOf30
  v31 := Try.zeroValue30
  t46 := Try.underlying78
  a46 := Try.isAgg78
  z46 := Try.sizeOf78
  v46 := Try.zeroValue78
  t51 := Try.underlying116
  a51 := Try.isAgg116
  z51 := Try.sizeOf116
  v51 := Try.zeroValue116
  t53 := Try.underlying118
  a53 := Try.isAgg118
  z53 := Try.sizeOf118
  v53 := Try.zeroValue118
  t131 := Try.underlying113
  a131 := Try.isAgg113
  z131 := Try.sizeOf113
  v131 := Try.zeroValue113
  t182 := Try.underlying108
  a182 := Try.isAgg108
  z182 := Try.sizeOf108
  v182 := Try.zeroValue108
  t183 := Try.underlying109
  a183 := Try.isAgg109
  z183 := Try.sizeOf109
  v183 := Try.zeroValue109
  t218 := Try.underlying122
  a218 := Try.isAgg122
  z218 := Try.sizeOf122
  v218 := Try.zeroValue122
  t222 := Try.underlying126
  a222 := Try.isAgg126
  z222 := Try.sizeOf126
  v222 := Try.zeroValue126
  t228 := Try.underlying131
  a228 := Try.isAgg131
  z228 := Try.sizeOf131
  v228 := Try.zeroValue131
  t229 := Try.underlying132
  a229 := Try.isAgg132
  z229 := Try.sizeOf132
  v229 := Try.zeroValue132 }
open Go.Sort Go.RowKit in
theorem Try.slices_Sort_string (blk off cap : Nat) (ss : List (List UInt8)) (w : World) (hH : Holds encStr w blk off ss.toArray) (hblk : blk < w.heap.size) (hsz : ss.length < 4611686018427387904) :
    Calls Try.prog 57 #[.slice (some ⟨blk, off, none⟩) ss.length cap] w fun e w' =>
      e = .returned (.tuple #[]) ∧ ∃ n os, w' = grow (putRow encStr (Sort.ahead w n) blk off (ss.mergeSort fun x y => decide (x ≤ y)).toArray) os := Any.slices_Sort_string Try.lays190 blk off cap ss w hH hblk hsz
open Go.RowKit Go.Sort in
/-- .. and plain. (LAID: no walk: one application.) -/
theorem Try.slices_Sort_string_none (p : Option Addr) (cap : Nat) (w : World) :
    Calls Try.prog 57 #[.slice p 0 cap] w fun e w' => e = .returned (.tuple #[]) ∧ w' = w := Any.slices_Sort_string_none Try.lays190 p cap w
end Go.Proofs
end

section
/-
  strings.Cut at a separator of one byte: cutAt. Condition: the string has fewer than 2^32 - 15 bytes.
-/
namespace Go.Proofs.Ytglbfknmeojfkaa
open Go.RowKit

theorem indexByte_one (c : UInt8) (l : List UInt8) : Lib.indexByte l c = Lib.index l [c] := by
  induction l with
  | nil => rfl
  | cons b r ih =>
    rw [Lib.indexByte, Lib.index, ih]
    by_cases h : b = c
    · subst h; simp
    · have e1 : ([c].isPrefixOf (b :: r)) = false := by simp [List.isPrefixOf]; exact fun e => h e.symm
      rw [e1]; simp [h]
theorem cutB (s : List UInt8) (c : UInt8) : Lib.cut (mkS s).data.toList (⟨#[c]⟩ : ByteArray).data.toList = cutAt c s := cutAt_cut c s

set_option maxHeartbeats 2000000 in
theorem scut_any (s : List UInt8) (c : UInt8) (w : World) (hs : (mkS s).size < 4294967281) :
    Calls Try.prog 54 #[.string (mkS s), .string ⟨#[c]⟩] w fun e w' => e = .returned (.tuple #[.string (mkS (cutAt c s).1), .string (mkS (cutAt c s).2.1), .bool (cutAt c s).2.2]) ∧ ∃ n, w' = w.drewN n := by
  have hc := cutB s c
  rcases Lib.indexB_cases (mkS s) ⟨#[c]⟩ with hix | ⟨i, hix, hroom⟩
  · obtain ⟨e1, e2, e3⟩ := Lib.cutB_miss (mkS s) ⟨#[c]⟩ hix
    rw [hc] at e1 e2 e3
    rw [show mkS (cutAt c s).1 = mkS s from e1, show mkS (cutAt c s).2.1 = ByteArray.empty from e2, e3]
    have hixb : Lib.indexByte (mkS s).data.toList c = -1 := (indexByte_one c _).trans hix
    have H := Lib.hid hixb
    clear hc e1 e2 e3 hix hixb
    go_enter Try.func54, Try.ntmps54
    go_wp2_with (go_at_call 65; refine (Try.stringslite_Index_one (mkS s) c _).mono ?_; rintro e w' ⟨rfl, rfl⟩; rw [H.out])
    go_ret3
    exact ⟨rfl, 0, rfl⟩
  · obtain ⟨e1, e2, e3⟩ := Lib.cutB_hit (mkS s) ⟨#[c]⟩ i hix
    rw [hc] at e1 e2 e3
    rw [show mkS (cutAt c s).1 = _ from e1, show mkS (cutAt c s).2.1 = _ from e2, e3]
    have hroom' : i + 1 ≤ (mkS s).size := hroom
    rw [show i + (⟨#[c]⟩ : ByteArray).size = i + 1 from rfl]
    have c1 : (0 : Int) ≤ ↑i := by omega
    have c2 : (↑i : Int) ≤ ↑(mkS s).size := by omega
    have c3 : (0 : Int) ≤ ↑i + 1 := by omega
    have c4 : (↑i + 1 : Int) ≤ ↑(mkS s).size := by omega
    have hixb : Lib.indexByte (mkS s).data.toList c = (i : Int) := (indexByte_one c _).trans hix
    have H := Lib.hid hixb
    clear hc e1 e2 e3 hix hixb
    go_enter Try.func54, Try.ntmps54
    go_wp2_with (go_at_call 65; refine (Try.stringslite_Index_one (mkS s) c _).mono ?_; rintro e w' ⟨rfl, rfl⟩; rw [H.out])
    have mixed : Try.prog.follows .mixedOrders = true := by kernel_rfl
    have hwr : IntKind.i64.wrap ((i : Int) + 1) = (i : Int) + 1 := IntWalk.i64_in _ (by omega)
    have hnat : ((i : Int) + 1).toNat = i + 1 := by omega
    go_region_o
    go_wp2
    go_ret3
    exact ⟨rfl, 1, rfl⟩

theorem cut_any (s : List UInt8) (c : UInt8) (w : World) (hs : s.length < 4294967281) :
    Calls Try.prog 29 #[.string (mkS s), .string ⟨#[c]⟩] w fun e w' => e = .returned (.tuple #[.string (mkS (cutAt c s).1), .string (mkS (cutAt c s).2.1), .bool (cutAt c s).2.2]) ∧ ∃ n, w' = w.drewN n := by
  have hs' : (mkS s).size < 4294967281 := by unfold mkS; simpa [ByteArray.size] using hs
  go_enter Try.func29, Try.ntmps29
  go_wp2_with (go_at_call 54; refine (scut_any s c _ hs').mono ?_; rintro e w' ⟨rfl, n, rfl⟩)
  go_ret3
  exact ⟨rfl, n, rfl⟩
theorem cutb_any (s : List UInt8) (c : UInt8) (w : World) (hs : s.length < 4294967281) :
    Calls Try.prog 29 #[.string (mkS s), .string ⟨#[c]⟩] w fun e w' => e = .returned (.tuple #[.string (mkS (cutAt c s).1), .string (mkS (cutAt c s).2.1), .bool (cutAt c s).2.2]) ∧ Below w.heap.size w w' :=
  (cut_any s c w hs).mono fun _ _ ⟨he, n, hw⟩ => ⟨he, by rw [hw]; exact below_drewN (Below.refl _ _) n⟩
end Go.Proofs.Ytglbfknmeojfkaa
end

section
/-
  Package ident: what letter, digit, Name and Word return, for every argument and in every world: letB, digB, nameB, wordB. Conditions: none.
-/
namespace Go.Proofs.Ytglbfknmeojfkaa
open Go.RowKit

theorem letter_is (r : Int) (b : Bool) (hb : letB r = b) (w : World) :
    Calls Try.prog 50 #[.int .i32 r] w fun e w' => e = .returned (.bool b) ∧ w = w' := by
  subst hb
  unfold letB
  go_enter Try.func50, Try.ntmps50
  go_wp2
  all_goals go_ret
  all_goals exact ⟨ret_bool (by simp; try omega), rfl⟩

set_option maxHeartbeats 1000000 in
theorem name_any (s : ByteArray) (w : World) (hs : s.size ≤ maxLen) :
    Calls Try.prog 30 #[.string s] w fun e w' => e = .returned (.bool (nameB s)) ∧ Below w.heap.size w w' := by
  unfold maxLen at hs
  by_cases h16 : s.size ≤ 16
  · go_enter Try.func30, Try.ntmps30
    go_wp2
    go_loopw [3] (fun v wr => ∃ (pos : Nat) (l : Int), wr = w.iter s pos ∧ pos ≤ s.size ∧ v = .int .i32 l ∧ Hid (nameGo (decide (pos = 0)) l (s.data.toList.drop pos) = nameGo true 45 s.data.toList)) (fun _ wr => s.size - wr.iterPos w.heap.size)
    case atStart => exact ⟨0, 45, rfl, Nat.zero_le _, rfl, rfl⟩
    case round =>
      obtain ⟨pos, l, rfl, hple, rfl, HR⟩ := hrel
      by_cases hp : pos < s.size
      · have HD := Lib.hid (drop_cons s pos hp)
        by_cases ha : (s[pos]'hp).toNat < 128
        · have hnx : ∀ ty, (Instr.next (.pointer (some ⟨w.heap.size, 0, none⟩)) true ty).run Try.prog (w.iter s pos) = _ := fun ty => run_next_ascii w s pos ty hp ha
          by_cases hl : letB (s[pos]'hp).toNat = true
          · have HL := Lib.hid hl
            clear hl
            go_wp2_with (go_at_call 50; refine (letter_is _ true HL.out _).mono ?_; rintro e w' ⟨rfl, rfl⟩)
            go_roundw
            case rel => exact ⟨pos + 1, _, rfl, by omega, rfl, by rw [← HR.out, HD.out, nameGo_let _ _ _ _ HL.out]; rfl⟩
            case measure => simp; omega
          · have HL := Lib.hid (Bool.eq_false_iff.2 hl)
            clear hl
            by_cases hd : digB (s[pos]'hp).toNat = true
            · have HG := Lib.hid hd
              clear hd
              by_cases h0 : pos = 0
              · subst h0
                go_wp2_with (first | (go_at_call 50; refine (letter_is _ false HL.out _).mono ?_; rintro e w' ⟨rfl, rfl⟩) | (go_at_call 51; refine (digit_is _ true HG.out _).mono ?_; rintro e w' ⟨rfl, rfl⟩))
                go_ret
                exact ⟨ret_bool (by unfold nameB; rw [← HR.out, HD.out, nameGo_dig _ _ _ _ HL.out HG.out]; simp), below_iter _ _ _⟩
              · have hpi : ((pos : Int) == 0) = false := by simp; omega
                go_wp2_with (first | (go_at_call 50; refine (letter_is _ false HL.out _).mono ?_; rintro e w' ⟨rfl, rfl⟩) | (go_at_call 51; refine (digit_is _ true HG.out _).mono ?_; rintro e w' ⟨rfl, rfl⟩))
                go_roundw
                case rel => exact ⟨pos + 1, _, rfl, by omega, rfl, by rw [← HR.out, HD.out, nameGo_dig _ _ _ _ HL.out HG.out]; simp [h0, Hid]⟩
                case measure => simp; omega
            · have HG := Lib.hid (Bool.eq_false_iff.2 hd)
              clear hd
              by_cases h3 : ((s[pos]'hp).toNat : Int) = 45
              · have H3 := Lib.hid h3
                have h3b : (((s[pos]'hp).toNat : Int) == 45) = true := by simp [h3]
                clear h3
                by_cases h4 : l = 45
                · have h4b : (l == 45) = true := by simp [h4]
                  have H4 := Lib.hid h4
                  clear h4
                  go_wp2_with (first | (go_at_call 50; refine (letter_is _ false HL.out _).mono ?_; rintro e w' ⟨rfl, rfl⟩) | (go_at_call 51; refine (digit_is _ false HG.out _).mono ?_; rintro e w' ⟨rfl, rfl⟩))
                  go_ret
                  exact ⟨ret_bool (by unfold nameB; rw [← HR.out, HD.out, nameGo_dash _ _ _ _ HL.out HG.out H3.out, if_pos H4.out]; simp), below_iter _ _ _⟩
                · have h4b : (l == 45) = false := by simp [h4]
                  go_wp2_with (first | (go_at_call 50; refine (letter_is _ false HL.out _).mono ?_; rintro e w' ⟨rfl, rfl⟩) | (go_at_call 51; refine (digit_is _ false HG.out _).mono ?_; rintro e w' ⟨rfl, rfl⟩))
                  go_roundw
                  case rel => exact ⟨pos + 1, _, rfl, by omega, rfl, by rw [← HR.out, HD.out, nameGo_dash _ _ _ _ HL.out HG.out H3.out, if_neg h4]; rfl⟩
                  case measure => simp; omega
              · have h3b : (((s[pos]'hp).toNat : Int) == 45) = false := by simpa using h3
                go_wp2_with (first | (go_at_call 50; refine (letter_is _ false HL.out _).mono ?_; rintro e w' ⟨rfl, rfl⟩) | (go_at_call 51; refine (digit_is _ false HG.out _).mono ?_; rintro e w' ⟨rfl, rfl⟩))
                go_ret
                exact ⟨ret_bool (by unfold nameB; rw [← HR.out, HD.out, nameGo_else _ _ _ _ HL.out HG.out h3]; simp), below_iter _ _ _⟩
        · have hnx : ∀ ty, (Instr.next (.pointer (some ⟨w.heap.size, 0, none⟩)) true ty).run Try.prog (w.iter s pos) = _ := fun ty => run_next_any w s pos ty hp
          have hhi := (decode_high s pos hp (by omega)).1
          have HL := Lib.hid (letB_hi _ hhi)
          have HG := Lib.hid (digB_hi _ hhi)
          have h3b : (((Utf8.decode s pos).1 : Int) == 45) = false := by simp; omega
          go_wp2_with (first | (go_at_call 50; refine (letter_is _ false HL.out _).mono ?_; rintro e w' ⟨rfl, rfl⟩) | (go_at_call 51; refine (digit_is _ false HG.out _).mono ?_; rintro e w' ⟨rfl, rfl⟩))
          go_ret
          exact ⟨ret_bool (by unfold nameB; rw [← HR.out, HD.out, nameGo_hi _ _ _ _ (by omega)]; simp), below_iter _ _ _⟩
      · have hnx : ∀ ty, (Instr.next (.pointer (some ⟨w.heap.size, 0, none⟩)) true ty).run Try.prog (w.iter s pos) = _ := fun ty => run_next_end w s pos ty hp
        have HD := Lib.hid (drop_end s pos hp)
        go_wp2
        go_ret
        exact ⟨ret_bool (by unfold nameB; rw [← HR.out, HD.out, nameGo]; by_cases hq : l = 45 <;> simp [h16, hq]), below_iter _ _ _⟩
  · go_enter Try.func30, Try.ntmps30
    go_wp2
    go_ret
    exact ⟨ret_bool (by unfold nameB; simp [h16]), Below.refl _ _⟩

set_option maxHeartbeats 1000000 in
theorem word_any (s : ByteArray) (w : World) (hs : s.size ≤ maxLen) :
    Calls Try.prog 26 #[.string s] w fun e w' => e = .returned (.bool (wordB s)) ∧ Below w.heap.size w w' := by
  unfold maxLen at hs
  by_cases h0 : s.size = 0
  · have H0 := Lib.hid h0
    have hz : ((s.size : Int) == 0) = true := by simp [h0]
    clear h0
    go_enter Try.func26, Try.ntmps26
    go_wp2
    go_ret
    exact ⟨ret_bool (by unfold wordB; simp [H0.out]), Below.refl _ _⟩
  · have hz : ((s.size : Int) == 0) = false := beq_int_false (by omega)
    by_cases h12 : s.size ≤ 12
    · go_enter Try.func26, Try.ntmps26
      go_wp2
      go_loopw [] (fun wr => ∃ (pos : Nat), wr = w.iter s pos ∧ pos ≤ s.size ∧ Hid (wordGo (s.data.toList.drop pos) = wordGo s.data.toList)) (fun wr => s.size - wr.iterPos w.heap.size)
      case atStart => exact ⟨0, rfl, Nat.zero_le _, rfl⟩
      case round =>
        obtain ⟨pos, rfl, hple, HR⟩ := hrel
        by_cases hp : pos < s.size
        · have HD := Lib.hid (drop_cons s pos hp)
          by_cases ha : (s[pos]'hp).toNat < 128
          · have hnx : ∀ ty, (Instr.next (.pointer (some ⟨w.heap.size, 0, none⟩)) true ty).run Try.prog (w.iter s pos) = _ := fun ty => run_next_ascii w s pos ty hp ha
            by_cases hl : letB (s[pos]'hp).toNat = true
            · have HL := Lib.hid hl
              clear hl
              go_wp2_with (go_at_call 50; refine (letter_is _ true HL.out _).mono ?_; rintro e w' ⟨rfl, rfl⟩)
              go_roundw
              case rel => exact ⟨pos + 1, rfl, by omega, by rw [← HR.out, HD.out, wordGo_ok _ _ (by unfold wdB; rw [HL.out]; rfl)]; rfl⟩
              case measure => simp; omega
            · have HL := Lib.hid (Bool.eq_false_iff.2 hl)
              clear hl
              by_cases hd : digB (s[pos]'hp).toNat = true
              · have HG := Lib.hid hd
                clear hd
                go_wp2_with (first | (go_at_call 50; refine (letter_is _ false HL.out _).mono ?_; rintro e w' ⟨rfl, rfl⟩) | (go_at_call 51; refine (digit_is _ true HG.out _).mono ?_; rintro e w' ⟨rfl, rfl⟩))
                go_roundw
                case rel => exact ⟨pos + 1, rfl, by omega, by rw [← HR.out, HD.out, wordGo_ok _ _ (by unfold wdB; rw [HL.out, HG.out]; rfl)]; rfl⟩
                case measure => simp; omega
              · have HG := Lib.hid (Bool.eq_false_iff.2 hd)
                clear hd
                by_cases h3 : ((s[pos]'hp).toNat : Int) = 95
                · have H3 := Lib.hid h3
                  have h3b : (((s[pos]'hp).toNat : Int) != 95) = false := by simp [h3]
                  clear h3
                  go_wp2_with (first | (go_at_call 50; refine (letter_is _ false HL.out _).mono ?_; rintro e w' ⟨rfl, rfl⟩) | (go_at_call 51; refine (digit_is _ false HG.out _).mono ?_; rintro e w' ⟨rfl, rfl⟩))
                  go_roundw
                  case rel => exact ⟨pos + 1, rfl, by omega, by rw [← HR.out, HD.out, wordGo_ok _ _ (by unfold wdB; rw [HL.out, HG.out, H3.out]; rfl)]; rfl⟩
                  case measure => simp; omega
                · have h3b : (((s[pos]'hp).toNat : Int) != 95) = true := by simpa using h3
                  go_wp2_with (first | (go_at_call 50; refine (letter_is _ false HL.out _).mono ?_; rintro e w' ⟨rfl, rfl⟩) | (go_at_call 51; refine (digit_is _ false HG.out _).mono ?_; rintro e w' ⟨rfl, rfl⟩))
                  go_ret
                  exact ⟨ret_bool (by unfold wordB; rw [← HR.out, HD.out, wordGo_bad _ _ (by unfold wdB; rw [HL.out, HG.out]; simpa using h3)]; simp), below_iter _ _ _⟩
          · have hnx : ∀ ty, (Instr.next (.pointer (some ⟨w.heap.size, 0, none⟩)) true ty).run Try.prog (w.iter s pos) = _ := fun ty => run_next_any w s pos ty hp
            have hhi := (decode_high s pos hp (by omega)).1
            have HL := Lib.hid (letB_hi _ hhi)
            have HG := Lib.hid (digB_hi _ hhi)
            have h3b : (((Utf8.decode s pos).1 : Int) != 95) = true := by simp; omega
            go_wp2_with (first | (go_at_call 50; refine (letter_is _ false HL.out _).mono ?_; rintro e w' ⟨rfl, rfl⟩) | (go_at_call 51; refine (digit_is _ false HG.out _).mono ?_; rintro e w' ⟨rfl, rfl⟩))
            go_ret
            exact ⟨ret_bool (by unfold wordB; rw [← HR.out, HD.out, wordGo_bad _ _ (by unfold wdB; rw [letB_hi8 _ (by omega), digB_hi8 _ (by omega)]; simp; omega)]; simp), below_iter _ _ _⟩
        · have hnx : ∀ ty, (Instr.next (.pointer (some ⟨w.heap.size, 0, none⟩)) true ty).run Try.prog (w.iter s pos) = _ := fun ty => run_next_end w s pos ty hp
          have HD := Lib.hid (drop_end s pos hp)
          go_wp2
          go_ret
          exact ⟨ret_bool (by unfold wordB; rw [← HR.out, HD.out, wordGo]; simp; omega), below_iter _ _ _⟩
    · go_enter Try.func26, Try.ntmps26
      go_wp2
      go_ret
      exact ⟨ret_bool (by unfold wordB; simp [h12]), Below.refl _ _⟩

end Go.Proofs.Ytglbfknmeojfkaa
end

section
/-
  Package feature: Item: what it returns; nothing that was there is changed. Condition: a string of at most a million bytes.
-/
namespace Go.Proofs.Ytglbfknmeojfkaa
open Go.RowKit
set_option maxRecDepth 100000
set_option linter.unusedVariables false
set_option linter.unusedSimpArgs false
set_option linter.unnecessarySimpa false
set_option maxHeartbeats 2000000

theorem iWord_any (s : List UInt8) (W : World) (hs : s.length ≤ 1000000) : Calls Try.prog 26 #[.string (mkS s)] W fun e w' => e = .returned (.bool (wdL s)) ∧ Below W.heap.size W w' :=
  (word_any (mkS s) W (by rw [mkS_sz]; unfold maxLen; omega)).mono fun e w' ⟨h, e2⟩ => ⟨by rw [h]; unfold wordB wdL; rw [mkS_sz, mk_data], e2⟩
theorem iName_any (s : List UInt8) (W : World) (hs : s.length ≤ 1000000) : Calls Try.prog 30 #[.string (mkS s)] W fun e w' => e = .returned (.bool (nmL s)) ∧ Below W.heap.size W w' :=
  name_any (mkS s) W (by rw [mkS_sz]; unfold maxLen; omega)
theorem iClone_any (s : List UInt8) (W : World) (hs : s.length ≤ 1000000) : Calls Try.prog 27 #[.string (mkS s)] W fun e w' => e = .returned (.string (mkS s)) ∧ Below W.heap.size W w' := clone_any (mkS s) W (by rw [mkS_sz]; omega)
theorem iCut_any (s : List UInt8) (w : World) : Calls Try.prog 28 #[.string (mkS s), .string ⟨#[63]⟩] w fun e w' => e = .returned (.tuple #[.string (mkS (if s.head? = some 63 then s.drop 1 else s)), .bool (decide (s.head? = some 63))]) ∧ Below w.heap.size w w' :=
  (Try.strings_CutPrefix (mkS s) ⟨#[63]⟩ w).mono fun e w' ⟨he, hw⟩ => by
    subst hw
    refine ⟨?_, Below.refl _ _⟩
    rw [he, mk_data]
    show Ending.returned (Value.tuple #[.string ⟨(Lib.trimPrefix s [63]).toArray⟩, .bool (Lib.hasPrefix s [63])]) = _
    unfold Lib.trimPrefix Lib.hasPrefix
    cases s with
    | nil => rfl
    | cons c r =>
      by_cases h : c = 63
      · subst h; simp [List.isPrefixOf, mkS]
      · have h2 : ¬ 63 = c := fun q => h q.symm
        simp [List.isPrefixOf, mkS, h, h2]
theorem kind_cut {s : List UInt8} (h : wdL s = false) (hno : ¬ (s.head? = some 63 ∧ wdL (s.drop 1) = true)) : kindT s = if (cutAt 47 s).2.2 && nmL (cutAt 47 s).1 && wdL (cutAt 47 s).2.1 then (3, (cutAt 47 s).1, (cutAt 47 s).2.1) else (0, [], []) := by
  unfold kindT
  rw [if_neg (by rw [h]; simp), if_neg (by rw [Bool.and_eq_true, decide_eq_true_eq]; exact hno), cutAt_split 47 s [], List.nil_append]
  cases hc : (cutAt 47 s).2.2 with
  | false => simp
  | true =>
    rw [if_pos rfl]
    cases hw : wdL (cutAt 47 s).2.1 with
    | true =>
      have hf : (47 : UInt8) ∉ (cutAt 47 s).2.1 := wdL_no (by decide) hw
      rw [cutAt_split 47 _ [], cutAt_miss 47 _ hf]
      simp [hw]
    | false =>
      rw [cutAt_split 47 _ [], List.nil_append]
      cases hc2 : (cutAt 47 (cutAt 47 s).2.1).2.2 with
      | true =>
        rw [if_pos rfl]
        cases hs : splitL 47 [] (cutAt 47 (cutAt 47 s).2.1).2.1 with
        | nil => exact absurd hs (splitL_ne 47 _ _)
        | cons y t => simp
      | false =>
        have hb := cutAt_back 47 (cutAt 47 s).2.1
        rw [hc2, if_neg (by simp), List.append_nil] at hb
        rw [← hb]
        simp [hw]
theorem fItem_at (s : List UInt8) (W : World) (hs : s.length ≤ 1000000) : Calls Try.prog 10 #[.string (mkS s)] W fun e w' => e = .returned (.tuple #[.int .i64 (kindT s).1, .string (mkS (kindT s).2.1), .string (mkS (kindT s).2.2)]) ∧ Below W.heap.size W w' := by
  have hcl := cutAt_le 47 s
  refine x_enter Try.func10 ?_
  refine x_call (v := .bool (wdL s)) [] (fun w _ => iWord_any s w hs) ?_
  refine x_nowb 11 (wdL s) (fun h1 => ?_) (fun h1 => ?_)
  · refine x_call (v := .string (mkS s)) [] (fun w _ => iClone_any s w hs) ?_
    refine x_ret3 [] (.int .i64 1) (.string (mkS s)) (.string ⟨#[]⟩) fun w hO => ⟨?_, hO.below⟩
    rw [show kindT s = (1, s, []) from by unfold kindT; rw [if_pos h1]]; rfl
  have zero : ∀ {w : World} {L : List Blk}, ¬ (s.head? = some 63 ∧ wdL (s.drop 1) = true) → ((cutAt 47 s).2.2 && nmL (cutAt 47 s).1 && wdL (cutAt 47 s).2.1) = false → Own [] W w L → (Ending.returned (.tuple #[.int .i64 0, .string ⟨#[]⟩, .string ⟨#[]⟩]) = .returned (.tuple #[.int .i64 (kindT s).1, .string (mkS (kindT s).2.1), .string (mkS (kindT s).2.2)])) ∧ Below W.heap.size W w := fun h2 h3 hO => by
    refine ⟨?_, hO.below⟩
    rw [kind_cut h1 h2, h3]; rfl
  have three : ∀ {w : World} {L : List Blk}, ¬ (s.head? = some 63 ∧ wdL (s.drop 1) = true) → ((cutAt 47 s).2.2 && nmL (cutAt 47 s).1 && wdL (cutAt 47 s).2.1) = true → Own [] W w L → (Ending.returned (.tuple #[.int .i64 3, .string (mkS (cutAt 47 s).1), .string (mkS (cutAt 47 s).2.1)]) = .returned (.tuple #[.int .i64 (kindT s).1, .string (mkS (kindT s).2.1), .string (mkS (kindT s).2.2)])) ∧ Below W.heap.size W w := fun h2 h3 hO => by
    refine ⟨?_, hO.below⟩
    rw [kind_cut h1 h2, h3]; rfl
  by_cases hq : s.head? = some 63
  · have hcp : ∀ w, Calls Try.prog 28 #[.string (mkS s), .string ⟨#[63]⟩] w fun e w' => e = .returned (.tuple #[.string (mkS (s.drop 1)), .bool true]) ∧ Below w.heap.size w w' := fun w => (iCut_any s w).mono fun e w' ⟨e1, e2⟩ => ⟨by rw [e1, if_pos hq, decide_eq_true hq], e2⟩
    refine x_call (v := .tuple #[.string (mkS (s.drop 1)), .bool true]) [] (fun w _ => hcp w) ?_
    refine x_call (v := .bool (wdL (s.drop 1))) [] (fun w _ => iWord_any _ w (by rw [List.length_drop]; omega)) ?_
    refine x_bb 23 [] (wdL (s.drop 1)) (fun h2 => ?_) (fun h2 => ?_)
    · refine x_call (v := .string (mkS (s.drop 1))) [] (fun w _ => iClone_any _ w (by rw [List.length_drop]; omega)) ?_
      refine x_ret3 [] (.int .i64 2) (.string (mkS (s.drop 1))) (.string ⟨#[]⟩) fun w hO => ⟨?_, hO.below⟩
      rw [show kindT s = (2, s.drop 1, []) from by unfold kindT; rw [if_neg (by rw [h1]; simp), if_pos (by rw [hq, h2]; rfl)]]; rfl
    have hno : ¬ (s.head? = some 63 ∧ wdL (s.drop 1) = true) := fun q => by rw [h2] at q; cases q.2
    refine x_call (v := .tuple #[.string (mkS (cutAt 47 s).1), .string (mkS (cutAt 47 s).2.1), .bool (cutAt 47 s).2.2]) [] (fun w _ => cutb_any s 47 w (by omega)) ?_
    refine x_bb 33 [] (cutAt 47 s).2.2 (fun h3 => ?_) (fun h3 => ?_)
    · refine x_call (v := .bool (nmL (cutAt 47 s).1)) [] (fun w _ => iName_any _ w (by omega)) ?_
      refine x_bb 37 [] (nmL (cutAt 47 s).1) (fun h4 => ?_) (fun h4 => ?_)
      · refine x_call (v := .bool (wdL (cutAt 47 s).2.1)) [] (fun w _ => iWord_any _ w (by omega)) ?_
        refine x_bb 40 [] (wdL (cutAt 47 s).2.1) (fun h5 => ?_) (fun h5 => ?_)
        · refine x_call (v := .string (mkS (cutAt 47 s).1)) [] (fun w _ => iClone_any _ w (by omega)) ?_
          refine x_call (v := .string (mkS (cutAt 47 s).2.1)) [] (fun w _ => iClone_any _ w (by omega)) ?_
          exact x_ret3 [] (.int .i64 3) (.string (mkS (cutAt 47 s).1)) (.string (mkS (cutAt 47 s).2.1)) fun w hO => three hno (by rw [h3, h4, h5]; rfl) hO
        · exact x_ret3 [] (.int .i64 0) (.string ⟨#[]⟩) (.string ⟨#[]⟩) fun w hO => zero hno (by rw [h3, h4, h5]; rfl) hO
      · exact x_ret3 [] (.int .i64 0) (.string ⟨#[]⟩) (.string ⟨#[]⟩) fun w hO => zero hno (by rw [h3, h4]; rfl) hO
    · exact x_ret3 [] (.int .i64 0) (.string ⟨#[]⟩) (.string ⟨#[]⟩) fun w hO => zero hno (by rw [h3]; rfl) hO
  · have hcp : ∀ w, Calls Try.prog 28 #[.string (mkS s), .string ⟨#[63]⟩] w fun e w' => e = .returned (.tuple #[.string (mkS s), .bool false]) ∧ Below w.heap.size w w' := fun w => (iCut_any s w).mono fun e w' ⟨e1, e2⟩ => ⟨by rw [e1, if_neg hq, decide_eq_false hq], e2⟩
    have hno : ¬ (s.head? = some 63 ∧ wdL (s.drop 1) = true) := fun q => hq q.1
    refine x_call (v := .tuple #[.string (mkS s), .bool false]) [] (fun w _ => hcp w) ?_
    refine x_call (v := .tuple #[.string (mkS (cutAt 47 s).1), .string (mkS (cutAt 47 s).2.1), .bool (cutAt 47 s).2.2]) [] (fun w _ => cutb_any s 47 w (by omega)) ?_
    refine x_bb 33 [] (cutAt 47 s).2.2 (fun h3 => ?_) (fun h3 => ?_)
    · refine x_call (v := .bool (nmL (cutAt 47 s).1)) [] (fun w _ => iName_any _ w (by omega)) ?_
      refine x_bb 37 [] (nmL (cutAt 47 s).1) (fun h4 => ?_) (fun h4 => ?_)
      · refine x_call (v := .bool (wdL (cutAt 47 s).2.1)) [] (fun w _ => iWord_any _ w (by omega)) ?_
        refine x_bb 40 [] (wdL (cutAt 47 s).2.1) (fun h5 => ?_) (fun h5 => ?_)
        · refine x_call (v := .string (mkS (cutAt 47 s).1)) [] (fun w _ => iClone_any _ w (by omega)) ?_
          refine x_call (v := .string (mkS (cutAt 47 s).2.1)) [] (fun w _ => iClone_any _ w (by omega)) ?_
          exact x_ret3 [] (.int .i64 3) (.string (mkS (cutAt 47 s).1)) (.string (mkS (cutAt 47 s).2.1)) fun w hO => three hno (by rw [h3, h4, h5]; rfl) hO
        · exact x_ret3 [] (.int .i64 0) (.string ⟨#[]⟩) (.string ⟨#[]⟩) fun w hO => zero hno (by rw [h3, h4, h5]; rfl) hO
      · exact x_ret3 [] (.int .i64 0) (.string ⟨#[]⟩) (.string ⟨#[]⟩) fun w hO => zero hno (by rw [h3, h4]; rfl) hO
    · exact x_ret3 [] (.int .i64 0) (.string ⟨#[]⟩) (.string ⟨#[]⟩) fun w hO => zero hno (by rw [h3]; rfl) hO
end Go.Proofs.Ytglbfknmeojfkaa
end

section
/-
  linchpinref1's Split in the way of own blocks; blocks at hand that are lent from here on.
-/
namespace Go.Proofs.Ytglbfknmeojfkaa
open Go.RowKit
set_option maxRecDepth 100000
set_option linter.unusedVariables false
set_option linter.unusedSimpArgs false

/-- linchpinref1's Split at a byte, in the way of own blocks. -/
theorem rsplitB_own (s : List UInt8) (b : UInt8) (W : World) (hs : s.length ≤ 1000000) :
    Calls Try.prog 32 #[.string (mkS s), .int .u8 (b.toNat : Int)] W fun e w' => ∃ v' ob', e = .returned v' ∧ SlT v' (splitL b [] s) ob' ∧ Own [] W w' ob' :=
  (rsplit_any (mkS s) b W (by rw [mkS_sz]; exact hs)).mono fun e w' ⟨v, h1, h2, h3⟩ => by
    obtain ⟨ob, k1, k2⟩ := Own.row h2 h3
    unfold piecesOf at k1
    rw [mk_data] at k1
    exact ⟨v, ob, h1, k1, k2⟩
end Go.Proofs.Ytglbfknmeojfkaa
end

section
/-
  Markers' nodes and platforms as they lie; slices of nodes and of numbers. No condition of its own but the bounds that each theorem names.
-/
namespace Go.Proofs.Ytglbfknmeojfkaa
open Go.RowKit
set_option linter.unusedVariables false
set_option linter.unusedSimpArgs false

def nC (n : Nd) : List Value := [.int .i64 n.op, .int .i64 n.a, .int .i64 n.b, .int .i64 n.key, .string (mkS n.text)]
def zC (z : Int) : List Value := [.int .i64 z]
def SlZ (v : Value) (l : List Int) (ob : List Blk) : Prop := Sl 3 1 v l.length (l.flatMap zC) ob
/-- Node and platform as values. -/
def ndV (n : Nd) : Value := .agg #[.int .i64 n.op, .int .i64 n.a, .int .i64 n.b, .int .i64 n.key, .string (mkS n.text)]
def pfV (e : Pf) : Value := .agg #[.string (mkS (e 0)), .string (mkS (e 1)), .string (mkS (e 2))]
/-- Its address, where it has an element. -/
theorem Sl.at0 {T : TypeId} {sz n m cap : Nat} {A : Option Addr} {xs : List Value} {ob : List Blk} (h : Sl T sz (.slice A n cap) m xs ob) (h0 : 0 < m) : ∃ g, A = some ⟨g, 0, none⟩ ∧ m ≤ cap := by
  rcases h.2 with ⟨_, h2, _⟩ | ⟨q, c, cur, h1, h2, h3, _⟩
  · omega
  · injection h1 with e1 e2 e3
    exact ⟨q, e1, by omega⟩
/-- A platform's values are few bytes each. -/
structure PfS (e : Pf) : Prop where
  h0 : (e 0).length ≤ 1000000
  h1 : (e 1).length ≤ 1000000
  h2 : (e 2).length ≤ 1000000
end Go.Proofs.Ytglbfknmeojfkaa
end

section
/-
  linchpinref1.Word; linchpinref10: EnvMay, leaf, key, wrap: what they return; nothing that was there is changed. Conditions: strings of at most a million bytes.
-/
namespace Go.Proofs.Ytglbfknmeojfkaa
open Go.RowKit
set_option maxRecDepth 100000
set_option linter.unusedVariables false
set_option linter.unusedSimpArgs false
set_option linter.unnecessarySimpa false
set_option maxHeartbeats 2000000

theorem wdB_or {c : Int} : wdB c = (letB c || digB c || decide (c = 95)) := rfl
theorem r1low_any (c : UInt8) (W : World) : Calls Try.prog 55 #[.int .u8 (c.toNat : Int)] W fun e w' => e = .returned (.bool (letB (c.toNat : Int))) ∧ Below W.heap.size W w' := by
  refine calls_ok (n := 9) Try.func55 rfl (by kernel_rfl) (by kernel_rfl) ?_
  refine ok_seq ?_
  refine ok_region ?_
  refine s_val (.bool false) (by kernel_rfl) (fun _ => by kernel_rfl) ?_
  refine s_nil ?_
  refine fin_seq ?_
  refine ok_seq ?_
  refine ok_region ?_
  refine s_val (.int .u8 (c.toNat : Int)) (by kernel_rfl) (fun _ => by kernel_rfl) ?_
  by_cases h1 : (97 : Int) ≤ (c.toNat : Int)
  · skip
    refine s_dec (p := (97 : Int) ≤ (c.toNat : Int)) true (by kernel_rfl) (fun _ => by kernel_rfl) (decide_eq_true (h1)) ?_
    refine s_val (.bool true) (by kernel_rfl) (fun _ => by kernel_rfl) ?_
    refine s_val (.int .u8 (c.toNat : Int)) (by kernel_rfl) (fun _ => by kernel_rfl) ?_
    by_cases h2 : (c.toNat : Int) ≤ 122
    · skip
      refine s_dec (p := (c.toNat : Int) ≤ 122) true (by kernel_rfl) (fun _ => by kernel_rfl) (decide_eq_true (h2)) ?_
      refine s_val (.bool true) (by kernel_rfl) (fun _ => by kernel_rfl) ?_
      refine s_val (.bool true) (by kernel_rfl) (fun _ => by kernel_rfl) ?_
      refine s_nil ?_
      refine fin_seq ?_
      refine ok_ret ?_
      refine fin_ret (.bool true) Try.results55 (by kernel_rfl) ?_
      exact fun w hO => ⟨by rw [show letB (c.toNat : Int) = true from by unfold letB; simp; try omega], hO.below⟩
    · skip
      refine s_dec (p := (c.toNat : Int) ≤ 122) false (by kernel_rfl) (fun _ => by kernel_rfl) (decide_eq_false (h2)) ?_
      refine s_val (.bool false) (by kernel_rfl) (fun _ => by kernel_rfl) ?_
      refine s_val (.bool false) (by kernel_rfl) (fun _ => by kernel_rfl) ?_
      refine s_nil ?_
      refine fin_seq ?_
      refine ok_ret ?_
      refine fin_ret (.bool false) Try.results55 (by kernel_rfl) ?_
      exact fun w hO => ⟨by rw [show letB (c.toNat : Int) = false from by unfold letB; simp; try omega], hO.below⟩
  · skip
    refine s_dec (p := (97 : Int) ≤ (c.toNat : Int)) false (by kernel_rfl) (fun _ => by kernel_rfl) (decide_eq_false (h1)) ?_
    refine s_val (.bool false) (by kernel_rfl) (fun _ => by kernel_rfl) ?_
    refine s_skip (by kernel_rfl) ?_
    refine s_skip (by kernel_rfl) ?_
    refine s_val (.bool false) (by kernel_rfl) (fun _ => by kernel_rfl) ?_
    refine s_val (.bool false) (by kernel_rfl) (fun _ => by kernel_rfl) ?_
    refine s_nil ?_
    refine fin_seq ?_
    refine ok_ret ?_
    refine fin_ret (.bool false) Try.results55 (by kernel_rfl) ?_
    exact fun w hO => ⟨by rw [show letB (c.toNat : Int) = false from by unfold letB; simp; try omega], hO.below⟩
theorem r1digit_any (c : UInt8) (W : World) : Calls Try.prog 56 #[.int .u8 (c.toNat : Int)] W fun e w' => e = .returned (.bool (digB (c.toNat : Int))) ∧ Below W.heap.size W w' := by
  refine calls_ok (n := 9) Try.func56 rfl (by kernel_rfl) (by kernel_rfl) ?_
  refine ok_seq ?_
  refine ok_region ?_
  refine s_val (.bool false) (by kernel_rfl) (fun _ => by kernel_rfl) ?_
  refine s_nil ?_
  refine fin_seq ?_
  refine ok_seq ?_
  refine ok_region ?_
  refine s_val (.int .u8 (c.toNat : Int)) (by kernel_rfl) (fun _ => by kernel_rfl) ?_
  by_cases h1 : (48 : Int) ≤ (c.toNat : Int)
  · skip
    refine s_dec (p := (48 : Int) ≤ (c.toNat : Int)) true (by kernel_rfl) (fun _ => by kernel_rfl) (decide_eq_true (h1)) ?_
    refine s_val (.bool true) (by kernel_rfl) (fun _ => by kernel_rfl) ?_
    refine s_val (.int .u8 (c.toNat : Int)) (by kernel_rfl) (fun _ => by kernel_rfl) ?_
    by_cases h2 : (c.toNat : Int) ≤ 57
    · skip
      refine s_dec (p := (c.toNat : Int) ≤ 57) true (by kernel_rfl) (fun _ => by kernel_rfl) (decide_eq_true (h2)) ?_
      refine s_val (.bool true) (by kernel_rfl) (fun _ => by kernel_rfl) ?_
      refine s_val (.bool true) (by kernel_rfl) (fun _ => by kernel_rfl) ?_
      refine s_nil ?_
      refine fin_seq ?_
      refine ok_ret ?_
      refine fin_ret (.bool true) Try.results56 (by kernel_rfl) ?_
      exact fun w hO => ⟨by rw [show digB (c.toNat : Int) = true from by unfold digB; simp; try omega], hO.below⟩
    · skip
      refine s_dec (p := (c.toNat : Int) ≤ 57) false (by kernel_rfl) (fun _ => by kernel_rfl) (decide_eq_false (h2)) ?_
      refine s_val (.bool false) (by kernel_rfl) (fun _ => by kernel_rfl) ?_
      refine s_val (.bool false) (by kernel_rfl) (fun _ => by kernel_rfl) ?_
      refine s_nil ?_
      refine fin_seq ?_
      refine ok_ret ?_
      refine fin_ret (.bool false) Try.results56 (by kernel_rfl) ?_
      exact fun w hO => ⟨by rw [show digB (c.toNat : Int) = false from by unfold digB; simp; try omega], hO.below⟩
  · skip
    refine s_dec (p := (48 : Int) ≤ (c.toNat : Int)) false (by kernel_rfl) (fun _ => by kernel_rfl) (decide_eq_false (h1)) ?_
    refine s_val (.bool false) (by kernel_rfl) (fun _ => by kernel_rfl) ?_
    refine s_skip (by kernel_rfl) ?_
    refine s_skip (by kernel_rfl) ?_
    refine s_val (.bool false) (by kernel_rfl) (fun _ => by kernel_rfl) ?_
    refine s_val (.bool false) (by kernel_rfl) (fun _ => by kernel_rfl) ?_
    refine s_nil ?_
    refine fin_seq ?_
    refine ok_ret ?_
    refine fin_ret (.bool false) Try.results56 (by kernel_rfl) ?_
    exact fun w hO => ⟨by rw [show digB (c.toNat : Int) = false from by unfold digB; simp; try omega], hO.below⟩
theorem r1Word_any (s : List UInt8) (W : World) (hs : s.length ≤ 1000000) : Calls Try.prog 31 #[.string (mkS s)] W fun e w' => e = .returned (.bool (wdL s)) ∧ Below W.heap.size W w' := by
  have hsz := mkS_sz s
  refine calls_ok (n := 36) Try.func31 rfl (by kernel_rfl) (by kernel_rfl) ?_
  refine ok_seq ?_
  refine ok_region ?_
  refine s_val (.bool false) (by kernel_rfl) (fun _ => by kernel_rfl) ?_
  refine s_nil ?_
  refine fin_seq ?_
  refine ok_seq ?_
  refine ok_seq ?_
  refine ok_region ?_
  refine s_val (.string (mkS s)) (by kernel_rfl) (fun _ => by kernel_rfl) ?_
  refine s_val (.int .i64 ((mkS s).size)) (by kernel_rfl) (fun _ => by kernel_rfl) ?_
  by_cases h1 : ((mkS s).size : Int) < 1
  · skip
    refine s_dec (p := ((mkS s).size : Int) < 1) true (by kernel_rfl) (fun _ => by kernel_rfl) (decide_eq_true (h1)) ?_
    refine s_val (.bool true) (by kernel_rfl) (fun _ => by kernel_rfl) ?_
    refine s_skip (by kernel_rfl) ?_
    refine s_skip (by kernel_rfl) ?_
    refine s_skip (by kernel_rfl) ?_
    refine s_val (.bool true) (by kernel_rfl) (fun _ => by kernel_rfl) ?_
    refine s_nil ?_
    refine fin_seq ?_
    refine ok_true (by kernel_rfl) ?_
    refine ok_seq ?_
    refine ok_region ?_
    refine s_val (.bool false) (by kernel_rfl) (fun _ => by kernel_rfl) ?_
    refine s_nil ?_
    refine fin_seq ?_
    refine ok_ret ?_
    refine fin_seq_ret ?_
    refine fin_ret (.bool false) Try.results31 (by kernel_rfl) ?_
    exact fun w hO => ⟨by rw [show wdL s = false from by unfold wdL; rw [decide_eq_false (by omega)]; rfl], hO.below⟩
  · skip
    refine s_dec (p := ((mkS s).size : Int) < 1) false (by kernel_rfl) (fun _ => by kernel_rfl) (decide_eq_false (h1)) ?_
    refine s_val (.bool false) (by kernel_rfl) (fun _ => by kernel_rfl) ?_
    refine s_val (.string (mkS s)) (by kernel_rfl) (fun _ => by kernel_rfl) ?_
    refine s_val (.int .i64 ((mkS s).size)) (by kernel_rfl) (fun _ => by kernel_rfl) ?_
    by_cases h2 : (12 : Int) < (mkS s).size
    · skip
      refine s_dec (p := (12 : Int) < (mkS s).size) true (by kernel_rfl) (fun _ => by kernel_rfl) (decide_eq_true (h2)) ?_
      refine s_val (.bool true) (by kernel_rfl) (fun _ => by kernel_rfl) ?_
      refine s_nil ?_
      refine fin_seq ?_
      refine ok_true (by kernel_rfl) ?_
      refine ok_seq ?_
      refine ok_region ?_
      refine s_val (.bool false) (by kernel_rfl) (fun _ => by kernel_rfl) ?_
      refine s_nil ?_
      refine fin_seq ?_
      refine ok_ret ?_
      refine fin_seq_ret ?_
      refine fin_ret (.bool false) Try.results31 (by kernel_rfl) ?_
      exact fun w hO => ⟨by rw [show wdL s = false from by unfold wdL; rw [decide_eq_false (by omega)]; rfl], hO.below⟩
    · skip
      refine s_dec (p := (12 : Int) < (mkS s).size) false (by kernel_rfl) (fun _ => by kernel_rfl) (decide_eq_false (h2)) ?_
      refine s_val (.bool false) (by kernel_rfl) (fun _ => by kernel_rfl) ?_
      refine s_nil ?_
      refine fin_seq ?_
      refine ok_false (by kernel_rfl) ?_
      refine ok_skip ?_
      refine fin_seq ?_
      refine ok_seq ?_
      refine ok_seq ?_
      refine ok_region ?_
      refine s_val (.int .i64 0) (by kernel_rfl) (fun _ => by kernel_rfl) ?_
      refine s_nil ?_
      refine fin_seq ?_
      refine ok_block ?_
      refine ok_loop (fun L f m => ∃ (i : Nat) (j : Nat → Value), (i ≤ s.length ∧ wordGo (s.drop i) = wordGo s) ∧ L = [] ∧ f = upds j [(0, .string (mkS s)), (3, .int .i64 (i : Int))] ∧ m = s.length - i) (s.length - 0) ⟨0, _, ⟨Nat.zero_le _, by rw [List.drop_zero]⟩, rfl, upds_self _ ⟨by kernel_rfl, by kernel_rfl, trivial⟩, rfl⟩ ?_
      rintro L f m ⟨i, j, hrel, rfl, rfl, rfl⟩
      have hi6 := hrel.1
      refine ok_seq ?_
      refine ok_seq ?_
      refine ok_region ?_
      refine s_val (.int .i64 (i : Int)) (by kernel_rfl) (fun _ => by kernel_rfl) ?_
      refine s_val (.string (mkS s)) (by kernel_rfl) (fun _ => by kernel_rfl) ?_
      refine s_val (.int .i64 ((mkS s).size)) (by kernel_rfl) (fun _ => by kernel_rfl) ?_
      by_cases h3 : (i : Int) < (mkS s).size
      · skip
        have hi : i < s.length := by omega
        obtain ⟨c, hc⟩ : ∃ c, s[i] = c := ⟨_, rfl⟩
        have hdr : s.drop i = c :: s.drop (i + 1) := by rw [← hc]; exact List.drop_eq_getElem_cons hi
        refine s_dec (p := (i : Int) < (mkS s).size) true (by kernel_rfl) (fun _ => by kernel_rfl) (decide_eq_true (h3)) ?_
        refine s_nil ?_
        refine fin_seq ?_
        refine ok_true (by kernel_rfl) ?_
        refine ok_skip ?_
        refine fin_seq ?_
        refine ok_seq ?_
        refine ok_block ?_
        refine ok_seq ?_
        refine ok_region ?_
        refine s_val (.string (mkS s)) (by kernel_rfl) (fun _ => by kernel_rfl) ?_
        refine s_val (.int .i64 (i : Int)) (by kernel_rfl) (fun _ => by kernel_rfl) ?_
        refine s_val (.int .u8 (c.toNat : Int)) (by kernel_rfl) (fun w => by rw [← hc]; exact run_stridx (s := s) (k := .i64) (j := (i : Int)) rfl (by kernel_rfl) (by kernel_rfl) Try.underlying9 (by omega) (by omega) w) ?_
        refine s_call (k := 55) (args := #[.int .u8 (c.toNat : Int)]) (.bool (letB (c.toNat : Int))) (by kernel_rfl) (fun _ => by kernel_rfl) (fun w _ => r1low_any c w) ?_
        cases h4 : letB (c.toNat : Int) with
        | true =>
          refine s_val (.bool false) (by kernel_rfl) (fun _ => by kernel_rfl) ?_
          refine s_val (.bool false) (by kernel_rfl) (fun _ => by kernel_rfl) ?_
          refine s_skip (by kernel_rfl) ?_
          refine s_skip (by kernel_rfl) ?_
          refine s_skip (by kernel_rfl) ?_
          refine s_skip (by kernel_rfl) ?_
          refine s_skip (by kernel_rfl) ?_
          refine s_val (.bool false) (by kernel_rfl) (fun _ => by kernel_rfl) ?_
          refine s_val (.bool false) (by kernel_rfl) (fun _ => by kernel_rfl) ?_
          refine s_skip (by kernel_rfl) ?_
          refine s_skip (by kernel_rfl) ?_
          refine s_skip (by kernel_rfl) ?_
          refine s_skip (by kernel_rfl) ?_
          refine s_val (.bool false) (by kernel_rfl) (fun _ => by kernel_rfl) ?_
          refine s_nil ?_
          refine fin_seq ?_
          refine ok_false (by kernel_rfl) ?_
          refine ok_skip ?_
          refine fin_block ?_
          refine fin_seq ?_
          refine ok_region ?_
          refine s_val (.int .i64 (i : Int)) (by kernel_rfl) (fun _ => by kernel_rfl) ?_
          refine s_sum (k := .i64) (((i + 1 : Nat) : Int)) (by kernel_rfl) (fun _ => by kernel_rfl) (IntWalk.i64_in _ (by omega)) ?_
          refine s_val (.int .i64 ((i + 1 : Nat) : Int)) (by kernel_rfl) (fun _ => by kernel_rfl) ?_
          refine s_nil ?_
          have hnext : wordGo (s.drop (i + 1)) = wordGo s := by rw [← hrel.2, hdr]; refine (wordGo_ok c _ ?_).symm; rw [wdB_or]; simp [h1, h2, h3, h4]
          exact fin_round (m' := s.length - (i + 1)) (by omega) ⟨i + 1, _, ⟨by omega, hnext⟩, rfl, upds_self _ ⟨by kernel_rfl, by kernel_rfl, trivial⟩, rfl⟩
        | false =>
          refine s_val (.bool true) (by kernel_rfl) (fun _ => by kernel_rfl) ?_
          refine s_val (.bool true) (by kernel_rfl) (fun _ => by kernel_rfl) ?_
          refine s_val (.string (mkS s)) (by kernel_rfl) (fun _ => by kernel_rfl) ?_
          refine s_val (.int .i64 (i : Int)) (by kernel_rfl) (fun _ => by kernel_rfl) ?_
          refine s_val (.int .u8 (c.toNat : Int)) (by kernel_rfl) (fun w => by rw [← hc]; exact run_stridx (s := s) (k := .i64) (j := (i : Int)) rfl (by kernel_rfl) (by kernel_rfl) Try.underlying9 (by omega) (by omega) w) ?_
          refine s_call (k := 56) (args := #[.int .u8 (c.toNat : Int)]) (.bool (digB (c.toNat : Int))) (by kernel_rfl) (fun _ => by kernel_rfl) (fun w _ => r1digit_any c w) ?_
          cases h5 : digB (c.toNat : Int) with
          | true =>
            refine s_val (.bool false) (by kernel_rfl) (fun _ => by kernel_rfl) ?_
            refine s_val (.bool false) (by kernel_rfl) (fun _ => by kernel_rfl) ?_
            refine s_val (.bool false) (by kernel_rfl) (fun _ => by kernel_rfl) ?_
            refine s_skip (by kernel_rfl) ?_
            refine s_skip (by kernel_rfl) ?_
            refine s_skip (by kernel_rfl) ?_
            refine s_skip (by kernel_rfl) ?_
            refine s_val (.bool false) (by kernel_rfl) (fun _ => by kernel_rfl) ?_
            refine s_nil ?_
            refine fin_seq ?_
            refine ok_false (by kernel_rfl) ?_
            refine ok_skip ?_
            refine fin_block ?_
            refine fin_seq ?_
            refine ok_region ?_
            refine s_val (.int .i64 (i : Int)) (by kernel_rfl) (fun _ => by kernel_rfl) ?_
            refine s_sum (k := .i64) (((i + 1 : Nat) : Int)) (by kernel_rfl) (fun _ => by kernel_rfl) (IntWalk.i64_in _ (by omega)) ?_
            refine s_val (.int .i64 ((i + 1 : Nat) : Int)) (by kernel_rfl) (fun _ => by kernel_rfl) ?_
            refine s_nil ?_
            have hnext : wordGo (s.drop (i + 1)) = wordGo s := by rw [← hrel.2, hdr]; refine (wordGo_ok c _ ?_).symm; rw [wdB_or]; simp [h1, h2, h3, h4, h5]
            exact fin_round (m' := s.length - (i + 1)) (by omega) ⟨i + 1, _, ⟨by omega, hnext⟩, rfl, upds_self _ ⟨by kernel_rfl, by kernel_rfl, trivial⟩, rfl⟩
          | false =>
            refine s_val (.bool true) (by kernel_rfl) (fun _ => by kernel_rfl) ?_
            refine s_val (.bool true) (by kernel_rfl) (fun _ => by kernel_rfl) ?_
            refine s_val (.bool true) (by kernel_rfl) (fun _ => by kernel_rfl) ?_
            refine s_val (.string (mkS s)) (by kernel_rfl) (fun _ => by kernel_rfl) ?_
            refine s_val (.int .i64 (i : Int)) (by kernel_rfl) (fun _ => by kernel_rfl) ?_
            refine s_val (.int .u8 (c.toNat : Int)) (by kernel_rfl) (fun w => by rw [← hc]; exact run_stridx (s := s) (k := .i64) (j := (i : Int)) rfl (by kernel_rfl) (by kernel_rfl) Try.underlying9 (by omega) (by omega) w) ?_
            by_cases h6 : (c.toNat : Int) = 95
            · skip
              refine s_ndec (p := (c.toNat : Int) = 95) true (by kernel_rfl) (fun _ => by kernel_rfl) (decide_eq_true (h6)) ?_
              refine s_val (.bool false) (by kernel_rfl) (fun _ => by kernel_rfl) ?_
              refine s_nil ?_
              refine fin_seq ?_
              refine ok_false (by kernel_rfl) ?_
              refine ok_skip ?_
              refine fin_block ?_
              refine fin_seq ?_
              refine ok_region ?_
              refine s_val (.int .i64 (i : Int)) (by kernel_rfl) (fun _ => by kernel_rfl) ?_
              refine s_sum (k := .i64) (((i + 1 : Nat) : Int)) (by kernel_rfl) (fun _ => by kernel_rfl) (IntWalk.i64_in _ (by omega)) ?_
              refine s_val (.int .i64 ((i + 1 : Nat) : Int)) (by kernel_rfl) (fun _ => by kernel_rfl) ?_
              refine s_nil ?_
              have hnext : wordGo (s.drop (i + 1)) = wordGo s := by rw [← hrel.2, hdr]; refine (wordGo_ok c _ ?_).symm; rw [wdB_or]; simp [h1, h2, h3, h4, h5, h6]
              exact fin_round (m' := s.length - (i + 1)) (by omega) ⟨i + 1, _, ⟨by omega, hnext⟩, rfl, upds_self _ ⟨by kernel_rfl, by kernel_rfl, trivial⟩, rfl⟩
            · skip
              refine s_ndec (p := (c.toNat : Int) = 95) false (by kernel_rfl) (fun _ => by kernel_rfl) (decide_eq_false (h6)) ?_
              refine s_val (.bool true) (by kernel_rfl) (fun _ => by kernel_rfl) ?_
              refine s_nil ?_
              refine fin_seq ?_
              refine ok_true (by kernel_rfl) ?_
              refine ok_seq ?_
              refine ok_region ?_
              refine s_val (.bool false) (by kernel_rfl) (fun _ => by kernel_rfl) ?_
              refine s_nil ?_
              refine fin_seq ?_
              refine ok_ret ?_
              refine fin_block_ret ?_
              refine fin_seq_ret ?_
              refine fin_round_ret ?_
              refine fin_block_ret ?_
              refine fin_seq_ret ?_
              refine fin_ret (.bool false) Try.results31 (by kernel_rfl) ?_
              exact fun w hO => ⟨by rw [show wdL s = false from by unfold wdL; rw [← hrel.2, hdr, wordGo_bad c _ (by rw [wdB_or]; simp [h1, h2, h3, h4, h5, h6]; try omega)]; simp], hO.below⟩
      · skip
        refine s_dec (p := (i : Int) < (mkS s).size) false (by kernel_rfl) (fun _ => by kernel_rfl) (decide_eq_false (h3)) ?_
        refine s_nil ?_
        refine fin_seq ?_
        refine ok_false (by kernel_rfl) ?_
        refine ok_exit ?_
        refine fin_seq_exit ?_
        refine fin_round_exit ?_
        refine fin_block_exit ?_
        refine fin_seq ?_
        refine ok_seq ?_
        refine ok_region ?_
        refine s_val (.bool true) (by kernel_rfl) (fun _ => by kernel_rfl) ?_
        refine s_nil ?_
        refine fin_seq ?_
        refine ok_ret ?_
        refine fin_ret (.bool true) Try.results31 (by kernel_rfl) ?_
        exact fun w hO => ⟨by rw [show wdL s = true from by unfold wdL; rw [← hrel.2, List.drop_of_length_le (by omega)]; simp [wordGo]; omega], hO.below⟩
def wrapB (c : Bool) (s : List UInt8) : List UInt8 := if c then [40, 32] ++ s ++ [32, 41] else s
end Go.Proofs.Ytglbfknmeojfkaa
end

section
/-
  The document's own answer for chapter 1 (linchpinref1): what low, digit, Name and Word return, for every argument and in every world: the same plain functions as package ident's. Conditions: none.
-/
namespace Go.Proofs.Ytglbfknmeojfkaa
open Go.RowKit

theorem low_is (r : Int) (b : Bool) (hb : letB r = b) (w : World) :
    Calls Try.prog 55 #[.int .u8 r] w fun e w' => e = .returned (.bool b) ∧ w = w' := by
  subst hb
  unfold letB
  go_enter Try.func55, Try.ntmps55
  go_wp2
  all_goals go_ret
  all_goals exact ⟨ret_bool (by simp; try omega), rfl⟩

end Go.Proofs.Ytglbfknmeojfkaa
end

section
/-
  The document's own answer for chapter 1 (linchpinref1): Name returns nameB for every string and in every world. Conditions: none.
-/
namespace Go.Proofs.Ytglbfknmeojfkaa
open Go.RowKit

theorem nameB_short (s : ByteArray) (h : s.size < 1) : nameB s = false := by
  have : s.data.toList = [] := by have := drop_end s 0 (by omega); simpa using this
  unfold nameB; rw [this]; simp [nameGo]

set_option maxHeartbeats 2000000 in
theorem rname_any (s : ByteArray) (w : World) (hs : s.size ≤ maxLen) :
    Calls Try.prog 33 #[.string s] w fun e w' => e = .returned (.bool (nameB s)) ∧ w = w' := by
  unfold maxLen at hs
  by_cases h0 : s.size < 1
  · go_enter Try.func33, Try.ntmps33
    go_wp2
    go_ret
    exact ⟨ret_bool (by rw [nameB_short s h0]), rfl⟩
  · have hp0 : 0 < s.size := by omega
    by_cases h16 : s.size ≤ 16
    · have HB := Lib.hid (nameB_ref s hp0 h16)
      by_cases hl : letB s[0].toNat = true
      · have HL := Lib.hid hl
        clear hl
        by_cases h45 : (s[s.size - 1].toNat : Int) = 45
        · have H45 := Lib.hid h45
          have h45b : ((s[s.size - 1].toNat : Int) == 45) = true := by simp [h45]
          clear h45
          go_enter Try.func33, Try.ntmps33
          go_wp2_with (go_at_call 55; refine (low_is _ true HL.out _).mono ?_; rintro e w' ⟨rfl, rfl⟩)
          go_ret
          exact ⟨ret_bool (by rw [HB.out, HL.out, H45.out]; rfl), rfl⟩
        · have h45b : ((s[s.size - 1].toNat : Int) == 45) = false := by simpa using h45
          go_enter Try.func33, Try.ntmps33
          go_wp2_with (go_at_call 55; refine (low_is _ true HL.out _).mono ?_; rintro e w' ⟨rfl, rfl⟩)
          go_loop [3] (fun i => ∃ (k : Nat) (hk : k < s.size), i = .int .i64 (k + 1 : Nat) ∧ Hid (nameRef s[k].toNat (s.data.toList.drop (k + 1)) = nameRef s[0].toNat (s.data.toList.drop 1))) (fun i => s.size - (intOf i).toNat)
          case atStart => exact ⟨0, hp0, rfl, rfl⟩
          case round =>
            obtain ⟨k, hk, rfl, HR⟩ := hrel
            by_cases hp : k + 1 < s.size
            · have HD := Lib.hid (drop_cons s (k + 1) hp)
              by_cases hl2 : letB s[k + 1].toNat = true
              · have HL2 := Lib.hid hl2
                have hne : ¬ (s[k + 1].toNat : Int) = 45 := by unfold letB at hl2; simp at hl2; omega
                have hcb : ((s[k + 1].toNat : Int) == 45) = false := by simpa using hne
                have HN := Lib.hid hne
                clear hl2 hne
                go_wp2_with (go_at_call 55; refine (low_is _ true HL2.out _).mono ?_; rintro e w' ⟨rfl, rfl⟩)
                go_round
                case rel => exact ⟨k + 1, hp, by go_num, by rw [← HR.out, HD.out, nameRef_ok _ _ _ (by rw [HL2.out]; rfl) (by simp [HN.out])]; rfl⟩
                case measure => simp [intOf]; omega
              · have HL2 := Lib.hid (Bool.eq_false_iff.2 hl2)
                clear hl2
                by_cases hd2 : digB s[k + 1].toNat = true
                · have HG2 := Lib.hid hd2
                  have hne : ¬ (s[k + 1].toNat : Int) = 45 := by unfold digB at hd2; simp at hd2; omega
                  have hcb : ((s[k + 1].toNat : Int) == 45) = false := by simpa using hne
                  have HN := Lib.hid hne
                  clear hd2 hne
                  go_wp2_with (first | (go_at_call 55; refine (low_is _ false HL2.out _).mono ?_; rintro e w' ⟨rfl, rfl⟩) | (go_at_call 56; refine (rdigit_is _ true HG2.out _).mono ?_; rintro e w' ⟨rfl, rfl⟩))
                  go_round
                  case rel => exact ⟨k + 1, hp, by go_num, by rw [← HR.out, HD.out, nameRef_ok _ _ _ (by rw [HL2.out, HG2.out]; rfl) (by simp [HN.out])]; rfl⟩
                  case measure => simp [intOf]; omega
                · have HG2 := Lib.hid (Bool.eq_false_iff.2 hd2)
                  clear hd2
                  by_cases h3 : (s[k + 1].toNat : Int) = 45
                  · have H3 := Lib.hid h3
                    have hcb : ((s[k + 1].toNat : Int) == 45) = true := by simp [h3]
                    have hcn : ((s[k + 1].toNat : Int) != 45) = false := by simp [h3]
                    clear h3
                    by_cases h4 : (s[k].toNat : Int) = 45
                    · have H4 := Lib.hid h4
                      have hpb : ((s[k].toNat : Int) == 45) = true := by simp [h4]
                      clear h4
                      go_wp2_with (first | (go_at_call 55; refine (low_is _ false HL2.out _).mono ?_; rintro e w' ⟨rfl, rfl⟩) | (go_at_call 56; refine (rdigit_is _ false HG2.out _).mono ?_; rintro e w' ⟨rfl, rfl⟩))
                      go_ret
                      exact ⟨ret_bool (by rw [HB.out, ← HR.out, HD.out, nameRef_two _ _ _ H3.out H4.out]; simp), rfl⟩
                    · have hpb : ((s[k].toNat : Int) == 45) = false := by simpa using h4
                      go_wp2_with (first | (go_at_call 55; refine (low_is _ false HL2.out _).mono ?_; rintro e w' ⟨rfl, rfl⟩) | (go_at_call 56; refine (rdigit_is _ false HG2.out _).mono ?_; rintro e w' ⟨rfl, rfl⟩))
                      go_round
                      case rel => exact ⟨k + 1, hp, by go_num, by rw [← HR.out, HD.out, nameRef_ok _ _ _ (by rw [H3.out]; simp) (by simp [h4])]; rfl⟩
                      case measure => simp [intOf]; omega
                  · have hcn : ((s[k + 1].toNat : Int) != 45) = true := by simpa using h3
                    go_wp2_with (first | (go_at_call 55; refine (low_is _ false HL2.out _).mono ?_; rintro e w' ⟨rfl, rfl⟩) | (go_at_call 56; refine (rdigit_is _ false HG2.out _).mono ?_; rintro e w' ⟨rfl, rfl⟩))
                    go_ret
                    exact ⟨ret_bool (by rw [HB.out, ← HR.out, HD.out, nameRef_bad _ _ _ (by rw [HL2.out, HG2.out]; simpa using h3)]; simp), rfl⟩
            · have HD := Lib.hid (drop_end s (k + 1) hp)
              go_wp2
              go_ret
              exact ⟨ret_bool (by rw [HB.out, ← HR.out, HD.out, HL.out, nameRef]; simp [h45]), rfl⟩
      · have HL := Lib.hid (Bool.eq_false_iff.2 hl)
        clear hl
        go_enter Try.func33, Try.ntmps33
        go_wp2_with (go_at_call 55; refine (low_is _ false HL.out _).mono ?_; rintro e w' ⟨rfl, rfl⟩)
        go_ret
        exact ⟨ret_bool (by rw [HB.out, HL.out]; rfl), rfl⟩
    · go_enter Try.func33, Try.ntmps33
      go_wp2
      go_ret
      exact ⟨ret_bool (by unfold nameB; simp [h16]), rfl⟩
end Go.Proofs.Ytglbfknmeojfkaa
end

section
/-
  linchpinref11: Item: what it returns; nothing that was there is changed. Condition: a string of at most a million bytes.
-/
namespace Go.Proofs.Ytglbfknmeojfkaa
open Go.RowKit
set_option maxRecDepth 100000
set_option linter.unusedVariables false
set_option linter.unusedSimpArgs false
set_option linter.unnecessarySimpa false
set_option maxHeartbeats 2000000

theorem r1Name_any (s : List UInt8) (W : World) (hs : s.length ≤ 1000000) : Calls Try.prog 33 #[.string (mkS s)] W fun e w' => e = .returned (.bool (nmL s)) ∧ Below W.heap.size W w' :=
  (rname_any (mkS s) W (by rw [mkS_sz]; unfold maxLen; omega)).mono fun e w' ⟨h, e2⟩ => ⟨h, e2 ▸ Below.refl _ _⟩
theorem kind_w {s : List UInt8} (h : wdL s = true) : kindT s = (1, s, []) := by unfold kindT; rw [if_pos h]
theorem kind_o {s : List UInt8} {c : UInt8} (h : wdL s = false) (h0 : s.head? = some c) (hc : (c.toNat : Int) = 63) (h2 : wdL (s.drop 1) = true) : kindT s = (2, s.drop 1, []) := by
  have : c = 63 := UInt8.toNat_inj.1 (by simp; omega)
  unfold kindT
  rw [if_neg (by rw [h]; simp), if_pos (by rw [h0, this, h2]; rfl)]
theorem kind_two' {s a b : List UInt8} (h : wdL s = false) (hno : ¬ (s.head? = some 63 ∧ wdL (s.drop 1) = true)) (hl : splitL 47 [] s = [a, b]) : kindT s = if nmL a && wdL b then (3, a, b) else (0, [], []) := by
  unfold kindT
  rw [if_neg (by rw [h]; simp), if_neg (by rw [Bool.and_eq_true, decide_eq_true_eq]; exact hno), hl]
theorem kind_not {s : List UInt8} (h : wdL s = false) (hno : ¬ (s.head? = some 63 ∧ wdL (s.drop 1) = true)) (hl : ¬ (splitL 47 [] s).length = 2) : kindT s = (0, [], []) := by
  unfold kindT
  rw [if_neg (by rw [h]; simp), if_neg (by rw [Bool.and_eq_true, decide_eq_true_eq]; exact hno)]
  split
  · rename_i a b e; rw [e] at hl; exact absurd rfl hl
  · rfl
theorem two11_of {l : List (List UInt8)} (h : l.length = 2) : ∃ a b, l = [a, b] := by
  match l, h with
  | [a, b], _ => exact ⟨a, b, rfl⟩
theorem r11Item_any (s : List UInt8) (W : World) (hs : s.length ≤ 1000000) : Calls Try.prog 11 #[.string (mkS s)] W fun e w' => e = .returned (.tuple #[.int .i64 (kindT s).1, .string (mkS (kindT s).2.1), .string (mkS (kindT s).2.2)]) ∧ Below W.heap.size W w' := by
  have hsz := mkS_sz s
  refine calls_ok (n := 47) Try.func11 rfl (by kernel_rfl) (by kernel_rfl) ?_
  refine ok_seq ?_
  refine ok_region ?_
  refine s_val (.int .i64 0) (by kernel_rfl) (fun _ => by kernel_rfl) ?_
  refine s_val (.string ⟨#[]⟩) (by kernel_rfl) (fun _ => by kernel_rfl) ?_
  refine s_val (.string ⟨#[]⟩) (by kernel_rfl) (fun _ => by kernel_rfl) ?_
  refine s_nil ?_
  refine fin_seq ?_
  refine ok_seq ?_
  refine ok_seq ?_
  refine ok_region ?_
  refine s_val (.string (mkS s)) (by kernel_rfl) (fun _ => by kernel_rfl) ?_
  refine s_call (k := 31) (args := #[.string (mkS s)]) (.bool (wdL s)) (by kernel_rfl) (fun _ => by kernel_rfl) (fun w _ => r1Word_any s w hs) ?_
  refine s_nil ?_
  refine fin_seq ?_
  cases h1 : wdL s with
  | true =>
    refine ok_true (by kernel_rfl) ?_
    refine ok_seq ?_
    refine ok_region ?_
    refine s_val (.string (mkS s)) (by kernel_rfl) (fun _ => by kernel_rfl) ?_
    refine s_val (.int .i64 1) (by kernel_rfl) (fun _ => by kernel_rfl) ?_
    refine s_val (.string (mkS s)) (by kernel_rfl) (fun _ => by kernel_rfl) ?_
    refine s_val (.string ⟨#[]⟩) (by kernel_rfl) (fun _ => by kernel_rfl) ?_
    refine s_nil ?_
    refine fin_seq ?_
    refine ok_ret ?_
    refine fin_seq_ret ?_
    refine fin_ret3 (.int .i64 1) (.string (mkS s)) (.string ⟨#[]⟩) Try.results11 (by kernel_rfl) (by kernel_rfl) (by kernel_rfl) ?_
    exact fun w hO => ⟨by rw [show kindT s = (1, s, []) from kind_w h1] <;> rfl, hO.below⟩
  | false =>
    refine ok_false (by kernel_rfl) ?_
    refine ok_skip ?_
    refine fin_seq ?_
    refine ok_seq ?_
    refine ok_seq ?_
    refine ok_region ?_
    refine s_val (.string (mkS s)) (by kernel_rfl) (fun _ => by kernel_rfl) ?_
    refine s_val (.int .i64 ((mkS s).size)) (by kernel_rfl) (fun _ => by kernel_rfl) ?_
    by_cases h2 : (0 : Int) < (mkS s).size
    · skip
      have h0s : 0 < s.length := by omega
      obtain ⟨c, hc⟩ : ∃ c, s[0] = c := ⟨_, rfl⟩
      have hhd : s.head? = some c := by rw [List.head?_eq_getElem?, List.getElem?_eq_getElem h0s, hc]
      refine s_dec (p := (0 : Int) < (mkS s).size) true (by kernel_rfl) (fun _ => by kernel_rfl) (decide_eq_true (h2)) ?_
      refine s_val (.bool true) (by kernel_rfl) (fun _ => by kernel_rfl) ?_
      refine s_val (.string (mkS s)) (by kernel_rfl) (fun _ => by kernel_rfl) ?_
      refine s_val (.int .u8 (c.toNat : Int)) (by kernel_rfl) (fun w => by rw [← hc]; exact run_stridx (s := s) (k := .i64) (j := 0) rfl (by kernel_rfl) (by kernel_rfl) Try.underlying9 (by omega) (by simpa using h0s) w) ?_
      by_cases h3 : (c.toNat : Int) = 63
      · skip
        refine s_dec (p := (c.toNat : Int) = 63) true (by kernel_rfl) (fun _ => by kernel_rfl) (decide_eq_true (h3)) ?_
        refine s_val (.bool true) (by kernel_rfl) (fun _ => by kernel_rfl) ?_
        refine s_val (.bool true) (by kernel_rfl) (fun _ => by kernel_rfl) ?_
        refine s_val (.string (mkS s)) (by kernel_rfl) (fun _ => by kernel_rfl) ?_
        refine s_val (.string (mkS (s.drop 1))) (by kernel_rfl) (run_strlo (s := s) (k := .i64) (j := 1) rfl (by kernel_rfl) (by kernel_rfl) Try.underlying9 (by omega) (by omega)) ?_
        refine s_call (k := 31) (args := #[.string (mkS (s.drop 1))]) (.bool (wdL (s.drop 1))) (by kernel_rfl) (fun _ => by kernel_rfl) (fun w _ => r1Word_any (s.drop 1) w (by rw [List.length_drop]; omega)) ?_
        refine s_val (.bool (wdL (s.drop 1))) (by kernel_rfl) (fun _ => by kernel_rfl) ?_
        refine s_nil ?_
        refine fin_seq ?_
        cases h4 : wdL (s.drop 1) with
        | true =>
          refine ok_true (by kernel_rfl) ?_
          refine ok_seq ?_
          refine ok_draw (by kernel_rfl) (by kernel_rfl) ?_
          refine q_val (.string (mkS s)) (by kernel_rfl) (fun _ => by kernel_rfl) ?_
          refine q_val (.string (mkS (s.drop 1))) (by kernel_rfl) (run_strlo (s := s) (k := .i64) (j := 1) rfl (by kernel_rfl) (by kernel_rfl) Try.underlying9 (by omega) (by omega)) ?_
          refine q_val (.int .i64 2) (by kernel_rfl) (fun _ => by kernel_rfl) ?_
          refine q_val (.string (mkS (s.drop 1))) (by kernel_rfl) (fun _ => by kernel_rfl) ?_
          refine q_val (.string ⟨#[]⟩) (by kernel_rfl) (fun _ => by kernel_rfl) ?_
          refine q_nil ?_
          refine fin_seq ?_
          refine ok_ret ?_
          refine fin_seq_ret ?_
          refine fin_ret3 (.int .i64 2) (.string (mkS (s.drop 1))) (.string ⟨#[]⟩) Try.results11 (by kernel_rfl) (by kernel_rfl) (by kernel_rfl) ?_
          exact fun w hO => ⟨by rw [show kindT s = (2, s.drop 1, []) from kind_o h1 hhd h3 h4] <;> rfl, hO.below⟩
        | false =>
          have hno : ¬ (s.head? = some 63 ∧ wdL (s.drop 1) = true) := fun q => by rw [h4] at q; cases q.2
          refine ok_false (by kernel_rfl) ?_
          refine ok_skip ?_
          refine fin_seq ?_
          refine ok_seq ?_
          refine ok_region ?_
          refine s_val (.string (mkS s)) (by kernel_rfl) (fun _ => by kernel_rfl) ?_
          refine s_callo (k := 32) (args := #[.string (mkS s), .int .u8 47]) (fun v' L' => ∃ ob', L' = ob' ++ (([] : List Blk)) ∧ SlT v' (splitL 47 [] s) ob') (by kernel_rfl) (fun _ => by kernel_rfl) (fun w hO => (rsplitB_own s 47 w hs).mono fun e w' ⟨v', ob', k1, k2, k3⟩ => ⟨v', _, k1, ⟨ob', rfl, k2⟩, Own.joinN hO k3⟩) (fun vw Lw hvw => ?_)
          obtain ⟨ow, rfl, hsw⟩ := hvw
          obtain ⟨AW, cw, rfl⟩ := hsw.form
          refine s_cast (L' := ow) (List.append_nil _) ?_
          refine s_val (.slice AW ((splitL 47 [] s).length) cw) (by kernel_rfl) (fun _ => by kernel_rfl) ?_
          refine s_nil ?_
          refine fin_seq ?_
          refine ok_seq ?_
          refine ok_seq ?_
          refine ok_region ?_
          refine s_val (.slice AW ((splitL 47 [] s).length) cw) (by kernel_rfl) (fun _ => by kernel_rfl) ?_
          refine s_val (.int .i64 ((splitL 47 [] s).length : Int)) (by kernel_rfl) (fun _ => by kernel_rfl) ?_
          by_cases h5 : ((splitL 47 [] s).length : Int) = 2
          · skip
            obtain ⟨x, y, hxy⟩ := two11_of (l := splitL 47 [] s) (by omega)
            obtain ⟨gb, hgb, hcb⟩ := Sl.at0 hsw (by omega)
            have hxl : x.length ≤ 1000000 := Nat.le_trans (split_le 47 s [] x (by rw [hxy]; simp)) (by simpa using hs)
            have hyl : y.length ≤ 1000000 := Nat.le_trans (split_le 47 s [] y (by rw [hxy]; simp)) (by simpa using hs)
            refine s_dec (p := ((splitL 47 [] s).length : Int) = 2) true (by kernel_rfl) (fun _ => by kernel_rfl) (decide_eq_true (h5)) ?_
            refine s_val (.bool true) (by kernel_rfl) (fun _ => by kernel_rfl) ?_
            refine s_val (.slice AW ((splitL 47 [] s).length) cw) (by kernel_rfl) (fun _ => by kernel_rfl) ?_
            refine s_val (.pointer (some ⟨gb, 0 + 0 * 1, none⟩)) (by kernel_rfl) (run_ixA (b := gb) (off := 0) (c := cw) (n := (splitL 47 [] s).length) (k := .i64) (j := 0) (e := 9) (sz := 1) rfl (by kernel_rfl) hgb (by kernel_rfl) (by kernel_rfl) (by kernel_rfl) (by omega) (by rw [hxy]; show (0 : Int) < 2; omega) (by decide)) ?_
            refine s_old (.string (mkS x)) (a := ⟨gb, 0 + 0 * 1, none⟩) (by kernel_rfl) rfl (by kernel_rfl) (fun w hO => Reads.load strC_len (SlT.reads hsw rfl hO (fun x hx => by simp [hx])) hgb 0 0 (by rw [hxy]; show 0 < 2; omega) rfl _ (by simp only [hxy]; kernel_rfl)) ?_
            refine s_call (k := 33) (args := #[.string (mkS x)]) (.bool (nmL x)) (by kernel_rfl) (fun _ => by kernel_rfl) (fun w _ => r1Name_any x w hxl) ?_
            refine s_val (.bool (nmL x)) (by kernel_rfl) (fun _ => by kernel_rfl) ?_
            refine s_val (.bool (nmL x)) (by kernel_rfl) (fun _ => by kernel_rfl) ?_
            cases h6 : nmL x with
            | true =>
              refine s_val (.slice AW ((splitL 47 [] s).length) cw) (by kernel_rfl) (fun _ => by kernel_rfl) ?_
              refine s_val (.pointer (some ⟨gb, 0 + 1 * 1, none⟩)) (by kernel_rfl) (run_ixA (b := gb) (off := 0) (c := cw) (n := (splitL 47 [] s).length) (k := .i64) (j := 1) (e := 9) (sz := 1) rfl (by kernel_rfl) hgb (by kernel_rfl) (by kernel_rfl) (by kernel_rfl) (by omega) (by rw [hxy]; show (1 : Int) < 2; omega) (by decide)) ?_
              refine s_old (.string (mkS y)) (a := ⟨gb, 0 + 1 * 1, none⟩) (by kernel_rfl) rfl (by kernel_rfl) (fun w hO => Reads.load strC_len (SlT.reads hsw rfl hO (fun x hx => by simp [hx])) hgb 1 0 (by rw [hxy]; show 1 < 2; omega) rfl _ (by simp only [hxy]; kernel_rfl)) ?_
              refine s_call (k := 31) (args := #[.string (mkS y)]) (.bool (wdL y)) (by kernel_rfl) (fun _ => by kernel_rfl) (fun w _ => r1Word_any y w hyl) ?_
              refine s_val (.bool (wdL y)) (by kernel_rfl) (fun _ => by kernel_rfl) ?_
              refine s_nil ?_
              refine fin_seq ?_
              cases h7 : wdL y with
              | true =>
                refine ok_true (by kernel_rfl) ?_
                refine ok_seq ?_
                refine ok_draw (by kernel_rfl) (by kernel_rfl) ?_
                refine q_val (.slice AW ((splitL 47 [] s).length) cw) (by kernel_rfl) (fun _ => by kernel_rfl) ?_
                refine q_val (.pointer (some ⟨gb, 0 + 0 * 1, none⟩)) (by kernel_rfl) (run_ixA (b := gb) (off := 0) (c := cw) (n := (splitL 47 [] s).length) (k := .i64) (j := 0) (e := 9) (sz := 1) rfl (by kernel_rfl) hgb (by kernel_rfl) (by kernel_rfl) (by kernel_rfl) (by omega) (by rw [hxy]; show (0 : Int) < 2; omega) (by decide)) ?_
                refine q_old (.string (mkS x)) (a := ⟨gb, 0 + 0 * 1, none⟩) (by kernel_rfl) rfl (by kernel_rfl) (fun w hO => Reads.load strC_len (SlT.reads hsw rfl hO (fun x hx => by simp [hx])) hgb 0 0 (by rw [hxy]; show 0 < 2; omega) rfl _ (by simp only [hxy]; kernel_rfl)) ?_
                refine q_val (.slice AW ((splitL 47 [] s).length) cw) (by kernel_rfl) (fun _ => by kernel_rfl) ?_
                refine q_val (.pointer (some ⟨gb, 0 + 1 * 1, none⟩)) (by kernel_rfl) (run_ixA (b := gb) (off := 0) (c := cw) (n := (splitL 47 [] s).length) (k := .i64) (j := 1) (e := 9) (sz := 1) rfl (by kernel_rfl) hgb (by kernel_rfl) (by kernel_rfl) (by kernel_rfl) (by omega) (by rw [hxy]; show (1 : Int) < 2; omega) (by decide)) ?_
                refine q_old (.string (mkS y)) (a := ⟨gb, 0 + 1 * 1, none⟩) (by kernel_rfl) rfl (by kernel_rfl) (fun w hO => Reads.load strC_len (SlT.reads hsw rfl hO (fun x hx => by simp [hx])) hgb 1 0 (by rw [hxy]; show 1 < 2; omega) rfl _ (by simp only [hxy]; kernel_rfl)) ?_
                refine q_val (.int .i64 3) (by kernel_rfl) (fun _ => by kernel_rfl) ?_
                refine q_val (.string (mkS x)) (by kernel_rfl) (fun _ => by kernel_rfl) ?_
                refine q_val (.string (mkS y)) (by kernel_rfl) (fun _ => by kernel_rfl) ?_
                refine q_nil ?_
                refine fin_seq ?_
                refine ok_ret ?_
                refine fin_seq_ret ?_
                refine fin_ret3 (.int .i64 3) (.string (mkS x)) (.string (mkS y)) Try.results11 (by kernel_rfl) (by kernel_rfl) (by kernel_rfl) ?_
                exact fun w hO => ⟨by rw [show kindT s = (3, x, y) from by rw [kind_two' h1 hno hxy, if_pos (by rw [h6, h7]; rfl)]] <;> rfl, hO.below⟩
              | false =>
                refine ok_false (by kernel_rfl) ?_
                refine ok_skip ?_
                refine fin_seq ?_
                refine ok_seq ?_
                refine ok_region ?_
                refine s_val (.int .i64 0) (by kernel_rfl) (fun _ => by kernel_rfl) ?_
                refine s_val (.string ⟨#[]⟩) (by kernel_rfl) (fun _ => by kernel_rfl) ?_
                refine s_val (.string ⟨#[]⟩) (by kernel_rfl) (fun _ => by kernel_rfl) ?_
                refine s_nil ?_
                refine fin_seq ?_
                refine ok_ret ?_
                refine fin_ret3 (.int .i64 0) (.string ⟨#[]⟩) (.string ⟨#[]⟩) Try.results11 (by kernel_rfl) (by kernel_rfl) (by kernel_rfl) ?_
                exact fun w hO => ⟨by rw [show kindT s = (0, [], []) from by rw [kind_two' h1 hno hxy, if_neg (by simp [h6, h7])]] <;> rfl, hO.below⟩
            | false =>
              refine s_skip (by kernel_rfl) ?_
              refine s_skip (by kernel_rfl) ?_
              refine s_skip (by kernel_rfl) ?_
              refine s_skip (by kernel_rfl) ?_
              refine s_val (.bool false) (by kernel_rfl) (fun _ => by kernel_rfl) ?_
              refine s_nil ?_
              refine fin_seq ?_
              refine ok_false (by kernel_rfl) ?_
              refine ok_skip ?_
              refine fin_seq ?_
              refine ok_seq ?_
              refine ok_region ?_
              refine s_val (.int .i64 0) (by kernel_rfl) (fun _ => by kernel_rfl) ?_
              refine s_val (.string ⟨#[]⟩) (by kernel_rfl) (fun _ => by kernel_rfl) ?_
              refine s_val (.string ⟨#[]⟩) (by kernel_rfl) (fun _ => by kernel_rfl) ?_
              refine s_nil ?_
              refine fin_seq ?_
              refine ok_ret ?_
              refine fin_ret3 (.int .i64 0) (.string ⟨#[]⟩) (.string ⟨#[]⟩) Try.results11 (by kernel_rfl) (by kernel_rfl) (by kernel_rfl) ?_
              exact fun w hO => ⟨by rw [show kindT s = (0, [], []) from by rw [kind_two' h1 hno hxy, if_neg (by simp [h6])]] <;> rfl, hO.below⟩
          · skip
            refine s_dec (p := ((splitL 47 [] s).length : Int) = 2) false (by kernel_rfl) (fun _ => by kernel_rfl) (decide_eq_false (h5)) ?_
            refine s_val (.bool false) (by kernel_rfl) (fun _ => by kernel_rfl) ?_
            refine s_skip (by kernel_rfl) ?_
            refine s_skip (by kernel_rfl) ?_
            refine s_skip (by kernel_rfl) ?_
            refine s_skip (by kernel_rfl) ?_
            refine s_val (.bool false) (by kernel_rfl) (fun _ => by kernel_rfl) ?_
            refine s_val (.bool false) (by kernel_rfl) (fun _ => by kernel_rfl) ?_
            refine s_skip (by kernel_rfl) ?_
            refine s_skip (by kernel_rfl) ?_
            refine s_skip (by kernel_rfl) ?_
            refine s_skip (by kernel_rfl) ?_
            refine s_val (.bool false) (by kernel_rfl) (fun _ => by kernel_rfl) ?_
            refine s_nil ?_
            refine fin_seq ?_
            refine ok_false (by kernel_rfl) ?_
            refine ok_skip ?_
            refine fin_seq ?_
            refine ok_seq ?_
            refine ok_region ?_
            refine s_val (.int .i64 0) (by kernel_rfl) (fun _ => by kernel_rfl) ?_
            refine s_val (.string ⟨#[]⟩) (by kernel_rfl) (fun _ => by kernel_rfl) ?_
            refine s_val (.string ⟨#[]⟩) (by kernel_rfl) (fun _ => by kernel_rfl) ?_
            refine s_nil ?_
            refine fin_seq ?_
            refine ok_ret ?_
            refine fin_ret3 (.int .i64 0) (.string ⟨#[]⟩) (.string ⟨#[]⟩) Try.results11 (by kernel_rfl) (by kernel_rfl) (by kernel_rfl) ?_
            exact fun w hO => ⟨by rw [show kindT s = (0, [], []) from kind_not h1 hno (by omega)] <;> rfl, hO.below⟩
      · skip
        have hno : ¬ (s.head? = some 63 ∧ wdL (s.drop 1) = true) := fun q => by rw [hhd] at q; exact h3 (by rw [Option.some.inj q.1]; rfl)
        refine s_dec (p := (c.toNat : Int) = 63) false (by kernel_rfl) (fun _ => by kernel_rfl) (decide_eq_false (h3)) ?_
        refine s_val (.bool false) (by kernel_rfl) (fun _ => by kernel_rfl) ?_
        refine s_val (.bool false) (by kernel_rfl) (fun _ => by kernel_rfl) ?_
        refine s_skip (by kernel_rfl) ?_
        refine s_skip (by kernel_rfl) ?_
        refine s_skip (by kernel_rfl) ?_
        refine s_val (.bool false) (by kernel_rfl) (fun _ => by kernel_rfl) ?_
        refine s_nil ?_
        refine fin_seq ?_
        refine ok_false (by kernel_rfl) ?_
        refine ok_skip ?_
        refine fin_seq ?_
        refine ok_seq ?_
        refine ok_region ?_
        refine s_val (.string (mkS s)) (by kernel_rfl) (fun _ => by kernel_rfl) ?_
        refine s_callo (k := 32) (args := #[.string (mkS s), .int .u8 47]) (fun v' L' => ∃ ob', L' = ob' ++ (([] : List Blk)) ∧ SlT v' (splitL 47 [] s) ob') (by kernel_rfl) (fun _ => by kernel_rfl) (fun w hO => (rsplitB_own s 47 w hs).mono fun e w' ⟨v', ob', k1, k2, k3⟩ => ⟨v', _, k1, ⟨ob', rfl, k2⟩, Own.joinN hO k3⟩) (fun vw Lw hvw => ?_)
        obtain ⟨ow, rfl, hsw⟩ := hvw
        obtain ⟨AW, cw, rfl⟩ := hsw.form
        refine s_cast (L' := ow) (List.append_nil _) ?_
        refine s_val (.slice AW ((splitL 47 [] s).length) cw) (by kernel_rfl) (fun _ => by kernel_rfl) ?_
        refine s_nil ?_
        refine fin_seq ?_
        refine ok_seq ?_
        refine ok_seq ?_
        refine ok_region ?_
        refine s_val (.slice AW ((splitL 47 [] s).length) cw) (by kernel_rfl) (fun _ => by kernel_rfl) ?_
        refine s_val (.int .i64 ((splitL 47 [] s).length : Int)) (by kernel_rfl) (fun _ => by kernel_rfl) ?_
        by_cases h8 : ((splitL 47 [] s).length : Int) = 2
        · skip
          obtain ⟨x, y, hxy⟩ := two11_of (l := splitL 47 [] s) (by omega)
          obtain ⟨gb, hgb, hcb⟩ := Sl.at0 hsw (by omega)
          have hxl : x.length ≤ 1000000 := Nat.le_trans (split_le 47 s [] x (by rw [hxy]; simp)) (by simpa using hs)
          have hyl : y.length ≤ 1000000 := Nat.le_trans (split_le 47 s [] y (by rw [hxy]; simp)) (by simpa using hs)
          refine s_dec (p := ((splitL 47 [] s).length : Int) = 2) true (by kernel_rfl) (fun _ => by kernel_rfl) (decide_eq_true (h8)) ?_
          refine s_val (.bool true) (by kernel_rfl) (fun _ => by kernel_rfl) ?_
          refine s_val (.slice AW ((splitL 47 [] s).length) cw) (by kernel_rfl) (fun _ => by kernel_rfl) ?_
          refine s_val (.pointer (some ⟨gb, 0 + 0 * 1, none⟩)) (by kernel_rfl) (run_ixA (b := gb) (off := 0) (c := cw) (n := (splitL 47 [] s).length) (k := .i64) (j := 0) (e := 9) (sz := 1) rfl (by kernel_rfl) hgb (by kernel_rfl) (by kernel_rfl) (by kernel_rfl) (by omega) (by rw [hxy]; show (0 : Int) < 2; omega) (by decide)) ?_
          refine s_old (.string (mkS x)) (a := ⟨gb, 0 + 0 * 1, none⟩) (by kernel_rfl) rfl (by kernel_rfl) (fun w hO => Reads.load strC_len (SlT.reads hsw rfl hO (fun x hx => by simp [hx])) hgb 0 0 (by rw [hxy]; show 0 < 2; omega) rfl _ (by simp only [hxy]; kernel_rfl)) ?_
          refine s_call (k := 33) (args := #[.string (mkS x)]) (.bool (nmL x)) (by kernel_rfl) (fun _ => by kernel_rfl) (fun w _ => r1Name_any x w hxl) ?_
          refine s_val (.bool (nmL x)) (by kernel_rfl) (fun _ => by kernel_rfl) ?_
          refine s_val (.bool (nmL x)) (by kernel_rfl) (fun _ => by kernel_rfl) ?_
          cases h9 : nmL x with
          | true =>
            refine s_val (.slice AW ((splitL 47 [] s).length) cw) (by kernel_rfl) (fun _ => by kernel_rfl) ?_
            refine s_val (.pointer (some ⟨gb, 0 + 1 * 1, none⟩)) (by kernel_rfl) (run_ixA (b := gb) (off := 0) (c := cw) (n := (splitL 47 [] s).length) (k := .i64) (j := 1) (e := 9) (sz := 1) rfl (by kernel_rfl) hgb (by kernel_rfl) (by kernel_rfl) (by kernel_rfl) (by omega) (by rw [hxy]; show (1 : Int) < 2; omega) (by decide)) ?_
            refine s_old (.string (mkS y)) (a := ⟨gb, 0 + 1 * 1, none⟩) (by kernel_rfl) rfl (by kernel_rfl) (fun w hO => Reads.load strC_len (SlT.reads hsw rfl hO (fun x hx => by simp [hx])) hgb 1 0 (by rw [hxy]; show 1 < 2; omega) rfl _ (by simp only [hxy]; kernel_rfl)) ?_
            refine s_call (k := 31) (args := #[.string (mkS y)]) (.bool (wdL y)) (by kernel_rfl) (fun _ => by kernel_rfl) (fun w _ => r1Word_any y w hyl) ?_
            refine s_val (.bool (wdL y)) (by kernel_rfl) (fun _ => by kernel_rfl) ?_
            refine s_nil ?_
            refine fin_seq ?_
            cases h10 : wdL y with
            | true =>
              refine ok_true (by kernel_rfl) ?_
              refine ok_seq ?_
              refine ok_draw (by kernel_rfl) (by kernel_rfl) ?_
              refine q_val (.slice AW ((splitL 47 [] s).length) cw) (by kernel_rfl) (fun _ => by kernel_rfl) ?_
              refine q_val (.pointer (some ⟨gb, 0 + 0 * 1, none⟩)) (by kernel_rfl) (run_ixA (b := gb) (off := 0) (c := cw) (n := (splitL 47 [] s).length) (k := .i64) (j := 0) (e := 9) (sz := 1) rfl (by kernel_rfl) hgb (by kernel_rfl) (by kernel_rfl) (by kernel_rfl) (by omega) (by rw [hxy]; show (0 : Int) < 2; omega) (by decide)) ?_
              refine q_old (.string (mkS x)) (a := ⟨gb, 0 + 0 * 1, none⟩) (by kernel_rfl) rfl (by kernel_rfl) (fun w hO => Reads.load strC_len (SlT.reads hsw rfl hO (fun x hx => by simp [hx])) hgb 0 0 (by rw [hxy]; show 0 < 2; omega) rfl _ (by simp only [hxy]; kernel_rfl)) ?_
              refine q_val (.slice AW ((splitL 47 [] s).length) cw) (by kernel_rfl) (fun _ => by kernel_rfl) ?_
              refine q_val (.pointer (some ⟨gb, 0 + 1 * 1, none⟩)) (by kernel_rfl) (run_ixA (b := gb) (off := 0) (c := cw) (n := (splitL 47 [] s).length) (k := .i64) (j := 1) (e := 9) (sz := 1) rfl (by kernel_rfl) hgb (by kernel_rfl) (by kernel_rfl) (by kernel_rfl) (by omega) (by rw [hxy]; show (1 : Int) < 2; omega) (by decide)) ?_
              refine q_old (.string (mkS y)) (a := ⟨gb, 0 + 1 * 1, none⟩) (by kernel_rfl) rfl (by kernel_rfl) (fun w hO => Reads.load strC_len (SlT.reads hsw rfl hO (fun x hx => by simp [hx])) hgb 1 0 (by rw [hxy]; show 1 < 2; omega) rfl _ (by simp only [hxy]; kernel_rfl)) ?_
              refine q_val (.int .i64 3) (by kernel_rfl) (fun _ => by kernel_rfl) ?_
              refine q_val (.string (mkS x)) (by kernel_rfl) (fun _ => by kernel_rfl) ?_
              refine q_val (.string (mkS y)) (by kernel_rfl) (fun _ => by kernel_rfl) ?_
              refine q_nil ?_
              refine fin_seq ?_
              refine ok_ret ?_
              refine fin_seq_ret ?_
              refine fin_ret3 (.int .i64 3) (.string (mkS x)) (.string (mkS y)) Try.results11 (by kernel_rfl) (by kernel_rfl) (by kernel_rfl) ?_
              exact fun w hO => ⟨by rw [show kindT s = (3, x, y) from by rw [kind_two' h1 hno hxy, if_pos (by rw [h9, h10]; rfl)]] <;> rfl, hO.below⟩
            | false =>
              refine ok_false (by kernel_rfl) ?_
              refine ok_skip ?_
              refine fin_seq ?_
              refine ok_seq ?_
              refine ok_region ?_
              refine s_val (.int .i64 0) (by kernel_rfl) (fun _ => by kernel_rfl) ?_
              refine s_val (.string ⟨#[]⟩) (by kernel_rfl) (fun _ => by kernel_rfl) ?_
              refine s_val (.string ⟨#[]⟩) (by kernel_rfl) (fun _ => by kernel_rfl) ?_
              refine s_nil ?_
              refine fin_seq ?_
              refine ok_ret ?_
              refine fin_ret3 (.int .i64 0) (.string ⟨#[]⟩) (.string ⟨#[]⟩) Try.results11 (by kernel_rfl) (by kernel_rfl) (by kernel_rfl) ?_
              exact fun w hO => ⟨by rw [show kindT s = (0, [], []) from by rw [kind_two' h1 hno hxy, if_neg (by simp [h9, h10])]] <;> rfl, hO.below⟩
          | false =>
            refine s_skip (by kernel_rfl) ?_
            refine s_skip (by kernel_rfl) ?_
            refine s_skip (by kernel_rfl) ?_
            refine s_skip (by kernel_rfl) ?_
            refine s_val (.bool false) (by kernel_rfl) (fun _ => by kernel_rfl) ?_
            refine s_nil ?_
            refine fin_seq ?_
            refine ok_false (by kernel_rfl) ?_
            refine ok_skip ?_
            refine fin_seq ?_
            refine ok_seq ?_
            refine ok_region ?_
            refine s_val (.int .i64 0) (by kernel_rfl) (fun _ => by kernel_rfl) ?_
            refine s_val (.string ⟨#[]⟩) (by kernel_rfl) (fun _ => by kernel_rfl) ?_
            refine s_val (.string ⟨#[]⟩) (by kernel_rfl) (fun _ => by kernel_rfl) ?_
            refine s_nil ?_
            refine fin_seq ?_
            refine ok_ret ?_
            refine fin_ret3 (.int .i64 0) (.string ⟨#[]⟩) (.string ⟨#[]⟩) Try.results11 (by kernel_rfl) (by kernel_rfl) (by kernel_rfl) ?_
            exact fun w hO => ⟨by rw [show kindT s = (0, [], []) from by rw [kind_two' h1 hno hxy, if_neg (by simp [h9])]] <;> rfl, hO.below⟩
        · skip
          refine s_dec (p := ((splitL 47 [] s).length : Int) = 2) false (by kernel_rfl) (fun _ => by kernel_rfl) (decide_eq_false (h8)) ?_
          refine s_val (.bool false) (by kernel_rfl) (fun _ => by kernel_rfl) ?_
          refine s_skip (by kernel_rfl) ?_
          refine s_skip (by kernel_rfl) ?_
          refine s_skip (by kernel_rfl) ?_
          refine s_skip (by kernel_rfl) ?_
          refine s_val (.bool false) (by kernel_rfl) (fun _ => by kernel_rfl) ?_
          refine s_val (.bool false) (by kernel_rfl) (fun _ => by kernel_rfl) ?_
          refine s_skip (by kernel_rfl) ?_
          refine s_skip (by kernel_rfl) ?_
          refine s_skip (by kernel_rfl) ?_
          refine s_skip (by kernel_rfl) ?_
          refine s_val (.bool false) (by kernel_rfl) (fun _ => by kernel_rfl) ?_
          refine s_nil ?_
          refine fin_seq ?_
          refine ok_false (by kernel_rfl) ?_
          refine ok_skip ?_
          refine fin_seq ?_
          refine ok_seq ?_
          refine ok_region ?_
          refine s_val (.int .i64 0) (by kernel_rfl) (fun _ => by kernel_rfl) ?_
          refine s_val (.string ⟨#[]⟩) (by kernel_rfl) (fun _ => by kernel_rfl) ?_
          refine s_val (.string ⟨#[]⟩) (by kernel_rfl) (fun _ => by kernel_rfl) ?_
          refine s_nil ?_
          refine fin_seq ?_
          refine ok_ret ?_
          refine fin_ret3 (.int .i64 0) (.string ⟨#[]⟩) (.string ⟨#[]⟩) Try.results11 (by kernel_rfl) (by kernel_rfl) (by kernel_rfl) ?_
          exact fun w hO => ⟨by rw [show kindT s = (0, [], []) from kind_not h1 hno (by omega)] <;> rfl, hO.below⟩
    · skip
      have hno : ¬ (s.head? = some 63 ∧ wdL (s.drop 1) = true) := fun q => by have : s = [] := List.eq_nil_of_length_eq_zero (by omega); rw [this] at q; cases q.1
      refine s_dec (p := (0 : Int) < (mkS s).size) false (by kernel_rfl) (fun _ => by kernel_rfl) (decide_eq_false (h2)) ?_
      refine s_val (.bool false) (by kernel_rfl) (fun _ => by kernel_rfl) ?_
      refine s_skip (by kernel_rfl) ?_
      refine s_skip (by kernel_rfl) ?_
      refine s_skip (by kernel_rfl) ?_
      refine s_val (.bool false) (by kernel_rfl) (fun _ => by kernel_rfl) ?_
      refine s_val (.bool false) (by kernel_rfl) (fun _ => by kernel_rfl) ?_
      refine s_skip (by kernel_rfl) ?_
      refine s_skip (by kernel_rfl) ?_
      refine s_skip (by kernel_rfl) ?_
      refine s_val (.bool false) (by kernel_rfl) (fun _ => by kernel_rfl) ?_
      refine s_nil ?_
      refine fin_seq ?_
      refine ok_false (by kernel_rfl) ?_
      refine ok_skip ?_
      refine fin_seq ?_
      refine ok_seq ?_
      refine ok_region ?_
      refine s_val (.string (mkS s)) (by kernel_rfl) (fun _ => by kernel_rfl) ?_
      refine s_callo (k := 32) (args := #[.string (mkS s), .int .u8 47]) (fun v' L' => ∃ ob', L' = ob' ++ (([] : List Blk)) ∧ SlT v' (splitL 47 [] s) ob') (by kernel_rfl) (fun _ => by kernel_rfl) (fun w hO => (rsplitB_own s 47 w hs).mono fun e w' ⟨v', ob', k1, k2, k3⟩ => ⟨v', _, k1, ⟨ob', rfl, k2⟩, Own.joinN hO k3⟩) (fun vw Lw hvw => ?_)
      obtain ⟨ow, rfl, hsw⟩ := hvw
      obtain ⟨AW, cw, rfl⟩ := hsw.form
      refine s_cast (L' := ow) (List.append_nil _) ?_
      refine s_val (.slice AW ((splitL 47 [] s).length) cw) (by kernel_rfl) (fun _ => by kernel_rfl) ?_
      refine s_nil ?_
      refine fin_seq ?_
      refine ok_seq ?_
      refine ok_seq ?_
      refine ok_region ?_
      refine s_val (.slice AW ((splitL 47 [] s).length) cw) (by kernel_rfl) (fun _ => by kernel_rfl) ?_
      refine s_val (.int .i64 ((splitL 47 [] s).length : Int)) (by kernel_rfl) (fun _ => by kernel_rfl) ?_
      by_cases h11 : ((splitL 47 [] s).length : Int) = 2
      · skip
        obtain ⟨x, y, hxy⟩ := two11_of (l := splitL 47 [] s) (by omega)
        obtain ⟨gb, hgb, hcb⟩ := Sl.at0 hsw (by omega)
        have hxl : x.length ≤ 1000000 := Nat.le_trans (split_le 47 s [] x (by rw [hxy]; simp)) (by simpa using hs)
        have hyl : y.length ≤ 1000000 := Nat.le_trans (split_le 47 s [] y (by rw [hxy]; simp)) (by simpa using hs)
        refine s_dec (p := ((splitL 47 [] s).length : Int) = 2) true (by kernel_rfl) (fun _ => by kernel_rfl) (decide_eq_true (h11)) ?_
        refine s_val (.bool true) (by kernel_rfl) (fun _ => by kernel_rfl) ?_
        refine s_val (.slice AW ((splitL 47 [] s).length) cw) (by kernel_rfl) (fun _ => by kernel_rfl) ?_
        refine s_val (.pointer (some ⟨gb, 0 + 0 * 1, none⟩)) (by kernel_rfl) (run_ixA (b := gb) (off := 0) (c := cw) (n := (splitL 47 [] s).length) (k := .i64) (j := 0) (e := 9) (sz := 1) rfl (by kernel_rfl) hgb (by kernel_rfl) (by kernel_rfl) (by kernel_rfl) (by omega) (by rw [hxy]; show (0 : Int) < 2; omega) (by decide)) ?_
        refine s_old (.string (mkS x)) (a := ⟨gb, 0 + 0 * 1, none⟩) (by kernel_rfl) rfl (by kernel_rfl) (fun w hO => Reads.load strC_len (SlT.reads hsw rfl hO (fun x hx => by simp [hx])) hgb 0 0 (by rw [hxy]; show 0 < 2; omega) rfl _ (by simp only [hxy]; kernel_rfl)) ?_
        refine s_call (k := 33) (args := #[.string (mkS x)]) (.bool (nmL x)) (by kernel_rfl) (fun _ => by kernel_rfl) (fun w _ => r1Name_any x w hxl) ?_
        refine s_val (.bool (nmL x)) (by kernel_rfl) (fun _ => by kernel_rfl) ?_
        refine s_val (.bool (nmL x)) (by kernel_rfl) (fun _ => by kernel_rfl) ?_
        cases h12 : nmL x with
        | true =>
          refine s_val (.slice AW ((splitL 47 [] s).length) cw) (by kernel_rfl) (fun _ => by kernel_rfl) ?_
          refine s_val (.pointer (some ⟨gb, 0 + 1 * 1, none⟩)) (by kernel_rfl) (run_ixA (b := gb) (off := 0) (c := cw) (n := (splitL 47 [] s).length) (k := .i64) (j := 1) (e := 9) (sz := 1) rfl (by kernel_rfl) hgb (by kernel_rfl) (by kernel_rfl) (by kernel_rfl) (by omega) (by rw [hxy]; show (1 : Int) < 2; omega) (by decide)) ?_
          refine s_old (.string (mkS y)) (a := ⟨gb, 0 + 1 * 1, none⟩) (by kernel_rfl) rfl (by kernel_rfl) (fun w hO => Reads.load strC_len (SlT.reads hsw rfl hO (fun x hx => by simp [hx])) hgb 1 0 (by rw [hxy]; show 1 < 2; omega) rfl _ (by simp only [hxy]; kernel_rfl)) ?_
          refine s_call (k := 31) (args := #[.string (mkS y)]) (.bool (wdL y)) (by kernel_rfl) (fun _ => by kernel_rfl) (fun w _ => r1Word_any y w hyl) ?_
          refine s_val (.bool (wdL y)) (by kernel_rfl) (fun _ => by kernel_rfl) ?_
          refine s_nil ?_
          refine fin_seq ?_
          cases h13 : wdL y with
          | true =>
            refine ok_true (by kernel_rfl) ?_
            refine ok_seq ?_
            refine ok_draw (by kernel_rfl) (by kernel_rfl) ?_
            refine q_val (.slice AW ((splitL 47 [] s).length) cw) (by kernel_rfl) (fun _ => by kernel_rfl) ?_
            refine q_val (.pointer (some ⟨gb, 0 + 0 * 1, none⟩)) (by kernel_rfl) (run_ixA (b := gb) (off := 0) (c := cw) (n := (splitL 47 [] s).length) (k := .i64) (j := 0) (e := 9) (sz := 1) rfl (by kernel_rfl) hgb (by kernel_rfl) (by kernel_rfl) (by kernel_rfl) (by omega) (by rw [hxy]; show (0 : Int) < 2; omega) (by decide)) ?_
            refine q_old (.string (mkS x)) (a := ⟨gb, 0 + 0 * 1, none⟩) (by kernel_rfl) rfl (by kernel_rfl) (fun w hO => Reads.load strC_len (SlT.reads hsw rfl hO (fun x hx => by simp [hx])) hgb 0 0 (by rw [hxy]; show 0 < 2; omega) rfl _ (by simp only [hxy]; kernel_rfl)) ?_
            refine q_val (.slice AW ((splitL 47 [] s).length) cw) (by kernel_rfl) (fun _ => by kernel_rfl) ?_
            refine q_val (.pointer (some ⟨gb, 0 + 1 * 1, none⟩)) (by kernel_rfl) (run_ixA (b := gb) (off := 0) (c := cw) (n := (splitL 47 [] s).length) (k := .i64) (j := 1) (e := 9) (sz := 1) rfl (by kernel_rfl) hgb (by kernel_rfl) (by kernel_rfl) (by kernel_rfl) (by omega) (by rw [hxy]; show (1 : Int) < 2; omega) (by decide)) ?_
            refine q_old (.string (mkS y)) (a := ⟨gb, 0 + 1 * 1, none⟩) (by kernel_rfl) rfl (by kernel_rfl) (fun w hO => Reads.load strC_len (SlT.reads hsw rfl hO (fun x hx => by simp [hx])) hgb 1 0 (by rw [hxy]; show 1 < 2; omega) rfl _ (by simp only [hxy]; kernel_rfl)) ?_
            refine q_val (.int .i64 3) (by kernel_rfl) (fun _ => by kernel_rfl) ?_
            refine q_val (.string (mkS x)) (by kernel_rfl) (fun _ => by kernel_rfl) ?_
            refine q_val (.string (mkS y)) (by kernel_rfl) (fun _ => by kernel_rfl) ?_
            refine q_nil ?_
            refine fin_seq ?_
            refine ok_ret ?_
            refine fin_seq_ret ?_
            refine fin_ret3 (.int .i64 3) (.string (mkS x)) (.string (mkS y)) Try.results11 (by kernel_rfl) (by kernel_rfl) (by kernel_rfl) ?_
            exact fun w hO => ⟨by rw [show kindT s = (3, x, y) from by rw [kind_two' h1 hno hxy, if_pos (by rw [h12, h13]; rfl)]] <;> rfl, hO.below⟩
          | false =>
            refine ok_false (by kernel_rfl) ?_
            refine ok_skip ?_
            refine fin_seq ?_
            refine ok_seq ?_
            refine ok_region ?_
            refine s_val (.int .i64 0) (by kernel_rfl) (fun _ => by kernel_rfl) ?_
            refine s_val (.string ⟨#[]⟩) (by kernel_rfl) (fun _ => by kernel_rfl) ?_
            refine s_val (.string ⟨#[]⟩) (by kernel_rfl) (fun _ => by kernel_rfl) ?_
            refine s_nil ?_
            refine fin_seq ?_
            refine ok_ret ?_
            refine fin_ret3 (.int .i64 0) (.string ⟨#[]⟩) (.string ⟨#[]⟩) Try.results11 (by kernel_rfl) (by kernel_rfl) (by kernel_rfl) ?_
            exact fun w hO => ⟨by rw [show kindT s = (0, [], []) from by rw [kind_two' h1 hno hxy, if_neg (by simp [h12, h13])]] <;> rfl, hO.below⟩
        | false =>
          refine s_skip (by kernel_rfl) ?_
          refine s_skip (by kernel_rfl) ?_
          refine s_skip (by kernel_rfl) ?_
          refine s_skip (by kernel_rfl) ?_
          refine s_val (.bool false) (by kernel_rfl) (fun _ => by kernel_rfl) ?_
          refine s_nil ?_
          refine fin_seq ?_
          refine ok_false (by kernel_rfl) ?_
          refine ok_skip ?_
          refine fin_seq ?_
          refine ok_seq ?_
          refine ok_region ?_
          refine s_val (.int .i64 0) (by kernel_rfl) (fun _ => by kernel_rfl) ?_
          refine s_val (.string ⟨#[]⟩) (by kernel_rfl) (fun _ => by kernel_rfl) ?_
          refine s_val (.string ⟨#[]⟩) (by kernel_rfl) (fun _ => by kernel_rfl) ?_
          refine s_nil ?_
          refine fin_seq ?_
          refine ok_ret ?_
          refine fin_ret3 (.int .i64 0) (.string ⟨#[]⟩) (.string ⟨#[]⟩) Try.results11 (by kernel_rfl) (by kernel_rfl) (by kernel_rfl) ?_
          exact fun w hO => ⟨by rw [show kindT s = (0, [], []) from by rw [kind_two' h1 hno hxy, if_neg (by simp [h12])]] <;> rfl, hO.below⟩
      · skip
        refine s_dec (p := ((splitL 47 [] s).length : Int) = 2) false (by kernel_rfl) (fun _ => by kernel_rfl) (decide_eq_false (h11)) ?_
        refine s_val (.bool false) (by kernel_rfl) (fun _ => by kernel_rfl) ?_
        refine s_skip (by kernel_rfl) ?_
        refine s_skip (by kernel_rfl) ?_
        refine s_skip (by kernel_rfl) ?_
        refine s_skip (by kernel_rfl) ?_
        refine s_val (.bool false) (by kernel_rfl) (fun _ => by kernel_rfl) ?_
        refine s_val (.bool false) (by kernel_rfl) (fun _ => by kernel_rfl) ?_
        refine s_skip (by kernel_rfl) ?_
        refine s_skip (by kernel_rfl) ?_
        refine s_skip (by kernel_rfl) ?_
        refine s_skip (by kernel_rfl) ?_
        refine s_val (.bool false) (by kernel_rfl) (fun _ => by kernel_rfl) ?_
        refine s_nil ?_
        refine fin_seq ?_
        refine ok_false (by kernel_rfl) ?_
        refine ok_skip ?_
        refine fin_seq ?_
        refine ok_seq ?_
        refine ok_region ?_
        refine s_val (.int .i64 0) (by kernel_rfl) (fun _ => by kernel_rfl) ?_
        refine s_val (.string ⟨#[]⟩) (by kernel_rfl) (fun _ => by kernel_rfl) ?_
        refine s_val (.string ⟨#[]⟩) (by kernel_rfl) (fun _ => by kernel_rfl) ?_
        refine s_nil ?_
        refine fin_seq ?_
        refine ok_ret ?_
        refine fin_ret3 (.int .i64 0) (.string ⟨#[]⟩) (.string ⟨#[]⟩) Try.results11 (by kernel_rfl) (by kernel_rfl) (by kernel_rfl) ?_
        exact fun w hO => ⟨by rw [show kindT s = (0, [], []) from kind_not h1 hno (by omega)] <;> rfl, hO.below⟩
end Go.Proofs.Ytglbfknmeojfkaa
end

section
/-
  linchpinref1: Rising, SameTexts; linchpinref11: Find, Is, Of, items, May: what they return; nothing that was there is changed. Conditions: as each theorem names.
-/
namespace Go.Proofs.Ytglbfknmeojfkaa
open Go.RowKit
set_option maxRecDepth 100000
set_option linter.unusedVariables false
set_option linter.unusedSimpArgs false
set_option linter.unnecessarySimpa false
set_option maxHeartbeats 2000000

theorem rise_iff : ∀ {l : List (List UInt8)}, riseT l = true ↔ ∀ i (h : i + 1 < l.length), Op.bytesLess (l[i]'(by omega)) l[i + 1] = true
  | [] => ⟨fun _ i h => by simp at h, fun _ => rfl⟩
  | [a] => ⟨fun _ i h => by simp at h, fun _ => rfl⟩
  | a :: b :: r => by
    rw [riseT, Bool.and_eq_true, rise_iff (l := b :: r)]
    constructor
    · rintro ⟨h1, h2⟩ i h
      cases i with
      | zero => exact h1
      | succ i => exact h2 i (by simpa using h)
    · intro h
      exact ⟨h 0 (by simp), fun i hi => h (i + 1) (by simpa using hi)⟩
theorem tx_step {a b : List (List UInt8)} {k : Nat} (ha : k < a.length) (hb : k < b.length) (h : a.take k = b.take k) (e : a[k] = b[k]) : a.take (k + 1) = b.take (k + 1) := by
  rw [List.take_succ_eq_append_getElem ha, List.take_succ_eq_append_getElem hb, h, e]
theorem mem_step {α : Type} {p : α → Prop} {l : List α} {i : Nat} (hi : i < l.length) (h : ∀ x ∈ l.take i, p x) (hp : p l[i]) : ∀ y ∈ l.take (i + 1), p y := fun y hy => by
  rw [List.take_succ_eq_append_getElem hi] at hy
  rcases List.mem_append.1 hy with hy | hy
  · exact h y hy
  · rw [List.mem_singleton.1 hy]; exact hp
theorem mem_end {α : Type} {p : α → Prop} {l : List α} {i : Nat} (hi : l.length ≤ i) (h : ∀ x ∈ l.take i, p x) : ∀ y ∈ l, p y := by rwa [List.take_of_length_le hi] at h
theorem items_not {l : List Ft} {of : List (List UInt8)} (h : ¬ of.length ≤ 6 ∨ riseT of = false ∨ ∃ s ∈ of, okItem l s = false) : itemsT l of = false := by
  unfold itemsT
  rcases h with h | h | ⟨s, hs, h⟩
  · rw [decide_eq_false h]; rfl
  · rw [h]; simp
  · rw [show of.all (okItem l) = false from by rw [List.all_eq_false]; exact ⟨s, hs, by rw [h]; simp⟩]; simp
theorem items_yes {l : List Ft} {of : List (List UInt8)} (h : of.length ≤ 6) (h2 : riseT of = true) (h3 : ∀ s ∈ of, okItem l s = true) : itemsT l of = true := by
  unfold itemsT
  rw [decide_eq_true h, h2, List.all_eq_true.2 h3]; rfl
theorem may11_not {l : List Ft} (h : ¬ l.length ≤ 8 ∨ (∃ f ∈ l, wdL f.name = false) ∨ riseT (l.map Ft.name) = false ∨ ∃ f ∈ l, itemsT l f.of = false) : mayF l = false := by
  unfold mayF
  rcases h with h | ⟨f, hf, h⟩ | h | ⟨f, hf, h⟩
  · rw [decide_eq_false h]; rfl
  · rw [show l.all (fun f => wdL f.name) = false from by rw [List.all_eq_false]; exact ⟨f, hf, by rw [h]; simp⟩]; simp
  · rw [h]; simp
  · rw [show l.all (fun f => itemsT l f.of) = false from by rw [List.all_eq_false]; exact ⟨f, hf, by rw [h]; simp⟩]; simp
theorem may_yes {l : List Ft} (h : l.length ≤ 8) (h2 : ∀ f ∈ l, wdL f.name = true) (h3 : riseT (l.map Ft.name) = true) (h4 : ∀ f ∈ l, itemsT l f.of = true) : mayF l = true := by
  unfold mayF
  rw [decide_eq_true h, List.all_eq_true.2 h2, h3, List.all_eq_true.2 h4]; rfl
theorem ft_mem {xs : List Fv} {x : Fv} (h : x ∈ xs) : x.ft ∈ ftOf xs := List.mem_map.2 ⟨x, h, rfl⟩
theorem ft_rise {xs : List Fv} : riseT ((ftOf xs).map Ft.name) = true ↔ ∀ i (h : i + 1 < xs.length), Op.bytesLess (xs[i]'(by omega)).name xs[i + 1].name = true := by
  rw [rise_iff]
  constructor
  · intro h i hi
    have := h i (by rw [List.length_map, ftOf_len]; exact hi)
    simpa [ftOf, Fv.ft] using this
  · intro h i hi
    rw [List.length_map, ftOf_len] at hi
    simpa [ftOf, Fv.ft] using h i hi
theorem r1Rising_any (A : Option Addr) (cap : Nat) (l : List (List UInt8)) (W : World) (hv : Reads strC W W.heap.size A l) (hn : l.length ≤ 1000000) : Calls Try.prog 22 #[.slice A l.length cap] W fun e w' => e = .returned (.bool (riseT l)) ∧ Below W.heap.size W w' := by
  refine calls_ok (n := 20) Try.func22 rfl (by kernel_rfl) (by kernel_rfl) ?_
  refine ok_seq ?_
  refine ok_region ?_
  refine s_val (.bool false) (by kernel_rfl) (fun _ => by kernel_rfl) ?_
  refine s_nil ?_
  refine fin_seq ?_
  refine ok_seq ?_
  refine ok_seq ?_
  refine ok_region ?_
  refine s_val (.int .i64 1) (by kernel_rfl) (fun _ => by kernel_rfl) ?_
  refine s_nil ?_
  refine fin_seq ?_
  refine ok_block ?_
  refine ok_loop (fun L f m => ∃ (i : Nat) (j : Nat → Value), (i ≤ l.length ∧ ∀ z (hz : z + 1 < l.length), z < i → Op.bytesLess (l[z]'(by omega)) l[z + 1] = true) ∧ L = [] ∧ f = upds j [(0, .slice A l.length cap), (3, .int .i64 ((i + 1 : Nat) : Int))] ∧ m = l.length - i) (l.length - 0) ⟨0, _, ⟨Nat.zero_le _, fun z hz hzi => absurd hzi (Nat.not_lt_zero _)⟩, rfl, upds_self _ ⟨by kernel_rfl, by kernel_rfl, trivial⟩, rfl⟩ ?_
  rintro L f m ⟨i, j, hrel, rfl, rfl, rfl⟩
  have hj6 := hrel.1
  refine ok_seq ?_
  refine ok_seq ?_
  refine ok_region ?_
  refine s_val (.int .i64 ((i + 1 : Nat) : Int)) (by kernel_rfl) (fun _ => by kernel_rfl) ?_
  refine s_val (.slice A l.length cap) (by kernel_rfl) (fun _ => by kernel_rfl) ?_
  refine s_val (.int .i64 (l.length : Int)) (by kernel_rfl) (fun _ => by kernel_rfl) ?_
  by_cases h1 : ((i + 1 : Nat) : Int) < (l.length : Int)
  · skip
    have hjl : i + 1 < l.length := by omega
    obtain ⟨bp, off, hA, hlt, hcell⟩ := hv (by omega)
    obtain ⟨x, hx⟩ : ∃ x, l[i] = x := ⟨_, rfl⟩
    obtain ⟨y, hy⟩ : ∃ y, l[i + 1] = y := ⟨_, rfl⟩
    refine s_dec (p := ((i + 1 : Nat) : Int) < (l.length : Int)) true (by kernel_rfl) (fun _ => by kernel_rfl) (decide_eq_true (h1)) ?_
    refine s_nil ?_
    refine fin_seq ?_
    refine ok_true (by kernel_rfl) ?_
    refine ok_skip ?_
    refine fin_seq ?_
    refine ok_seq ?_
    refine ok_block ?_
    refine ok_seq ?_
    refine ok_draw (by kernel_rfl) (by kernel_rfl) ?_
    refine q_val (.slice A l.length cap) (by kernel_rfl) (fun _ => by kernel_rfl) ?_
    refine q_val (.int .i64 ((i + 1 : Nat) : Int)) (by kernel_rfl) (fun _ => by kernel_rfl) ?_
    refine q_sum (k := .i64) ((((i + 1 : Nat) : Int) : Int) - 1) (by kernel_rfl) (fun _ => by kernel_rfl) (IntWalk.i64_in _ (by omega)) ?_
    refine q_val (.pointer (some ⟨bp, off + i * 1, none⟩)) (by kernel_rfl) (run_ixA (b := bp) (off := off) (c := cap) (n := l.length) (k := .i64) (j := (((i + 1 : Nat) : Int) : Int) - 1) (e := 9) (sz := 1) rfl (by kernel_rfl) hA (by kernel_rfl) (by kernel_rfl) (by kernel_rfl) (by omega) (by omega) (by omega)) ?_
    refine q_old (.string (mkS x)) (a := ⟨bp, off + i * 1, none⟩) (by kernel_rfl) rfl (by kernel_rfl) (fun w hO => Reads.load strC_len (hv.on hO.below hO.size) hA i 0 (by omega) (by omega) _ (by rw [hx]; kernel_rfl)) ?_
    refine q_val (.slice A l.length cap) (by kernel_rfl) (fun _ => by kernel_rfl) ?_
    refine q_val (.int .i64 ((i + 1 : Nat) : Int)) (by kernel_rfl) (fun _ => by kernel_rfl) ?_
    refine q_val (.pointer (some ⟨bp, off + (i + 1) * 1, none⟩)) (by kernel_rfl) (run_ixA (b := bp) (off := off) (c := cap) (n := l.length) (k := .i64) (j := ((i + 1 : Nat) : Int)) (e := 9) (sz := 1) rfl (by kernel_rfl) hA (by kernel_rfl) (by kernel_rfl) (by kernel_rfl) (by omega) (by omega) (by omega)) ?_
    refine q_old (.string (mkS y)) (a := ⟨bp, off + (i + 1) * 1, none⟩) (by kernel_rfl) rfl (by kernel_rfl) (fun w hO => Reads.load strC_len (hv.on hO.below hO.size) hA (i + 1) 0 (by omega) (by omega) _ (by rw [hy]; kernel_rfl)) ?_
    cases h2 : Op.bytesLess x y with
    | true =>
      refine q_val (.bool false) (by kernel_rfl) (run_strgeq (a := x) (b := y) rfl (by kernel_rfl) (by kernel_rfl) h2) ?_
      refine q_nil ?_
      refine fin_seq ?_
      refine ok_false (by kernel_rfl) ?_
      refine ok_skip ?_
      refine fin_block ?_
      refine fin_seq ?_
      refine ok_region ?_
      refine s_val (.int .i64 ((i + 1 : Nat) : Int)) (by kernel_rfl) (fun _ => by kernel_rfl) ?_
      refine s_sum (k := .i64) (((i + 1 + 1 : Nat) : Int)) (by kernel_rfl) (fun _ => by kernel_rfl) (IntWalk.i64_in _ (by omega)) ?_
      refine s_val (.int .i64 ((i + 1 + 1 : Nat) : Int)) (by kernel_rfl) (fun _ => by kernel_rfl) ?_
      refine s_nil ?_
      exact fin_round (m' := l.length - (i + 1)) (by omega) ⟨i + 1, _, ⟨by omega, fun z hz hzi => by rcases Nat.lt_succ_iff_lt_or_eq.1 hzi with q | rfl; exact hrel.2 z hz q; rw [hx, hy]; exact h2⟩, rfl, upds_self _ ⟨by kernel_rfl, by kernel_rfl, trivial⟩, rfl⟩
    | false =>
      refine q_val (.bool true) (by kernel_rfl) (run_strgeq (a := x) (b := y) rfl (by kernel_rfl) (by kernel_rfl) h2) ?_
      refine q_nil ?_
      refine fin_seq ?_
      refine ok_true (by kernel_rfl) ?_
      refine ok_seq ?_
      refine ok_region ?_
      refine s_val (.bool false) (by kernel_rfl) (fun _ => by kernel_rfl) ?_
      refine s_nil ?_
      refine fin_seq ?_
      refine ok_ret ?_
      refine fin_block_ret ?_
      refine fin_seq_ret ?_
      refine fin_round_ret ?_
      refine fin_block_ret ?_
      refine fin_seq_ret ?_
      refine fin_ret (.bool false) Try.results22 (by kernel_rfl) ?_
      exact fun w hO => ⟨by rw [show riseT l = false from by cases hq : riseT l with | false => rfl | true => have q := rise_iff.1 hq i hjl; rw [hx, hy, h2] at q; cases q], hO.below⟩
  · skip
    refine s_dec (p := ((i + 1 : Nat) : Int) < (l.length : Int)) false (by kernel_rfl) (fun _ => by kernel_rfl) (decide_eq_false (h1)) ?_
    refine s_nil ?_
    refine fin_seq ?_
    refine ok_false (by kernel_rfl) ?_
    refine ok_exit ?_
    refine fin_seq_exit ?_
    refine fin_round_exit ?_
    refine fin_block_exit ?_
    refine fin_seq ?_
    refine ok_seq ?_
    refine ok_region ?_
    refine s_val (.bool true) (by kernel_rfl) (fun _ => by kernel_rfl) ?_
    refine s_nil ?_
    refine fin_seq ?_
    refine ok_ret ?_
    refine fin_ret (.bool true) Try.results22 (by kernel_rfl) ?_
    exact fun w hO => ⟨by rw [show riseT l = true from rise_iff.2 fun z hz => hrel.2 z hz (by omega)], hO.below⟩
theorem r1Texts_any (A B : Option Addr) (capa capb : Nat) (a b : List (List UInt8)) (W : World) (hv : Reads strC W W.heap.size A a) (hu : Reads strC W W.heap.size B b) (hn : a.length ≤ 1000000) (hm : b.length ≤ 1000000) : Calls Try.prog 19 #[.slice A a.length capa, .slice B b.length capb] W fun e w' => e = .returned (.bool (decide (a = b))) ∧ Below W.heap.size W w' := by
  refine calls_ok (n := 26) Try.func19 rfl (by kernel_rfl) (by kernel_rfl) ?_
  refine ok_seq ?_
  refine ok_region ?_
  refine s_val (.bool false) (by kernel_rfl) (fun _ => by kernel_rfl) ?_
  refine s_nil ?_
  refine fin_seq ?_
  refine ok_seq ?_
  refine ok_seq ?_
  refine ok_region ?_
  refine s_val (.slice A a.length capa) (by kernel_rfl) (fun _ => by kernel_rfl) ?_
  refine s_val (.int .i64 (a.length : Int)) (by kernel_rfl) (fun _ => by kernel_rfl) ?_
  refine s_val (.slice B b.length capb) (by kernel_rfl) (fun _ => by kernel_rfl) ?_
  refine s_val (.int .i64 (b.length : Int)) (by kernel_rfl) (fun _ => by kernel_rfl) ?_
  by_cases h1 : (a.length : Int) = (b.length : Int)
  · skip
    refine s_ndec (p := (a.length : Int) = (b.length : Int)) true (by kernel_rfl) (fun _ => by kernel_rfl) (decide_eq_true (h1)) ?_
    refine s_nil ?_
    refine fin_seq ?_
    refine ok_false (by kernel_rfl) ?_
    refine ok_skip ?_
    refine fin_seq ?_
    refine ok_seq ?_
    refine ok_seq ?_
    refine ok_region ?_
    refine s_val (.int .i64 0) (by kernel_rfl) (fun _ => by kernel_rfl) ?_
    refine s_nil ?_
    refine fin_seq ?_
    refine ok_block ?_
    refine ok_loop (fun L f m => ∃ (k : Nat) (j : Nat → Value), (k ≤ a.length ∧ a.take k = b.take k) ∧ L = [] ∧ f = upds j [(0, .slice A a.length capa), (1, .slice B b.length capb), (5, .int .i64 (k : Int))] ∧ m = a.length - k) (a.length - 0) ⟨0, _, ⟨Nat.zero_le _, rfl⟩, rfl, upds_self _ ⟨by kernel_rfl, by kernel_rfl, by kernel_rfl, trivial⟩, rfl⟩ ?_
    rintro L f m ⟨k, j, hrel, rfl, rfl, rfl⟩
    have hk6 := hrel.1
    refine ok_seq ?_
    refine ok_seq ?_
    refine ok_region ?_
    refine s_val (.int .i64 (k : Int)) (by kernel_rfl) (fun _ => by kernel_rfl) ?_
    refine s_val (.slice A a.length capa) (by kernel_rfl) (fun _ => by kernel_rfl) ?_
    refine s_val (.int .i64 (a.length : Int)) (by kernel_rfl) (fun _ => by kernel_rfl) ?_
    by_cases h2 : (k : Int) < (a.length : Int)
    · skip
      have hka : k < a.length := by omega
      have hkb : k < b.length := by omega
      obtain ⟨ba, oa, hA, hlta, hcella⟩ := hv (by omega)
      obtain ⟨bb, ob, hB, hltb, hcellb⟩ := hu (by omega)
      obtain ⟨x, hx⟩ : ∃ x, a[k] = x := ⟨_, rfl⟩
      obtain ⟨y, hy⟩ : ∃ y, b[k] = y := ⟨_, rfl⟩
      refine s_dec (p := (k : Int) < (a.length : Int)) true (by kernel_rfl) (fun _ => by kernel_rfl) (decide_eq_true (h2)) ?_
      refine s_nil ?_
      refine fin_seq ?_
      refine ok_true (by kernel_rfl) ?_
      refine ok_skip ?_
      refine fin_seq ?_
      refine ok_seq ?_
      refine ok_block ?_
      refine ok_seq ?_
      refine ok_draw (by kernel_rfl) (by kernel_rfl) ?_
      refine q_val (.slice A a.length capa) (by kernel_rfl) (fun _ => by kernel_rfl) ?_
      refine q_val (.int .i64 (k : Int)) (by kernel_rfl) (fun _ => by kernel_rfl) ?_
      refine q_val (.pointer (some ⟨ba, oa + k * 1, none⟩)) (by kernel_rfl) (run_ixA (b := ba) (off := oa) (c := capa) (n := a.length) (k := .i64) (j := (k : Int)) (e := 9) (sz := 1) rfl (by kernel_rfl) hA (by kernel_rfl) (by kernel_rfl) (by kernel_rfl) (by omega) (by omega) (by omega)) ?_
      refine q_old (.string (mkS x)) (a := ⟨ba, oa + k * 1, none⟩) (by kernel_rfl) rfl (by kernel_rfl) (fun w hO => Reads.load strC_len (hv.on hO.below hO.size) hA k 0 hka (by omega) _ (by rw [hx]; kernel_rfl)) ?_
      refine q_val (.slice B b.length capb) (by kernel_rfl) (fun _ => by kernel_rfl) ?_
      refine q_val (.int .i64 (k : Int)) (by kernel_rfl) (fun _ => by kernel_rfl) ?_
      refine q_val (.pointer (some ⟨bb, ob + k * 1, none⟩)) (by kernel_rfl) (run_ixA (b := bb) (off := ob) (c := capb) (n := b.length) (k := .i64) (j := (k : Int)) (e := 9) (sz := 1) rfl (by kernel_rfl) hB (by kernel_rfl) (by kernel_rfl) (by kernel_rfl) (by omega) (by omega) (by omega)) ?_
      refine q_old (.string (mkS y)) (a := ⟨bb, ob + k * 1, none⟩) (by kernel_rfl) rfl (by kernel_rfl) (fun w hO => Reads.load strC_len (hu.on hO.below hO.size) hB k 0 hkb (by omega) _ (by rw [hy]; kernel_rfl)) ?_
      by_cases h3 : (x : List UInt8) = y
      · skip
        refine q_val (.bool false) (by kernel_rfl) (run_strneq (a := x) (b := y) rfl (by kernel_rfl) (by kernel_rfl) (decide_eq_true (h3))) ?_
        refine q_nil ?_
        refine fin_seq ?_
        refine ok_false (by kernel_rfl) ?_
        refine ok_skip ?_
        refine fin_block ?_
        refine fin_seq ?_
        refine ok_region ?_
        refine s_val (.int .i64 (k : Int)) (by kernel_rfl) (fun _ => by kernel_rfl) ?_
        refine s_sum (k := .i64) (((k + 1 : Nat) : Int)) (by kernel_rfl) (fun _ => by kernel_rfl) (IntWalk.i64_in _ (by omega)) ?_
        refine s_val (.int .i64 ((k + 1 : Nat) : Int)) (by kernel_rfl) (fun _ => by kernel_rfl) ?_
        refine s_nil ?_
        exact fin_round (m' := a.length - (k + 1)) (by omega) ⟨k + 1, _, ⟨by omega, tx_step hka hkb hrel.2 (by rw [hx, hy]; exact h3)⟩, rfl, upds_self _ ⟨by kernel_rfl, by kernel_rfl, by kernel_rfl, trivial⟩, rfl⟩
      · skip
        refine q_val (.bool true) (by kernel_rfl) (run_strneq (a := x) (b := y) rfl (by kernel_rfl) (by kernel_rfl) (decide_eq_false (h3))) ?_
        refine q_nil ?_
        refine fin_seq ?_
        refine ok_true (by kernel_rfl) ?_
        refine ok_seq ?_
        refine ok_region ?_
        refine s_val (.bool false) (by kernel_rfl) (fun _ => by kernel_rfl) ?_
        refine s_nil ?_
        refine fin_seq ?_
        refine ok_ret ?_
        refine fin_block_ret ?_
        refine fin_seq_ret ?_
        refine fin_round_ret ?_
        refine fin_block_ret ?_
        refine fin_seq_ret ?_
        refine fin_ret (.bool false) Try.results19 (by kernel_rfl) ?_
        exact fun w hO => ⟨by rw [show decide (a = b) = false from decide_eq_false fun q => h3 (by rw [← hx, ← hy]; simp only [q])], hO.below⟩
    · skip
      refine s_dec (p := (k : Int) < (a.length : Int)) false (by kernel_rfl) (fun _ => by kernel_rfl) (decide_eq_false (h2)) ?_
      refine s_nil ?_
      refine fin_seq ?_
      refine ok_false (by kernel_rfl) ?_
      refine ok_exit ?_
      refine fin_seq_exit ?_
      refine fin_round_exit ?_
      refine fin_block_exit ?_
      refine fin_seq ?_
      refine ok_seq ?_
      refine ok_region ?_
      refine s_val (.bool true) (by kernel_rfl) (fun _ => by kernel_rfl) ?_
      refine s_nil ?_
      refine fin_seq ?_
      refine ok_ret ?_
      refine fin_ret (.bool true) Try.results19 (by kernel_rfl) ?_
      exact fun w hO => ⟨by rw [show a = b from by have q := hrel.2; rw [List.take_of_length_le (by omega), List.take_of_length_le (by omega)] at q; exact q]; simp, hO.below⟩
  · skip
    refine s_ndec (p := (a.length : Int) = (b.length : Int)) false (by kernel_rfl) (fun _ => by kernel_rfl) (decide_eq_false (h1)) ?_
    refine s_nil ?_
    refine fin_seq ?_
    refine ok_true (by kernel_rfl) ?_
    refine ok_seq ?_
    refine ok_region ?_
    refine s_val (.bool false) (by kernel_rfl) (fun _ => by kernel_rfl) ?_
    refine s_nil ?_
    refine fin_seq ?_
    refine ok_ret ?_
    refine fin_seq_ret ?_
    refine fin_ret (.bool false) Try.results19 (by kernel_rfl) ?_
    exact fun w hO => ⟨by rw [show decide (a = b) = false from decide_eq_false fun q => h1 (by rw [q])], hO.below⟩
theorem r11Find_any (A : Option Addr) (cap : Nat) (xs : List Fv) (n : List UInt8) (W : World) (hv : FtIn W W.heap.size A xs) : Calls Try.prog 16 #[.slice A xs.length cap, .string (mkS n)] W fun e w' => e = .returned (.int .i64 (findI (ftOf xs) n)) ∧ Below W.heap.size W w' := by
  refine calls_ok (n := 20) Try.func16 rfl (by kernel_rfl) (by kernel_rfl) ?_
  refine ok_seq ?_
  refine ok_region ?_
  refine s_val (.int .i64 0) (by kernel_rfl) (fun _ => by kernel_rfl) ?_
  refine s_nil ?_
  refine fin_seq ?_
  refine ok_seq ?_
  refine ok_seq ?_
  refine ok_region ?_
  refine s_val (.int .i64 0) (by kernel_rfl) (fun _ => by kernel_rfl) ?_
  refine s_nil ?_
  refine fin_seq ?_
  refine ok_block ?_
  refine ok_loop (fun L f m => ∃ (i : Nat) (j : Nat → Value), (i ≤ xs.length ∧ ∀ f ∈ ftOf (xs.take i), ¬ f.name = n) ∧ L = [] ∧ f = upds j [(0, .slice A xs.length cap), (1, .string (mkS n)), (5, .int .i64 (i : Int))] ∧ m = xs.length - i) (xs.length - 0) ⟨0, _, ⟨Nat.zero_le _, fun f hf => by simp [ftOf] at hf⟩, rfl, upds_self _ ⟨by kernel_rfl, by kernel_rfl, by kernel_rfl, trivial⟩, rfl⟩ ?_
  rintro L f m ⟨i, j, hrel, rfl, rfl, rfl⟩
  have hi6 := hrel.1; have hxn := hv.n
  refine ok_seq ?_
  refine ok_seq ?_
  refine ok_region ?_
  refine s_val (.int .i64 (i : Int)) (by kernel_rfl) (fun _ => by kernel_rfl) ?_
  refine s_val (.slice A xs.length cap) (by kernel_rfl) (fun _ => by kernel_rfl) ?_
  refine s_val (.int .i64 (xs.length : Int)) (by kernel_rfl) (fun _ => by kernel_rfl) ?_
  by_cases h1 : (i : Int) < (xs.length : Int)
  · skip
    have hil : i < xs.length := by omega
    obtain ⟨bp, off, hA, hlt, hcell⟩ := hv.top (by omega)
    obtain ⟨x, hx⟩ : ∃ x, xs[i] = x := ⟨_, rfl⟩
    refine s_dec (p := (i : Int) < (xs.length : Int)) true (by kernel_rfl) (fun _ => by kernel_rfl) (decide_eq_true (h1)) ?_
    refine s_nil ?_
    refine fin_seq ?_
    refine ok_true (by kernel_rfl) ?_
    refine ok_skip ?_
    refine fin_seq ?_
    refine ok_seq ?_
    refine ok_block ?_
    refine ok_seq ?_
    refine ok_region ?_
    refine s_val (.slice A xs.length cap) (by kernel_rfl) (fun _ => by kernel_rfl) ?_
    refine s_val (.int .i64 (i : Int)) (by kernel_rfl) (fun _ => by kernel_rfl) ?_
    refine s_val (.pointer (some ⟨bp, off + i * 2, none⟩)) (by kernel_rfl) (run_ixA (b := bp) (off := off) (c := cap) (n := xs.length) (k := .i64) (j := (i : Int)) (e := 57) (sz := 2) rfl (by kernel_rfl) hA (by kernel_rfl) (by kernel_rfl) (by kernel_rfl) (by omega) (by omega) (by omega)) ?_
    refine s_val (.pointer (some ⟨bp, off + i * 2 + 0, none⟩)) (by kernel_rfl) (fun _ => by kernel_rfl) ?_
    refine s_old (.string (mkS x.name)) (a := ⟨bp, off + i * 2 + 0, none⟩) (by kernel_rfl) rfl (by kernel_rfl) (fun w hO => Reads.load fvC_len (hv.top.on hO.below hO.size) hA i 0 hil (by omega) _ (by rw [hx]; kernel_rfl)) ?_
    refine s_val (.string (mkS n)) (by kernel_rfl) (fun _ => by kernel_rfl) ?_
    by_cases h2 : (x.name : List UInt8) = n
    · skip
      refine s_val (.bool true) (by kernel_rfl) (run_streql (a := x.name) (b := n) rfl (by kernel_rfl) (by kernel_rfl) (decide_eq_true (h2))) ?_
      refine s_nil ?_
      refine fin_seq ?_
      refine ok_true (by kernel_rfl) ?_
      refine ok_seq ?_
      refine ok_region ?_
      refine s_val (.int .i64 (i : Int)) (by kernel_rfl) (fun _ => by kernel_rfl) ?_
      refine s_val (.int .i64 (i : Int)) (by kernel_rfl) (fun _ => by kernel_rfl) ?_
      refine s_nil ?_
      refine fin_seq ?_
      refine ok_ret ?_
      refine fin_block_ret ?_
      refine fin_seq_ret ?_
      refine fin_round_ret ?_
      refine fin_block_ret ?_
      refine fin_seq_ret ?_
      refine fin_ret (.int .i64 (i : Int)) Try.results16 (by kernel_rfl) ?_
      exact fun w hO => ⟨by rw [show findI (ftOf xs) n = (i : Int) from by unfold findI; rw [findI_at (i := i) (by rw [ftOf_len]; exact hil) (by rw [ftOf_get hil hx]; exact h2) (by rw [← ftOf_take]; exact hrel.2)]], hO.below⟩
    · skip
      refine s_val (.bool false) (by kernel_rfl) (run_streql (a := x.name) (b := n) rfl (by kernel_rfl) (by kernel_rfl) (decide_eq_false (h2))) ?_
      refine s_nil ?_
      refine fin_seq ?_
      refine ok_false (by kernel_rfl) ?_
      refine ok_skip ?_
      refine fin_block ?_
      refine fin_seq ?_
      refine ok_region ?_
      refine s_val (.int .i64 (i : Int)) (by kernel_rfl) (fun _ => by kernel_rfl) ?_
      refine s_sum (k := .i64) (((i + 1 : Nat) : Int)) (by kernel_rfl) (fun _ => by kernel_rfl) (IntWalk.i64_in _ (by omega)) ?_
      refine s_val (.int .i64 ((i + 1 : Nat) : Int)) (by kernel_rfl) (fun _ => by kernel_rfl) ?_
      refine s_nil ?_
      exact fin_round (m' := xs.length - (i + 1)) (by omega) ⟨i + 1, _, ⟨by omega, by rw [ftOf_take]; exact mem_step (by rw [ftOf_len]; exact hil) (by rw [← ftOf_take]; exact hrel.2) (by rw [ftOf_get hil hx]; exact h2)⟩, rfl, upds_self _ ⟨by kernel_rfl, by kernel_rfl, by kernel_rfl, trivial⟩, rfl⟩
  · skip
    refine s_dec (p := (i : Int) < (xs.length : Int)) false (by kernel_rfl) (fun _ => by kernel_rfl) (decide_eq_false (h1)) ?_
    refine s_nil ?_
    refine fin_seq ?_
    refine ok_false (by kernel_rfl) ?_
    refine ok_exit ?_
    refine fin_seq_exit ?_
    refine fin_round_exit ?_
    refine fin_block_exit ?_
    refine fin_seq ?_
    refine ok_seq ?_
    refine ok_region ?_
    refine s_val (.int .i64 (-1)) (by kernel_rfl) (fun _ => by kernel_rfl) ?_
    refine s_nil ?_
    refine fin_seq ?_
    refine ok_ret ?_
    refine fin_ret (.int .i64 (-1)) Try.results16 (by kernel_rfl) ?_
    exact fun w hO => ⟨by rw [show findI (ftOf xs) n = -1 from by unfold findI; rw [findI_none (mem_end (i := i) (by rw [ftOf_len]; omega) (by rw [← ftOf_take]; exact hrel.2))]], hO.below⟩
theorem r11Is_any (A : Option Addr) (cap : Nat) (xs : List Fv) (n : List UInt8) (W : World) (hv : FtIn W W.heap.size A xs) : Calls Try.prog 41 #[.slice A xs.length cap, .string (mkS n)] W fun e w' => e = .returned (.bool (isT (ftOf xs) n)) ∧ Below W.heap.size W w' := by
  refine calls_ok (n := 13) Try.func41 rfl (by kernel_rfl) (by kernel_rfl) ?_
  refine ok_seq ?_
  refine ok_region ?_
  refine s_val (.bool false) (by kernel_rfl) (fun _ => by kernel_rfl) ?_
  refine s_nil ?_
  refine fin_seq ?_
  refine ok_seq ?_
  refine ok_region ?_
  refine s_val (.string (mkS n)) (by kernel_rfl) (fun _ => by kernel_rfl) ?_
  by_cases h1 : (n : List UInt8) = [100, 101, 102, 97, 117, 108, 116]
  · skip
    refine s_val (.bool true) (by kernel_rfl) (run_streql (a := n) (b := ([100, 101, 102, 97, 117, 108, 116])) rfl (by kernel_rfl) (by kernel_rfl) (decide_eq_true (h1))) ?_
    refine s_val (.bool true) (by kernel_rfl) (fun _ => by kernel_rfl) ?_
    refine s_skip (by kernel_rfl) ?_
    refine s_skip (by kernel_rfl) ?_
    refine s_skip (by kernel_rfl) ?_
    refine s_skip (by kernel_rfl) ?_
    refine s_val (.bool true) (by kernel_rfl) (fun _ => by kernel_rfl) ?_
    refine s_val (.bool true) (by kernel_rfl) (fun _ => by kernel_rfl) ?_
    refine s_nil ?_
    refine fin_seq ?_
    refine ok_ret ?_
    refine fin_ret (.bool true) Try.results41 (by kernel_rfl) ?_
    exact fun w hO => ⟨by rw [findI_isT]; unfold dfl; simp [h1], hO.below⟩
  · skip
    refine s_val (.bool false) (by kernel_rfl) (run_streql (a := n) (b := ([100, 101, 102, 97, 117, 108, 116])) rfl (by kernel_rfl) (by kernel_rfl) (decide_eq_false (h1))) ?_
    refine s_val (.bool false) (by kernel_rfl) (fun _ => by kernel_rfl) ?_
    refine s_val (.slice A xs.length cap) (by kernel_rfl) (fun _ => by kernel_rfl) ?_
    refine s_val (.string (mkS n)) (by kernel_rfl) (fun _ => by kernel_rfl) ?_
    refine s_call (k := 16) (args := #[.slice A xs.length cap, .string (mkS n)]) (.int .i64 (findI (ftOf xs) n)) (by kernel_rfl) (fun _ => by kernel_rfl) (fun w hO => r11Find_any A cap xs n w (hv.on hO.below hO.size)) ?_
    by_cases h2 : (0 : Int) ≤ findI (ftOf xs) n
    · skip
      refine s_dec (p := (0 : Int) ≤ findI (ftOf xs) n) true (by kernel_rfl) (fun _ => by kernel_rfl) (decide_eq_true (h2)) ?_
      refine s_val (.bool true) (by kernel_rfl) (fun _ => by kernel_rfl) ?_
      refine s_val (.bool true) (by kernel_rfl) (fun _ => by kernel_rfl) ?_
      refine s_nil ?_
      refine fin_seq ?_
      refine ok_ret ?_
      refine fin_ret (.bool true) Try.results41 (by kernel_rfl) ?_
      exact fun w hO => ⟨by rw [findI_isT]; unfold dfl; simp [h1, h2], hO.below⟩
    · skip
      refine s_dec (p := (0 : Int) ≤ findI (ftOf xs) n) false (by kernel_rfl) (fun _ => by kernel_rfl) (decide_eq_false (h2)) ?_
      refine s_val (.bool false) (by kernel_rfl) (fun _ => by kernel_rfl) ?_
      refine s_val (.bool false) (by kernel_rfl) (fun _ => by kernel_rfl) ?_
      refine s_nil ?_
      refine fin_seq ?_
      refine ok_ret ?_
      refine fin_ret (.bool false) Try.results41 (by kernel_rfl) ?_
      exact fun w hO => ⟨by rw [findI_isT]; unfold dfl; simp [h1, h2], hO.below⟩
theorem r11items_any (A : Option Addr) (cap : Nat) (xs : List Fv) (B : Option Addr) (capb : Nat) (of : List (List UInt8)) (W : World) (hv : FtIn W W.heap.size A xs) (hu : Reads strC W W.heap.size B of) (hn : of.length ≤ 1000) (ht : ∀ s ∈ of, s.length ≤ 1000000) : Calls Try.prog 35 #[.slice A xs.length cap, .slice B of.length capb] W fun e w' => e = .returned (.bool (itemsT (ftOf xs) of)) ∧ Below W.heap.size W w' := by
  refine calls_ok (n := 44) Try.func35 rfl (by kernel_rfl) (by kernel_rfl) ?_
  refine ok_seq ?_
  refine ok_region ?_
  refine s_val (.bool false) (by kernel_rfl) (fun _ => by kernel_rfl) ?_
  refine s_nil ?_
  refine fin_seq ?_
  refine ok_seq ?_
  refine ok_seq ?_
  refine ok_region ?_
  refine s_val (.slice B of.length capb) (by kernel_rfl) (fun _ => by kernel_rfl) ?_
  refine s_val (.int .i64 (of.length : Int)) (by kernel_rfl) (fun _ => by kernel_rfl) ?_
  by_cases h1 : (6 : Int) < (of.length : Int)
  · skip
    refine s_dec (p := (6 : Int) < (of.length : Int)) true (by kernel_rfl) (fun _ => by kernel_rfl) (decide_eq_true (h1)) ?_
    refine s_val (.bool true) (by kernel_rfl) (fun _ => by kernel_rfl) ?_
    refine s_skip (by kernel_rfl) ?_
    refine s_skip (by kernel_rfl) ?_
    refine s_skip (by kernel_rfl) ?_
    refine s_val (.bool true) (by kernel_rfl) (fun _ => by kernel_rfl) ?_
    refine s_nil ?_
    refine fin_seq ?_
    refine ok_true (by kernel_rfl) ?_
    refine ok_seq ?_
    refine ok_region ?_
    refine s_val (.bool false) (by kernel_rfl) (fun _ => by kernel_rfl) ?_
    refine s_nil ?_
    refine fin_seq ?_
    refine ok_ret ?_
    refine fin_seq_ret ?_
    refine fin_ret (.bool false) Try.results35 (by kernel_rfl) ?_
    exact fun w hO => ⟨by rw [show itemsT (ftOf xs) of = false from items_not (.inl (by omega))], hO.below⟩
  · skip
    refine s_dec (p := (6 : Int) < (of.length : Int)) false (by kernel_rfl) (fun _ => by kernel_rfl) (decide_eq_false (h1)) ?_
    refine s_val (.bool false) (by kernel_rfl) (fun _ => by kernel_rfl) ?_
    refine s_val (.slice B of.length capb) (by kernel_rfl) (fun _ => by kernel_rfl) ?_
    refine s_call (k := 22) (args := #[.slice B of.length capb]) (.bool (riseT of)) (by kernel_rfl) (fun _ => by kernel_rfl) (fun w hO => r1Rising_any B capb of w (hu.on hO.below hO.size) (by omega)) ?_
    cases h2 : riseT of with
    | true =>
      refine s_val (.bool false) (by kernel_rfl) (fun _ => by kernel_rfl) ?_
      refine s_val (.bool false) (by kernel_rfl) (fun _ => by kernel_rfl) ?_
      refine s_nil ?_
      refine fin_seq ?_
      refine ok_false (by kernel_rfl) ?_
      refine ok_skip ?_
      refine fin_seq ?_
      refine ok_seq ?_
      refine ok_seq ?_
      refine ok_region ?_
      refine s_val (.int .i64 0) (by kernel_rfl) (fun _ => by kernel_rfl) ?_
      refine s_nil ?_
      refine fin_seq ?_
      refine ok_block ?_
      refine ok_loop (fun L f m => ∃ (k : Nat) (j : Nat → Value), (k ≤ of.length ∧ ∀ s ∈ of.take k, okItem (ftOf xs) s = true) ∧ L = [] ∧ f = upds j [(0, .slice A xs.length cap), (1, .slice B of.length capb), (5, .int .i64 (k : Int))] ∧ m = of.length - k) (of.length - 0) ⟨0, _, ⟨Nat.zero_le _, fun s hs => by simp at hs⟩, rfl, upds_self _ ⟨by kernel_rfl, by kernel_rfl, by kernel_rfl, trivial⟩, rfl⟩ ?_
      rintro L f m ⟨k, j, hrel, rfl, rfl, rfl⟩
      have hk6 := hrel.1
      refine ok_seq ?_
      refine ok_seq ?_
      refine ok_region ?_
      refine s_val (.int .i64 (k : Int)) (by kernel_rfl) (fun _ => by kernel_rfl) ?_
      refine s_val (.slice B of.length capb) (by kernel_rfl) (fun _ => by kernel_rfl) ?_
      refine s_val (.int .i64 (of.length : Int)) (by kernel_rfl) (fun _ => by kernel_rfl) ?_
      by_cases h3 : (k : Int) < (of.length : Int)
      · skip
        have hkl : k < of.length := by omega
        obtain ⟨bp, off, hB, hlt, hcell⟩ := hu (by omega)
        obtain ⟨s, hs⟩ : ∃ s, of[k] = s := ⟨_, rfl⟩
        have hsm : s ∈ of := hs ▸ List.getElem_mem hkl
        refine s_dec (p := (k : Int) < (of.length : Int)) true (by kernel_rfl) (fun _ => by kernel_rfl) (decide_eq_true (h3)) ?_
        refine s_nil ?_
        refine fin_seq ?_
        refine ok_true (by kernel_rfl) ?_
        refine ok_skip ?_
        refine fin_seq ?_
        refine ok_seq ?_
        refine ok_block ?_
        refine ok_seq ?_
        refine ok_region ?_
        refine s_val (.slice B of.length capb) (by kernel_rfl) (fun _ => by kernel_rfl) ?_
        refine s_val (.int .i64 (k : Int)) (by kernel_rfl) (fun _ => by kernel_rfl) ?_
        refine s_val (.pointer (some ⟨bp, off + k * 1, none⟩)) (by kernel_rfl) (run_ixA (b := bp) (off := off) (c := capb) (n := of.length) (k := .i64) (j := (k : Int)) (e := 9) (sz := 1) rfl (by kernel_rfl) hB (by kernel_rfl) (by kernel_rfl) (by kernel_rfl) (by omega) (by omega) (by omega)) ?_
        refine s_old (.string (mkS s)) (a := ⟨bp, off + k * 1, none⟩) (by kernel_rfl) rfl (by kernel_rfl) (fun w hO => Reads.load strC_len (hu.on hO.below hO.size) hB k 0 hkl (by omega) _ (by rw [hs]; kernel_rfl)) ?_
        refine s_call (k := 11) (args := #[.string (mkS s)]) (.tuple #[.int .i64 ((kindT s).1), .string (mkS (kindT s).2.1), .string (mkS (kindT s).2.2)]) (by kernel_rfl) (fun _ => by kernel_rfl) (fun w hO => r11Item_any s w (ht s hsm)) ?_
        refine s_val (.tuple #[.int .i64 ((kindT s).1), .string (mkS (kindT s).2.1), .string (mkS (kindT s).2.2)]) (by kernel_rfl) (fun _ => by kernel_rfl) ?_
        refine s_val (.int .i64 ((kindT s).1)) (by kernel_rfl) (fun _ => by kernel_rfl) ?_
        refine s_val (.string (mkS (kindT s).2.1)) (by kernel_rfl) (fun _ => by kernel_rfl) ?_
        refine s_val (.string (mkS (kindT s).2.2)) (by kernel_rfl) (fun _ => by kernel_rfl) ?_
        refine s_val (.int .i64 ((kindT s).1)) (by kernel_rfl) (fun _ => by kernel_rfl) ?_
        refine s_val (.string (mkS (kindT s).2.1)) (by kernel_rfl) (fun _ => by kernel_rfl) ?_
        refine s_val (.string (mkS (kindT s).2.2)) (by kernel_rfl) (fun _ => by kernel_rfl) ?_
        refine s_nil ?_
        refine fin_seq ?_
        refine ok_seq ?_
        refine ok_region ?_
        refine s_val (.int .i64 ((kindT s).1)) (by kernel_rfl) (fun _ => by kernel_rfl) ?_
        by_cases h4 : ((kindT s).1 : Int) = 0
        · skip
          refine s_dec (p := ((kindT s).1 : Int) = 0) true (by kernel_rfl) (fun _ => by kernel_rfl) (decide_eq_true (h4)) ?_
          refine s_val (.bool true) (by kernel_rfl) (fun _ => by kernel_rfl) ?_
          refine s_skip (by kernel_rfl) ?_
          refine s_skip (by kernel_rfl) ?_
          refine s_skip (by kernel_rfl) ?_
          refine s_skip (by kernel_rfl) ?_
          refine s_skip (by kernel_rfl) ?_
          refine s_skip (by kernel_rfl) ?_
          refine s_skip (by kernel_rfl) ?_
          refine s_skip (by kernel_rfl) ?_
          refine s_val (.bool true) (by kernel_rfl) (fun _ => by kernel_rfl) ?_
          refine s_nil ?_
          refine fin_seq ?_
          refine ok_true (by kernel_rfl) ?_
          refine ok_seq ?_
          refine ok_region ?_
          refine s_val (.bool false) (by kernel_rfl) (fun _ => by kernel_rfl) ?_
          refine s_nil ?_
          refine fin_seq ?_
          refine ok_ret ?_
          refine fin_block_ret ?_
          refine fin_seq_ret ?_
          refine fin_round_ret ?_
          refine fin_block_ret ?_
          refine fin_seq_ret ?_
          refine fin_ret (.bool false) Try.results35 (by kernel_rfl) ?_
          exact fun w hO => ⟨by rw [show itemsT (ftOf xs) of = false from items_not (.inr (.inr ⟨s, hsm, by unfold okItem; simp [h4]⟩))], hO.below⟩
        · skip
          refine s_dec (p := ((kindT s).1 : Int) = 0) false (by kernel_rfl) (fun _ => by kernel_rfl) (decide_eq_false (h4)) ?_
          refine s_val (.bool false) (by kernel_rfl) (fun _ => by kernel_rfl) ?_
          refine s_val (.int .i64 ((kindT s).1)) (by kernel_rfl) (fun _ => by kernel_rfl) ?_
          by_cases h5 : ((kindT s).1 : Int) = 1
          · skip
            refine s_dec (p := ((kindT s).1 : Int) = 1) true (by kernel_rfl) (fun _ => by kernel_rfl) (decide_eq_true (h5)) ?_
            refine s_val (.bool true) (by kernel_rfl) (fun _ => by kernel_rfl) ?_
            refine s_val (.slice A xs.length cap) (by kernel_rfl) (fun _ => by kernel_rfl) ?_
            refine s_val (.string (mkS (kindT s).2.1)) (by kernel_rfl) (fun _ => by kernel_rfl) ?_
            refine s_call (k := 41) (args := #[.slice A xs.length cap, .string (mkS (kindT s).2.1)]) (.bool (isT (ftOf xs) (kindT s).2.1)) (by kernel_rfl) (fun _ => by kernel_rfl) (fun w hO => r11Is_any A cap xs (kindT s).2.1 w (hv.on hO.below hO.size)) ?_
            cases h6 : isT (ftOf xs) (kindT s).2.1 with
            | true =>
              refine s_val (.bool false) (by kernel_rfl) (fun _ => by kernel_rfl) ?_
              refine s_val (.bool false) (by kernel_rfl) (fun _ => by kernel_rfl) ?_
              refine s_val (.bool false) (by kernel_rfl) (fun _ => by kernel_rfl) ?_
              refine s_nil ?_
              refine fin_seq ?_
              refine ok_false (by kernel_rfl) ?_
              refine ok_skip ?_
              refine fin_block ?_
              refine fin_seq ?_
              refine ok_region ?_
              refine s_val (.int .i64 (k : Int)) (by kernel_rfl) (fun _ => by kernel_rfl) ?_
              refine s_sum (k := .i64) (((k + 1 : Nat) : Int)) (by kernel_rfl) (fun _ => by kernel_rfl) (IntWalk.i64_in _ (by omega)) ?_
              refine s_val (.int .i64 ((k + 1 : Nat) : Int)) (by kernel_rfl) (fun _ => by kernel_rfl) ?_
              refine s_nil ?_
              exact fin_round (m' := of.length - (k + 1)) (by omega) ⟨k + 1, _, ⟨by omega, mem_step hkl hrel.2 (by rw [hs]; exact by unfold okItem; simp [h4, h5, h6])⟩, rfl, upds_self _ ⟨by kernel_rfl, by kernel_rfl, by kernel_rfl, trivial⟩, rfl⟩
            | false =>
              refine s_val (.bool true) (by kernel_rfl) (fun _ => by kernel_rfl) ?_
              refine s_val (.bool true) (by kernel_rfl) (fun _ => by kernel_rfl) ?_
              refine s_val (.bool true) (by kernel_rfl) (fun _ => by kernel_rfl) ?_
              refine s_nil ?_
              refine fin_seq ?_
              refine ok_true (by kernel_rfl) ?_
              refine ok_seq ?_
              refine ok_region ?_
              refine s_val (.bool false) (by kernel_rfl) (fun _ => by kernel_rfl) ?_
              refine s_nil ?_
              refine fin_seq ?_
              refine ok_ret ?_
              refine fin_block_ret ?_
              refine fin_seq_ret ?_
              refine fin_round_ret ?_
              refine fin_block_ret ?_
              refine fin_seq_ret ?_
              refine fin_ret (.bool false) Try.results35 (by kernel_rfl) ?_
              exact fun w hO => ⟨by rw [show itemsT (ftOf xs) of = false from items_not (.inr (.inr ⟨s, hsm, by unfold okItem; simp [h4, h5, h6]⟩))], hO.below⟩
          · skip
            refine s_dec (p := ((kindT s).1 : Int) = 1) false (by kernel_rfl) (fun _ => by kernel_rfl) (decide_eq_false (h5)) ?_
            refine s_val (.bool false) (by kernel_rfl) (fun _ => by kernel_rfl) ?_
            refine s_skip (by kernel_rfl) ?_
            refine s_skip (by kernel_rfl) ?_
            refine s_skip (by kernel_rfl) ?_
            refine s_skip (by kernel_rfl) ?_
            refine s_val (.bool false) (by kernel_rfl) (fun _ => by kernel_rfl) ?_
            refine s_val (.bool false) (by kernel_rfl) (fun _ => by kernel_rfl) ?_
            refine s_nil ?_
            refine fin_seq ?_
            refine ok_false (by kernel_rfl) ?_
            refine ok_skip ?_
            refine fin_block ?_
            refine fin_seq ?_
            refine ok_region ?_
            refine s_val (.int .i64 (k : Int)) (by kernel_rfl) (fun _ => by kernel_rfl) ?_
            refine s_sum (k := .i64) (((k + 1 : Nat) : Int)) (by kernel_rfl) (fun _ => by kernel_rfl) (IntWalk.i64_in _ (by omega)) ?_
            refine s_val (.int .i64 ((k + 1 : Nat) : Int)) (by kernel_rfl) (fun _ => by kernel_rfl) ?_
            refine s_nil ?_
            exact fin_round (m' := of.length - (k + 1)) (by omega) ⟨k + 1, _, ⟨by omega, mem_step hkl hrel.2 (by rw [hs]; exact by unfold okItem; simp [h4, h5])⟩, rfl, upds_self _ ⟨by kernel_rfl, by kernel_rfl, by kernel_rfl, trivial⟩, rfl⟩
      · skip
        refine s_dec (p := (k : Int) < (of.length : Int)) false (by kernel_rfl) (fun _ => by kernel_rfl) (decide_eq_false (h3)) ?_
        refine s_nil ?_
        refine fin_seq ?_
        refine ok_false (by kernel_rfl) ?_
        refine ok_exit ?_
        refine fin_seq_exit ?_
        refine fin_round_exit ?_
        refine fin_block_exit ?_
        refine fin_seq ?_
        refine ok_seq ?_
        refine ok_region ?_
        refine s_val (.bool true) (by kernel_rfl) (fun _ => by kernel_rfl) ?_
        refine s_nil ?_
        refine fin_seq ?_
        refine ok_ret ?_
        refine fin_ret (.bool true) Try.results35 (by kernel_rfl) ?_
        exact fun w hO => ⟨by rw [show itemsT (ftOf xs) of = true from items_yes (by omega) h2 (mem_end (i := k) (by omega) hrel.2)], hO.below⟩
    | false =>
      refine s_val (.bool true) (by kernel_rfl) (fun _ => by kernel_rfl) ?_
      refine s_val (.bool true) (by kernel_rfl) (fun _ => by kernel_rfl) ?_
      refine s_nil ?_
      refine fin_seq ?_
      refine ok_true (by kernel_rfl) ?_
      refine ok_seq ?_
      refine ok_region ?_
      refine s_val (.bool false) (by kernel_rfl) (fun _ => by kernel_rfl) ?_
      refine s_nil ?_
      refine fin_seq ?_
      refine ok_ret ?_
      refine fin_seq_ret ?_
      refine fin_ret (.bool false) Try.results35 (by kernel_rfl) ?_
      exact fun w hO => ⟨by rw [show itemsT (ftOf xs) of = false from items_not (.inr (.inl h2))], hO.below⟩
end Go.Proofs.Ytglbfknmeojfkaa
end

section
/-
  linchpinref11: May, Of: what they return; nothing that was there is changed. Conditions: as each theorem names.
-/
namespace Go.Proofs.Ytglbfknmeojfkaa
open Go.RowKit
set_option maxRecDepth 100000
set_option linter.unusedVariables false
set_option linter.unusedSimpArgs false
set_option linter.unnecessarySimpa false
set_option maxHeartbeats 2000000

/-- What holds of the features so far. -/
structure UpTo (xs : List Fv) (i : Nat) : Prop where
  le : i ≤ xs.length
  wd : ∀ x ∈ xs.take i, wdL x.name = true
  up : ∀ z (hz : z + 1 < xs.length), z + 1 < i → Op.bytesLess (xs[z]'(by omega)).name xs[z + 1].name = true
  it : ∀ x ∈ xs.take i, itemsT (ftOf xs) x.of = true
theorem UpTo.zero (xs : List Fv) : UpTo xs 0 := ⟨Nat.zero_le _, fun x hx => by simp at hx, fun z hz h => by omega, fun x hx => by simp at hx⟩
theorem UpTo.next {xs : List Fv} {i : Nat} (h : UpTo xs i) (hi : i < xs.length) (h1 : wdL xs[i].name = true) (h2 : ∀ h0 : 0 < i, Op.bytesLess (xs[i - 1]'(by omega)).name xs[i].name = true) (h3 : itemsT (ftOf xs) xs[i].of = true) : UpTo xs (i + 1) := by
  refine ⟨hi, mem_step hi h.wd h1, fun z hz hzi => ?_, mem_step hi h.it h3⟩
  rcases Nat.lt_succ_iff_lt_or_eq.1 hzi with q | q
  · exact h.up z hz q
  · subst q; exact h2 (by omega)
theorem UpTo.may {xs : List Fv} {i : Nat} (h : UpTo xs i) (hi : xs.length ≤ i) (h8 : xs.length ≤ 8) : mayF (ftOf xs) = true := by
  refine may_yes (by rw [ftOf_len]; exact h8) (fun f hf => ?_) (ft_rise.2 fun z hz => h.up z hz (by omega)) fun f hf => ?_
  · obtain ⟨x, hx, rfl⟩ := List.mem_map.1 hf; exact mem_end hi h.wd x hx
  · obtain ⟨x, hx, rfl⟩ := List.mem_map.1 hf; exact mem_end hi h.it x hx
theorem may_no1 {xs : List Fv} {x : Fv} (hx : x ∈ xs) (h : wdL x.name = false) : mayF (ftOf xs) = false := may11_not (.inr (.inl ⟨x.ft, ft_mem hx, h⟩))
theorem may_no2 {xs : List Fv} {z : Nat} (hz : z + 1 < xs.length) (h : Op.bytesLess (xs[z]'(by omega)).name xs[z + 1].name = false) : mayF (ftOf xs) = false := may11_not (.inr (.inr (.inl (by
  cases hq : riseT ((ftOf xs).map Ft.name) with
  | false => rfl
  | true => have q := ft_rise.1 hq z hz; rw [h] at q; cases q))))
theorem may_no3 {xs : List Fv} {x : Fv} (hx : x ∈ xs) (h : itemsT (ftOf xs) x.of = false) : mayF (ftOf xs) = false := may11_not (.inr (.inr (.inr ⟨x.ft, ft_mem hx, h⟩)))
theorem r11May_any (A : Option Addr) (cap : Nat) (xs : List Fv) (W : World) (hv : FtIn W W.heap.size A xs) : Calls Try.prog 14 #[.slice A xs.length cap] W fun e w' => e = .returned (.bool (mayF (ftOf xs))) ∧ Below W.heap.size W w' := by
  refine calls_ok (n := 48) Try.func14 rfl (by kernel_rfl) (by kernel_rfl) ?_
  refine ok_seq ?_
  refine ok_region ?_
  refine s_val (.bool false) (by kernel_rfl) (fun _ => by kernel_rfl) ?_
  refine s_nil ?_
  refine fin_seq ?_
  refine ok_seq ?_
  refine ok_seq ?_
  refine ok_region ?_
  refine s_val (.slice A xs.length cap) (by kernel_rfl) (fun _ => by kernel_rfl) ?_
  refine s_val (.int .i64 (xs.length : Int)) (by kernel_rfl) (fun _ => by kernel_rfl) ?_
  by_cases h1 : (8 : Int) < (xs.length : Int)
  · skip
    refine s_dec (p := (8 : Int) < (xs.length : Int)) true (by kernel_rfl) (fun _ => by kernel_rfl) (decide_eq_true (h1)) ?_
    refine s_nil ?_
    refine fin_seq ?_
    refine ok_true (by kernel_rfl) ?_
    refine ok_seq ?_
    refine ok_region ?_
    refine s_val (.bool false) (by kernel_rfl) (fun _ => by kernel_rfl) ?_
    refine s_nil ?_
    refine fin_seq ?_
    refine ok_ret ?_
    refine fin_seq_ret ?_
    refine fin_ret (.bool false) Try.results14 (by kernel_rfl) ?_
    exact fun w hO => ⟨by rw [show mayF (ftOf xs) = false from may11_not (.inl (by rw [ftOf_len]; omega))], hO.below⟩
  · skip
    refine s_dec (p := (8 : Int) < (xs.length : Int)) false (by kernel_rfl) (fun _ => by kernel_rfl) (decide_eq_false (h1)) ?_
    refine s_nil ?_
    refine fin_seq ?_
    refine ok_false (by kernel_rfl) ?_
    refine ok_skip ?_
    refine fin_seq ?_
    refine ok_seq ?_
    refine ok_seq ?_
    refine ok_region ?_
    refine s_val (.int .i64 0) (by kernel_rfl) (fun _ => by kernel_rfl) ?_
    refine s_nil ?_
    refine fin_seq ?_
    refine ok_block ?_
    refine ok_loop (fun L f m => ∃ (i : Nat) (j : Nat → Value), (UpTo xs i) ∧ L = [] ∧ f = upds j [(0, .slice A xs.length cap), (3, .int .i64 (i : Int))] ∧ m = xs.length - i) (xs.length - 0) ⟨0, _, UpTo.zero xs, rfl, upds_self _ ⟨by kernel_rfl, by kernel_rfl, trivial⟩, rfl⟩ ?_
    rintro L f m ⟨i, j, hrel, rfl, rfl, rfl⟩
    have hi6 := hrel.le; have hxn := hv.n
    refine ok_seq ?_
    refine ok_seq ?_
    refine ok_region ?_
    refine s_val (.int .i64 (i : Int)) (by kernel_rfl) (fun _ => by kernel_rfl) ?_
    refine s_val (.slice A xs.length cap) (by kernel_rfl) (fun _ => by kernel_rfl) ?_
    refine s_val (.int .i64 (xs.length : Int)) (by kernel_rfl) (fun _ => by kernel_rfl) ?_
    by_cases h2 : (i : Int) < (xs.length : Int)
    · skip
      have hil : i < xs.length := by omega
      obtain ⟨bp, off, hA, hlt, hcell⟩ := hv.top (by omega)
      obtain ⟨x, hx⟩ : ∃ x, xs[i] = x := ⟨_, rfl⟩
      have hxm : x ∈ xs := hx ▸ List.getElem_mem hil
      refine s_dec (p := (i : Int) < (xs.length : Int)) true (by kernel_rfl) (fun _ => by kernel_rfl) (decide_eq_true (h2)) ?_
      refine s_nil ?_
      refine fin_seq ?_
      refine ok_true (by kernel_rfl) ?_
      refine ok_skip ?_
      refine fin_seq ?_
      refine ok_seq ?_
      refine ok_block ?_
      refine ok_seq ?_
      refine ok_draw (by kernel_rfl) (by kernel_rfl) ?_
      refine q_val (.slice A xs.length cap) (by kernel_rfl) (fun _ => by kernel_rfl) ?_
      refine q_val (.int .i64 (i : Int)) (by kernel_rfl) (fun _ => by kernel_rfl) ?_
      refine q_val (.pointer (some ⟨bp, off + i * 2, none⟩)) (by kernel_rfl) (run_ixA (b := bp) (off := off) (c := cap) (n := xs.length) (k := .i64) (j := (i : Int)) (e := 57) (sz := 2) rfl (by kernel_rfl) hA (by kernel_rfl) (by kernel_rfl) (by kernel_rfl) (by omega) (by omega) (by omega)) ?_
      refine q_val (.pointer (some ⟨bp, off + i * 2 + 0, none⟩)) (by kernel_rfl) (fun _ => by kernel_rfl) ?_
      refine q_old (.string (mkS x.name)) (a := ⟨bp, off + i * 2 + 0, none⟩) (by kernel_rfl) rfl (by kernel_rfl) (fun w hO => Reads.load fvC_len (hv.top.on hO.below hO.size) hA i 0 (by omega) (by omega) _ (by rw [hx]; kernel_rfl)) ?_
      refine q_call (k := 31) (args := #[.string (mkS x.name)]) (.bool (wdL x.name)) (by kernel_rfl) (fun _ => by kernel_rfl) (fun w hO => r1Word_any x.name w (hv.name x hxm)) ?_
      cases h3 : wdL x.name with
      | true =>
        refine q_val (.bool false) (by kernel_rfl) (fun _ => by kernel_rfl) ?_
        refine q_val (.bool false) (by kernel_rfl) (fun _ => by kernel_rfl) ?_
        refine q_val (.int .i64 (i : Int)) (by kernel_rfl) (fun _ => by kernel_rfl) ?_
        by_cases h4 : (0 : Int) < (i : Int)
        · skip
          have hi0 : 0 < i := by omega
          obtain ⟨y, hy⟩ : ∃ y, xs[i - 1]'(by omega) = y := ⟨_, rfl⟩
          refine q_dec (p := (0 : Int) < (i : Int)) true (by kernel_rfl) (fun _ => by kernel_rfl) (decide_eq_true (h4)) ?_
          refine q_val (.bool true) (by kernel_rfl) (fun _ => by kernel_rfl) ?_
          refine q_val (.slice A xs.length cap) (by kernel_rfl) (fun _ => by kernel_rfl) ?_
          refine q_val (.int .i64 (i : Int)) (by kernel_rfl) (fun _ => by kernel_rfl) ?_
          refine q_sum (k := .i64) (((i : Int) : Int) - 1) (by kernel_rfl) (fun _ => by kernel_rfl) (IntWalk.i64_in _ (by omega)) ?_
          refine q_val (.pointer (some ⟨bp, off + (i - 1) * 2, none⟩)) (by kernel_rfl) (run_ixA (b := bp) (off := off) (c := cap) (n := xs.length) (k := .i64) (j := ((i : Int) : Int) - 1) (e := 57) (sz := 2) rfl (by kernel_rfl) hA (by kernel_rfl) (by kernel_rfl) (by kernel_rfl) (by omega) (by omega) (by omega)) ?_
          refine q_val (.pointer (some ⟨bp, off + (i - 1) * 2 + 0, none⟩)) (by kernel_rfl) (fun _ => by kernel_rfl) ?_
          refine q_old (.string (mkS y.name)) (a := ⟨bp, off + (i - 1) * 2 + 0, none⟩) (by kernel_rfl) rfl (by kernel_rfl) (fun w hO => Reads.load fvC_len (hv.top.on hO.below hO.size) hA (i - 1) 0 (by omega) (by omega) _ (by rw [hy]; kernel_rfl)) ?_
          refine q_val (.slice A xs.length cap) (by kernel_rfl) (fun _ => by kernel_rfl) ?_
          refine q_val (.int .i64 (i : Int)) (by kernel_rfl) (fun _ => by kernel_rfl) ?_
          refine q_val (.pointer (some ⟨bp, off + i * 2, none⟩)) (by kernel_rfl) (run_ixA (b := bp) (off := off) (c := cap) (n := xs.length) (k := .i64) (j := (i : Int)) (e := 57) (sz := 2) rfl (by kernel_rfl) hA (by kernel_rfl) (by kernel_rfl) (by kernel_rfl) (by omega) (by omega) (by omega)) ?_
          refine q_val (.pointer (some ⟨bp, off + i * 2 + 0, none⟩)) (by kernel_rfl) (fun _ => by kernel_rfl) ?_
          refine q_old (.string (mkS x.name)) (a := ⟨bp, off + i * 2 + 0, none⟩) (by kernel_rfl) rfl (by kernel_rfl) (fun w hO => Reads.load fvC_len (hv.top.on hO.below hO.size) hA i 0 (by omega) (by omega) _ (by rw [hx]; kernel_rfl)) ?_
          cases h5 : Op.bytesLess y.name x.name with
          | true =>
            refine q_val (.bool false) (by kernel_rfl) (run_strgeq (a := y.name) (b := x.name) rfl (by kernel_rfl) (by kernel_rfl) h5) ?_
            refine q_val (.bool false) (by kernel_rfl) (fun _ => by kernel_rfl) ?_
            refine q_val (.bool false) (by kernel_rfl) (fun _ => by kernel_rfl) ?_
            refine q_val (.bool false) (by kernel_rfl) (fun _ => by kernel_rfl) ?_
            refine q_val (.slice A xs.length cap) (by kernel_rfl) (fun _ => by kernel_rfl) ?_
            refine q_val (.slice A xs.length cap) (by kernel_rfl) (fun _ => by kernel_rfl) ?_
            refine q_val (.int .i64 (i : Int)) (by kernel_rfl) (fun _ => by kernel_rfl) ?_
            refine q_val (.pointer (some ⟨bp, off + i * 2, none⟩)) (by kernel_rfl) (run_ixA (b := bp) (off := off) (c := cap) (n := xs.length) (k := .i64) (j := (i : Int)) (e := 57) (sz := 2) rfl (by kernel_rfl) hA (by kernel_rfl) (by kernel_rfl) (by kernel_rfl) (by omega) (by omega) (by omega)) ?_
            refine q_val (.pointer (some ⟨bp, off + i * 2 + 1, none⟩)) (by kernel_rfl) (fun _ => by kernel_rfl) ?_
            refine q_old (.slice x.A x.of.length x.cap) (a := ⟨bp, off + i * 2 + 1, none⟩) (by kernel_rfl) rfl (by kernel_rfl) (fun w hO => Reads.load fvC_len (hv.top.on hO.below hO.size) hA i 1 (by omega) (by omega) _ (by rw [hx]; kernel_rfl)) ?_
            refine q_call (k := 35) (args := #[.slice A xs.length cap, .slice x.A x.of.length x.cap]) (.bool (itemsT (ftOf xs) x.of)) (by kernel_rfl) (fun _ => by kernel_rfl) (fun w hO => r11items_any A cap xs x.A x.cap x.of w (hv.on hO.below hO.size) ((hv.each x hxm).on hO.below hO.size) (hv.m x hxm) (hv.text x hxm)) ?_
            cases h6 : itemsT (ftOf xs) x.of with
            | true =>
              refine q_val (.bool false) (by kernel_rfl) (fun _ => by kernel_rfl) ?_
              refine q_val (.bool false) (by kernel_rfl) (fun _ => by kernel_rfl) ?_
              refine q_nil ?_
              refine fin_seq ?_
              refine ok_false (by kernel_rfl) ?_
              refine ok_skip ?_
              refine fin_block ?_
              refine fin_seq ?_
              refine ok_region ?_
              refine s_val (.int .i64 (i : Int)) (by kernel_rfl) (fun _ => by kernel_rfl) ?_
              refine s_sum (k := .i64) (((i + 1 : Nat) : Int)) (by kernel_rfl) (fun _ => by kernel_rfl) (IntWalk.i64_in _ (by omega)) ?_
              refine s_val (.int .i64 ((i + 1 : Nat) : Int)) (by kernel_rfl) (fun _ => by kernel_rfl) ?_
              refine s_nil ?_
              exact fin_round (m' := xs.length - (i + 1)) (by omega) ⟨i + 1, _, hrel.next hil (by rw [hx]; exact h3) (fun h0 => by rw [hx, hy]; exact h5) (by rw [hx]; exact h6), rfl, upds_self _ ⟨by kernel_rfl, by kernel_rfl, trivial⟩, rfl⟩
            | false =>
              refine q_val (.bool true) (by kernel_rfl) (fun _ => by kernel_rfl) ?_
              refine q_val (.bool true) (by kernel_rfl) (fun _ => by kernel_rfl) ?_
              refine q_nil ?_
              refine fin_seq ?_
              refine ok_true (by kernel_rfl) ?_
              refine ok_seq ?_
              refine ok_region ?_
              refine s_val (.bool false) (by kernel_rfl) (fun _ => by kernel_rfl) ?_
              refine s_nil ?_
              refine fin_seq ?_
              refine ok_ret ?_
              refine fin_block_ret ?_
              refine fin_seq_ret ?_
              refine fin_round_ret ?_
              refine fin_block_ret ?_
              refine fin_seq_ret ?_
              refine fin_ret (.bool false) Try.results14 (by kernel_rfl) ?_
              exact fun w hO => ⟨by rw [show mayF (ftOf xs) = false from may_no3 hxm h6], hO.below⟩
          | false =>
            refine q_val (.bool true) (by kernel_rfl) (run_strgeq (a := y.name) (b := x.name) rfl (by kernel_rfl) (by kernel_rfl) h5) ?_
            refine q_val (.bool true) (by kernel_rfl) (fun _ => by kernel_rfl) ?_
            refine q_val (.bool true) (by kernel_rfl) (fun _ => by kernel_rfl) ?_
            refine q_val (.bool true) (by kernel_rfl) (fun _ => by kernel_rfl) ?_
            refine q_skip (by kernel_rfl) ?_
            refine q_skip (by kernel_rfl) ?_
            refine q_skip (by kernel_rfl) ?_
            refine q_skip (by kernel_rfl) ?_
            refine q_skip (by kernel_rfl) ?_
            refine q_skip (by kernel_rfl) ?_
            refine q_skip (by kernel_rfl) ?_
            refine q_skip (by kernel_rfl) ?_
            refine q_val (.bool true) (by kernel_rfl) (fun _ => by kernel_rfl) ?_
            refine q_nil ?_
            refine fin_seq ?_
            refine ok_true (by kernel_rfl) ?_
            refine ok_seq ?_
            refine ok_region ?_
            refine s_val (.bool false) (by kernel_rfl) (fun _ => by kernel_rfl) ?_
            refine s_nil ?_
            refine fin_seq ?_
            refine ok_ret ?_
            refine fin_block_ret ?_
            refine fin_seq_ret ?_
            refine fin_round_ret ?_
            refine fin_block_ret ?_
            refine fin_seq_ret ?_
            refine fin_ret (.bool false) Try.results14 (by kernel_rfl) ?_
            exact fun w hO => ⟨by rw [show mayF (ftOf xs) = false from may_no2 (z := i - 1) (by omega) (by simp only [show i - 1 + 1 = i by omega, hx, hy]; exact h5)], hO.below⟩
        · skip
          refine q_dec (p := (0 : Int) < (i : Int)) false (by kernel_rfl) (fun _ => by kernel_rfl) (decide_eq_false (h4)) ?_
          refine q_val (.bool false) (by kernel_rfl) (fun _ => by kernel_rfl) ?_
          refine q_skip (by kernel_rfl) ?_
          refine q_skip (by kernel_rfl) ?_
          refine q_skip (by kernel_rfl) ?_
          refine q_skip (by kernel_rfl) ?_
          refine q_skip (by kernel_rfl) ?_
          refine q_skip (by kernel_rfl) ?_
          refine q_skip (by kernel_rfl) ?_
          refine q_skip (by kernel_rfl) ?_
          refine q_skip (by kernel_rfl) ?_
          refine q_skip (by kernel_rfl) ?_
          refine q_skip (by kernel_rfl) ?_
          refine q_skip (by kernel_rfl) ?_
          refine q_val (.bool false) (by kernel_rfl) (fun _ => by kernel_rfl) ?_
          refine q_val (.bool false) (by kernel_rfl) (fun _ => by kernel_rfl) ?_
          refine q_val (.bool false) (by kernel_rfl) (fun _ => by kernel_rfl) ?_
          refine q_val (.slice A xs.length cap) (by kernel_rfl) (fun _ => by kernel_rfl) ?_
          refine q_val (.slice A xs.length cap) (by kernel_rfl) (fun _ => by kernel_rfl) ?_
          refine q_val (.int .i64 (i : Int)) (by kernel_rfl) (fun _ => by kernel_rfl) ?_
          refine q_val (.pointer (some ⟨bp, off + i * 2, none⟩)) (by kernel_rfl) (run_ixA (b := bp) (off := off) (c := cap) (n := xs.length) (k := .i64) (j := (i : Int)) (e := 57) (sz := 2) rfl (by kernel_rfl) hA (by kernel_rfl) (by kernel_rfl) (by kernel_rfl) (by omega) (by omega) (by omega)) ?_
          refine q_val (.pointer (some ⟨bp, off + i * 2 + 1, none⟩)) (by kernel_rfl) (fun _ => by kernel_rfl) ?_
          refine q_old (.slice x.A x.of.length x.cap) (a := ⟨bp, off + i * 2 + 1, none⟩) (by kernel_rfl) rfl (by kernel_rfl) (fun w hO => Reads.load fvC_len (hv.top.on hO.below hO.size) hA i 1 (by omega) (by omega) _ (by rw [hx]; kernel_rfl)) ?_
          refine q_call (k := 35) (args := #[.slice A xs.length cap, .slice x.A x.of.length x.cap]) (.bool (itemsT (ftOf xs) x.of)) (by kernel_rfl) (fun _ => by kernel_rfl) (fun w hO => r11items_any A cap xs x.A x.cap x.of w (hv.on hO.below hO.size) ((hv.each x hxm).on hO.below hO.size) (hv.m x hxm) (hv.text x hxm)) ?_
          cases h7 : itemsT (ftOf xs) x.of with
          | true =>
            refine q_val (.bool false) (by kernel_rfl) (fun _ => by kernel_rfl) ?_
            refine q_val (.bool false) (by kernel_rfl) (fun _ => by kernel_rfl) ?_
            refine q_nil ?_
            refine fin_seq ?_
            refine ok_false (by kernel_rfl) ?_
            refine ok_skip ?_
            refine fin_block ?_
            refine fin_seq ?_
            refine ok_region ?_
            refine s_val (.int .i64 (i : Int)) (by kernel_rfl) (fun _ => by kernel_rfl) ?_
            refine s_sum (k := .i64) (((i + 1 : Nat) : Int)) (by kernel_rfl) (fun _ => by kernel_rfl) (IntWalk.i64_in _ (by omega)) ?_
            refine s_val (.int .i64 ((i + 1 : Nat) : Int)) (by kernel_rfl) (fun _ => by kernel_rfl) ?_
            refine s_nil ?_
            exact fin_round (m' := xs.length - (i + 1)) (by omega) ⟨i + 1, _, hrel.next hil (by rw [hx]; exact h3) (fun h0 => absurd h0 (by omega)) (by rw [hx]; exact h7), rfl, upds_self _ ⟨by kernel_rfl, by kernel_rfl, trivial⟩, rfl⟩
          | false =>
            refine q_val (.bool true) (by kernel_rfl) (fun _ => by kernel_rfl) ?_
            refine q_val (.bool true) (by kernel_rfl) (fun _ => by kernel_rfl) ?_
            refine q_nil ?_
            refine fin_seq ?_
            refine ok_true (by kernel_rfl) ?_
            refine ok_seq ?_
            refine ok_region ?_
            refine s_val (.bool false) (by kernel_rfl) (fun _ => by kernel_rfl) ?_
            refine s_nil ?_
            refine fin_seq ?_
            refine ok_ret ?_
            refine fin_block_ret ?_
            refine fin_seq_ret ?_
            refine fin_round_ret ?_
            refine fin_block_ret ?_
            refine fin_seq_ret ?_
            refine fin_ret (.bool false) Try.results14 (by kernel_rfl) ?_
            exact fun w hO => ⟨by rw [show mayF (ftOf xs) = false from may_no3 hxm h7], hO.below⟩
      | false =>
        refine q_val (.bool true) (by kernel_rfl) (fun _ => by kernel_rfl) ?_
        refine q_val (.bool true) (by kernel_rfl) (fun _ => by kernel_rfl) ?_
        refine q_skip (by kernel_rfl) ?_
        refine q_skip (by kernel_rfl) ?_
        refine q_skip (by kernel_rfl) ?_
        refine q_skip (by kernel_rfl) ?_
        refine q_skip (by kernel_rfl) ?_
        refine q_skip (by kernel_rfl) ?_
        refine q_skip (by kernel_rfl) ?_
        refine q_skip (by kernel_rfl) ?_
        refine q_skip (by kernel_rfl) ?_
        refine q_skip (by kernel_rfl) ?_
        refine q_skip (by kernel_rfl) ?_
        refine q_skip (by kernel_rfl) ?_
        refine q_skip (by kernel_rfl) ?_
        refine q_skip (by kernel_rfl) ?_
        refine q_skip (by kernel_rfl) ?_
        refine q_skip (by kernel_rfl) ?_
        refine q_val (.bool true) (by kernel_rfl) (fun _ => by kernel_rfl) ?_
        refine q_val (.bool true) (by kernel_rfl) (fun _ => by kernel_rfl) ?_
        refine q_skip (by kernel_rfl) ?_
        refine q_skip (by kernel_rfl) ?_
        refine q_skip (by kernel_rfl) ?_
        refine q_skip (by kernel_rfl) ?_
        refine q_skip (by kernel_rfl) ?_
        refine q_skip (by kernel_rfl) ?_
        refine q_skip (by kernel_rfl) ?_
        refine q_skip (by kernel_rfl) ?_
        refine q_val (.bool true) (by kernel_rfl) (fun _ => by kernel_rfl) ?_
        refine q_nil ?_
        refine fin_seq ?_
        refine ok_true (by kernel_rfl) ?_
        refine ok_seq ?_
        refine ok_region ?_
        refine s_val (.bool false) (by kernel_rfl) (fun _ => by kernel_rfl) ?_
        refine s_nil ?_
        refine fin_seq ?_
        refine ok_ret ?_
        refine fin_block_ret ?_
        refine fin_seq_ret ?_
        refine fin_round_ret ?_
        refine fin_block_ret ?_
        refine fin_seq_ret ?_
        refine fin_ret (.bool false) Try.results14 (by kernel_rfl) ?_
        exact fun w hO => ⟨by rw [show mayF (ftOf xs) = false from may_no1 hxm h3], hO.below⟩
    · skip
      refine s_dec (p := (i : Int) < (xs.length : Int)) false (by kernel_rfl) (fun _ => by kernel_rfl) (decide_eq_false (h2)) ?_
      refine s_nil ?_
      refine fin_seq ?_
      refine ok_false (by kernel_rfl) ?_
      refine ok_exit ?_
      refine fin_seq_exit ?_
      refine fin_round_exit ?_
      refine fin_block_exit ?_
      refine fin_seq ?_
      refine ok_seq ?_
      refine ok_region ?_
      refine s_val (.bool true) (by kernel_rfl) (fun _ => by kernel_rfl) ?_
      refine s_nil ?_
      refine fin_seq ?_
      refine ok_ret ?_
      refine fin_ret (.bool true) Try.results14 (by kernel_rfl) ?_
      exact fun w hO => ⟨by rw [hrel.may (by omega) (by omega)], hO.below⟩
theorem find_some {l : List Ft} {n : List UInt8} (h : ¬ findI l n < 0) : ∃ i, findT l n = some i := by
  unfold findI at h
  cases hq : findT l n with
  | some i => exact ⟨i, rfl⟩
  | none => rw [hq] at h; simp at h
theorem find_nil {l : List Ft} {n : List UInt8} (h : findI l n < 0) : ofT l n = [] := by
  refine ofT_none ?_
  unfold findI at h
  cases hq : findT l n with
  | some i => rw [hq] at h; simp at h; omega
  | none => rfl
theorem r11Of_any (A : Option Addr) (cap : Nat) (xs : List Fv) (n : List UInt8) (W : World) (hv : FtIn W W.heap.size A xs) : Calls Try.prog 43 #[.slice A xs.length cap, .string (mkS n)] W fun e w' => ∃ B c, e = .returned (.slice B (ofT (ftOf xs) n).length c) ∧ Reads strC W W.heap.size B (ofT (ftOf xs) n) ∧ Below W.heap.size W w' := by
  refine calls_ok (n := 16) Try.func43 rfl (by kernel_rfl) (by kernel_rfl) ?_
  refine ok_seq ?_
  refine ok_region ?_
  refine s_val (.slice none 0 0) (by kernel_rfl) (fun _ => by kernel_rfl) ?_
  refine s_nil ?_
  refine fin_seq ?_
  refine ok_seq ?_
  refine ok_region ?_
  refine s_val (.slice A xs.length cap) (by kernel_rfl) (fun _ => by kernel_rfl) ?_
  refine s_val (.string (mkS n)) (by kernel_rfl) (fun _ => by kernel_rfl) ?_
  refine s_call (k := 16) (args := #[.slice A xs.length cap, .string (mkS n)]) (.int .i64 (findI (ftOf xs) n)) (by kernel_rfl) (fun _ => by kernel_rfl) (fun w hO => r11Find_any A cap xs n w (hv.on hO.below hO.size)) ?_
  refine s_val (.int .i64 (findI (ftOf xs) n)) (by kernel_rfl) (fun _ => by kernel_rfl) ?_
  refine s_nil ?_
  refine fin_seq ?_
  refine ok_seq ?_
  refine ok_seq ?_
  refine ok_region ?_
  refine s_val (.int .i64 (findI (ftOf xs) n)) (by kernel_rfl) (fun _ => by kernel_rfl) ?_
  by_cases h1 : (findI (ftOf xs) n : Int) < 0
  · skip
    refine s_dec (p := (findI (ftOf xs) n : Int) < 0) true (by kernel_rfl) (fun _ => by kernel_rfl) (decide_eq_true (h1)) ?_
    refine s_nil ?_
    refine fin_seq ?_
    refine ok_true (by kernel_rfl) ?_
    refine ok_seq ?_
    refine ok_region ?_
    refine s_val (.slice none 0 0) (by kernel_rfl) (fun _ => by kernel_rfl) ?_
    refine s_nil ?_
    refine fin_seq ?_
    refine ok_ret ?_
    refine fin_seq_ret ?_
    refine fin_ret (.slice none 0 0) Try.results43 (by kernel_rfl) ?_
    exact fun w hO => ⟨none, 0, by rw [show ofT (ftOf xs) n = [] from find_nil (by omega)]; rfl, fun h => by rw [show ofT (ftOf xs) n = [] from find_nil (by omega)] at h; simp at h, hO.below⟩
  · skip
    obtain ⟨i, hfi⟩ : ∃ i, findT (ftOf xs) n = some i := find_some (by omega)
    have hFi : findI (ftOf xs) n = (i : Int) := by unfold findI; rw [hfi]
    obtain ⟨hi9, hof⟩ := ofT_at hfi
    have hil : i < xs.length := by rw [ftOf_len] at hi9; exact hi9
    obtain ⟨bp, off, hA, hlt, hcell⟩ := hv.top (by omega)
    obtain ⟨x, hx⟩ : ∃ x, xs[i] = x := ⟨_, rfl⟩
    have hxm : x ∈ xs := hx ▸ List.getElem_mem hil
    have hox : ofT (ftOf xs) n = x.of := by rw [hof, ftOf_get hil hx]; rfl
    refine s_dec (p := (findI (ftOf xs) n : Int) < 0) false (by kernel_rfl) (fun _ => by kernel_rfl) (decide_eq_false (h1)) ?_
    refine s_nil ?_
    refine fin_seq ?_
    refine ok_false (by kernel_rfl) ?_
    refine ok_skip ?_
    refine fin_seq ?_
    refine ok_seq ?_
    refine ok_region ?_
    refine s_val (.slice A xs.length cap) (by kernel_rfl) (fun _ => by kernel_rfl) ?_
    refine s_val (.int .i64 (findI (ftOf xs) n)) (by kernel_rfl) (fun _ => by kernel_rfl) ?_
    refine s_val (.pointer (some ⟨bp, off + i * 2, none⟩)) (by kernel_rfl) (run_ixA (b := bp) (off := off) (c := cap) (n := xs.length) (k := .i64) (j := findI (ftOf xs) n) (e := 57) (sz := 2) rfl (by kernel_rfl) hA (by kernel_rfl) (by kernel_rfl) (by kernel_rfl) (by omega) (by omega) (by omega)) ?_
    refine s_val (.pointer (some ⟨bp, off + i * 2 + 1, none⟩)) (by kernel_rfl) (fun _ => by kernel_rfl) ?_
    refine s_old (.slice x.A x.of.length x.cap) (a := ⟨bp, off + i * 2 + 1, none⟩) (by kernel_rfl) rfl (by kernel_rfl) (fun w hO => Reads.load fvC_len (hv.top.on hO.below hO.size) hA i 1 (by omega) (by omega) _ (by rw [hx]; kernel_rfl)) ?_
    refine s_val (.slice x.A x.of.length x.cap) (by kernel_rfl) (fun _ => by kernel_rfl) ?_
    refine s_nil ?_
    refine fin_seq ?_
    refine ok_ret ?_
    refine fin_ret (.slice x.A x.of.length x.cap) Try.results43 (by kernel_rfl) ?_
    exact fun w hO => ⟨x.A, x.cap, by rw [hox], by rw [hox]; exact hv.each x hxm, hO.below⟩
end Go.Proofs.Ytglbfknmeojfkaa
end
