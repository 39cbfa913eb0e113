/-
  Steps for walking a function's text with the frame as a function of the slot and the call's own blocks as a list: one theorem an operation, no search. No condition of their own.
-/
import Derived.Test.YtjgmmeienchfnaaBel
import Derived.WalkKit
import Derived.Deep.Quiet
import Derived.BigQuiet
import Derived.Lib.Hide
import Derived.Laws.CopyRow
import Derived.Laws.Rows
namespace Go.Proofs.Ytjgmmeienchfnaa
open Go.RowKit
set_option linter.unusedVariables false
set_option linter.unusedSimpArgs false

/-! ### The blocks that the call has made -/
structure Blk where
  b : Nat
  cs : Array Value
  ty : TypeId
/-- The world at hand against the one at the call's entry: the blocks that the call has made (or borrowed: M) hold this; of what was there nothing else has changed. -/
structure Own (M : List Nat) (W w : World) (L : List Blk) : Prop where
  os : w.os = W.os
  tape : w.tape = W.tape
  output : w.output = W.output
  size : W.heap.size ≤ w.heap.size
  drawn : W.drawn ≤ w.drawn
  kept : ∀ k, k < W.heap.size → k ∉ M → w.heap[k]? = W.heap[k]?
  held : ∀ x ∈ L, w.heap[x.b]? = some (.cells x.cs x.ty)
  base : ∀ x ∈ L, W.heap.size ≤ x.b ∨ x.b ∈ M
  apart : (L.map Blk.b).Nodup
theorem Own.below {W w : World} {L : List Blk} (h : Own [] W w L) : Below W.heap.size W w := ⟨h.os, h.tape, h.output, h.size, h.drawn, fun k hk => h.kept k hk (by simp)⟩
theorem Own.start (M : List Nat) (W : World) : Own M W W [] := ⟨rfl, rfl, rfl, Nat.le_refl _, Nat.le_refl _, fun _ _ _ => rfl, by simp, by simp, by simp⟩
theorem Own.lt {M : List Nat} {W w : World} {L : List Blk} (h : Own M W w L) {x : Blk} (hx : x ∈ L) : x.b < w.heap.size := (Array.getElem?_eq_some_iff.1 (h.held x hx)).1
theorem Own.on {M : List Nat} {W w w' : World} {L : List Blk} (h : Own M W w L) (hb : Below w.heap.size w w') : Own M W w' L :=
  ⟨hb.os.trans h.os, hb.tape.trans h.tape, hb.output.trans h.output, Nat.le_trans h.size hb.size, Nat.le_trans h.drawn hb.drawn, fun k hk hm => (hb.block k (Nat.lt_of_lt_of_le hk h.size)).trans (h.kept k hk hm), fun x hx => (hb.block x.b (h.lt hx)).trans (h.held x hx), h.base, h.apart⟩
theorem Own.drew {M : List Nat} {W w : World} {L : List Blk} (h : Own M W w L) : Own M W { w with drawn := w.drawn + 1 } L := ⟨h.os, h.tape, h.output, h.size, Nat.le_succ_of_le h.drawn, h.kept, h.held, h.base, h.apart⟩
theorem Own.get {M : List Nat} {W w : World} {L : List Blk} (h : Own M W w L) {i : Nat} {x : Blk} (hi : L[i]? = some x) : w.heap[x.b]? = some (.cells x.cs x.ty) := h.held x (List.mem_of_getElem? hi)
theorem Own.alloc {M : List Nat} {W w : World} {L : List Blk} (h : Own M W w L) (cs : Array Value) (T : TypeId) : Own M W (w.alloc (.cells cs T)) (⟨w.heap.size, cs, T⟩ :: L) := by
  refine ⟨h.os, h.tape, h.output, Nat.le_trans h.size (by simp), h.drawn, fun k hk hm => ?_, fun x hx => ?_, fun x hx => ?_, ?_⟩
  · rw [Below.heap_alloc w _ k (Nat.lt_of_lt_of_le hk h.size)]; exact h.kept k hk hm
  · rcases List.mem_cons.1 hx with rfl | hx
    · exact heap_alloc_new w _
    · exact (Below.heap_alloc w _ x.b (h.lt hx)).trans (h.held x hx)
  · rcases List.mem_cons.1 hx with rfl | hx
    · exact .inl h.size
    · exact h.base x hx
  · rw [List.map_cons, List.nodup_cons]
    refine ⟨fun hm => ?_, h.apart⟩
    obtain ⟨y, hy, he⟩ := List.mem_map.1 hm
    have := h.lt hy
    rw [he] at this
    exact absurd this (Nat.lt_irrefl _)
theorem map_set_b (L : List Blk) (i : Nat) (x y : Blk) (hi : L[i]? = some x) (hb : y.b = x.b) : (L.set i y).map Blk.b = L.map Blk.b := by
  rw [List.map_set, hb]
  have : (L.map Blk.b)[i]? = some x.b := by rw [List.getElem?_map, hi]; rfl
  obtain ⟨hlt, he⟩ := List.getElem?_eq_some_iff.1 this
  rw [← he, List.set_getElem_self]
theorem nodup_at {α : Type} {l : List α} (h : l.Nodup) {i j : Nat} {x : α} (hi : l[i]? = some x) (hj : l[j]? = some x) : i = j := by
  obtain ⟨a, ha⟩ := List.getElem?_eq_some_iff.1 hi
  obtain ⟨b, hb⟩ := List.getElem?_eq_some_iff.1 hj
  exact (List.getElem_inj h).1 (ha.trans hb.symm)
theorem Own.put {M : List Nat} {W w : World} {L : List Blk} (h : Own M W w L) {i : Nat} {x : Blk} (hi : L[i]? = some x) (cs : Array Value) : Own M W (w.setRow x.b cs) (L.set i ⟨x.b, cs, x.ty⟩) := by
  have hx := List.mem_of_getElem? hi
  have hm := map_set_b L i x ⟨x.b, cs, x.ty⟩ hi rfl
  have hsz : (w.setRow x.b cs).heap.size = w.heap.size := size_setRow w x.b cs
  refine ⟨h.os, h.tape, h.output, by rw [hsz]; exact h.size, h.drawn, fun k hk hkm => ?_, fun y hy => ?_, fun y hy => ?_, by rw [hm]; exact h.apart⟩
  · rw [setRow_other w x.b k cs (fun e => by
      rcases h.base x hx with h1 | h1
      · omega
      · exact hkm (e ▸ h1))]
    exact h.kept k hk hkm
  · obtain ⟨j, hj⟩ := List.mem_iff_getElem?.1 hy
    rw [List.getElem?_set] at hj
    split at hj
    · rename_i hij
      split at hj
      · obtain rfl := Option.some.inj hj
        exact setRow_heap w x.b x.cs cs x.ty _ (h.held x hx)
      · cases hj
    · rename_i hij
      have hyL := List.mem_of_getElem? hj
      have hne : y.b ≠ x.b := fun e => hij (by
        have h1 : (L.map Blk.b)[i]? = some x.b := by rw [List.getElem?_map, hi]; rfl
        have h2 : (L.map Blk.b)[j]? = some x.b := by rw [List.getElem?_map, hj, ← e]; rfl
        exact nodup_at h.apart h1 h2)
      rw [setRow_other w x.b y.b cs hne]
      exact h.held y hyL
  · have : y.b ∈ (L.set i ⟨x.b, cs, x.ty⟩).map Blk.b := List.mem_map.2 ⟨y, hy, rfl⟩
    rw [hm] at this
    obtain ⟨z, hz, he⟩ := List.mem_map.1 this
    rw [← he]; exact h.base z hz

/-! ### The frame as a function -/
def upd (f : Nat → Value) : Option Tmp → Value → Nat → Value
  | some d, v => fun t => bif Nat.beq t d then v else f t
  | none, _ => f
def Fr (n : Nat) (f : Nat → Value) : Act := { tmps := Array.ofFn (n := n) fun i => f i.val, defers := [] }
def ev (n : Nat) (f : Nat → Value) : Operand → Value
  | .tmp t => bif Nat.blt t n then f t else undef
  | .const v => v
  | .global g => .pointer (some ⟨g, 0, none⟩)
  | .func g => .func (.func g) #[] #[]
theorem blt_t {t n : Nat} (h : t < n) : Nat.blt t n = true := Nat.ble_eq_true_of_le h
theorem blt_f {t n : Nat} (h : ¬ t < n) : Nat.blt t n = false := Bool.eq_false_iff.2 fun e => h (Nat.le_of_ble_eq_true e)
theorem getD_ofFn (n : Nat) (f : Nat → Value) (t : Nat) : (Array.ofFn (n := n) fun i => f i.val).getD t undef = bif Nat.blt t n then f t else undef := by
  rw [Array.getD_eq_getD_getElem?, Array.getElem?_ofFn]
  by_cases h : t < n
  · rw [dif_pos h, blt_t h]; rfl
  · rw [dif_neg h, blt_f h]; rfl
theorem Fr_eval (n : Nat) (f : Nat → Value) : (Fr n f).eval = ev n f := by
  funext x
  cases x with
  | tmp t => exact getD_ofFn n f t
  | _ => rfl
theorem Fr_put (n : Nat) (f : Nat → Value) (d : Option Tmp) (v : Value) : (Fr n f).put d v = Fr n (upd f d v) := by
  cases d with
  | none => rfl
  | some d =>
    show ({ tmps := (Array.ofFn (n := n) fun i => f i.val).setIfInBounds d v, defers := [] } : Act) = { tmps := Array.ofFn (n := n) fun i => upd f (some d) v i.val, defers := [] }
    have key : (Array.ofFn (n := n) fun i => f i.val).setIfInBounds d v = Array.ofFn (n := n) fun i => upd f (some d) v i.val := by
     apply Array.ext_getElem?
     intro i
     rw [Array.getElem?_setIfInBounds, Array.getElem?_ofFn, Array.getElem?_ofFn]
     by_cases h : i < n
     · rw [dif_pos h, dif_pos h]
       by_cases hd : d = i
       · subst hd
         simp [upd, h]
       · have : Nat.beq i d = false := by rw [Bool.eq_false_iff]; intro e; exact hd (Nat.eq_of_beq_eq_true e).symm
         rw [if_neg hd]; simp [upd, this]
     · rw [dif_neg h, dif_neg h]
       by_cases hd : d = i
       · subst hd; simp [h]
       · rw [if_neg hd]
    rw [key]
def asB : Value → Option Bool
  | .bool b => some b
  | _ => none
def yl (ops : Array Oper) (n : Nat) (f : Nat → Value) (j : Nat) : Option Bool :=
  match (ops[j]?).bind (·.dst) with
  | some d => bif Nat.blt d n then asB (f d) else none
  | none => none
theorem Fr_yielded (ops : Array Oper) (n : Nat) (f : Nat → Value) : yielded ops (Fr n f).tmps = yl ops n f := by
  funext j
  unfold yielded yl
  cases h : (ops[j]?).bind (·.dst) with
  | none => rfl
  | some d =>
    show (match (Array.ofFn (n := n) fun i => f i.val)[d]? with | some (.bool b) => some b | _ => none) = _
    rw [Array.getElem?_ofFn]
    by_cases hd : d < n
    · rw [dif_pos hd]
      dsimp only
      rw [blt_t hd]
      cases f d <;> rfl
    · rw [dif_neg hd]
      dsimp only
      rw [blt_f hd]; rfl
def want (ops : Array Oper) (n : Nat) (f : Nat → Value) (o : Oper) : Bool := Region.wanted o (yl ops n f)

/-! ### A run of operations in order -/
section
variable {M : List Nat} {P : Program} {n : Nat} {ops : Array Oper} {W : World} {Q : Exit → Act → World → Prop} {rest : List Oper} {o : Oper} {L : List Blk} {f : Nat → Value}

structure Seg (M : List Nat) (P : Program) (n : Nat) (ops : Array Oper) (W : World) (Q : Exit → Act → World → Prop) (rest : List Oper) (L : List Blk) (f : Nat → Value) : Prop where
  go : ∀ w, Own M W w L → wpList P ops Q rest (Fr n f) w
structure Fin (M : List Nat) (n : Nat) (W : World) (Q : Exit → Act → World → Prop) (e : Exit) (L : List Blk) (f : Nat → Value) : Prop where
  go : ∀ w, Own M W w L → Q e (Fr n f) w
structure Ok (M : List Nat) (P : Program) (n : Nat) (W : World) (Q : Exit → Act → World → Prop) (c : Code) (L : List Blk) (f : Nat → Value) : Prop where
  go : ∀ w, Own M W w L → c.wp P Q (Fr n f) w
/-- The same for a region that draws its order: the operations in the order of the text, in every world in which the blocks are held. -/
structure QSeg (M : List Nat) (P : Program) (n : Nat) (ops : Array Oper) (W : World) (Qe : List Blk → (Nat → Value) → Prop) (rest : List Oper) (L : List Blk) (f : Nat → Value) : Prop where
  go : wpQuiet P ops (fun w => Own M W w L) (fun a => ∃ f', a = Fr n f' ∧ Qe L f') rest (Fr n f)

theorem want_eq (ops : Array Oper) (n : Nat) (f : Nat → Value) (o : Oper) : Region.wanted o (yielded ops (Fr n f).tmps) = want ops n f o := by rw [Fr_yielded]; rfl
theorem s_nil (h : Fin M n W Q .normal L f) : Seg M P n ops W Q [] L f := ⟨h.go⟩
theorem s_skip (hw : want ops n f o = false) (h : Seg M P n ops W Q rest L (upd f o.dst undef)) : Seg M P n ops W Q (o :: rest) L f := ⟨fun w hO => by
  have := h.go w hO
  unfold wpList
  rw [want_eq, hw, if_neg Bool.false_ne_true, Fr_put]
  exact this⟩
theorem s_step (hw : want ops n f o = true) (h : ∀ w, Own M W w L → o.wp P (Fr n f) w (wpList P ops Q rest) Q) : Seg M P n ops W Q (o :: rest) L f := ⟨fun w hO => by
  unfold wpList
  rw [want_eq, hw, if_pos rfl]
  exact .inl (h w hO)⟩
theorem wp_val {K : Act → World → Prop} {w w' : World} (v : Value) (hr : (execOp (ev n f) o).run P w = .ok (.value v) w') (h : K (Fr n (upd f o.dst v)) w') : o.wp P (Fr n f) w K Q := by
  unfold Oper.wp
  rw [Fr_eval, hr]
  show K ((Fr n f).put o.dst v) w'
  rw [Fr_put]; exact h
theorem s_val (v : Value) (hw : want ops n f o = true) (hr : ∀ w, (execOp (ev n f) o).run P w = .ok (.value v) w) (h : Seg M P n ops W Q rest L (upd f o.dst v)) : Seg M P n ops W Q (o :: rest) L f :=
  s_step hw fun w hO => wp_val v (hr w) (h.go w hO)
/-- An operation whose value hangs on the blocks that are held. -/
theorem s_read (v : Value) (hw : want ops n f o = true) (hr : ∀ w, Own M W w L → (execOp (ev n f) o).run P w = .ok (.value v) w) (h : Seg M P n ops W Q rest L (upd f o.dst v)) : Seg M P n ops W Q (o :: rest) L f :=
  s_step hw fun w hO => wp_val v (hr w hO) (h.go w hO)
theorem wp_enter {K : Act → World → Prop} {w : World} {k : FuncId} {args : Array Value} (he : (execOp (ev n f) o).run P w = .ok (.enter k args) w)
    (hc : Calls P k args w fun e w' => ∃ v, e = .returned v ∧ K (Fr n (upd f o.dst v)) w') : o.wp P (Fr n f) w K Q := by
  unfold Oper.wp
  rw [Fr_eval, he]
  show Calls P k args w _
  refine hc.mono fun e w' ⟨v, e1, e2⟩ => ?_
  subst e1
  show K ((Fr n f).put o.dst v) w'
  rw [Fr_put]; exact e2
theorem s_call {k : FuncId} {args : Array Value} (v : Value) (hw : want ops n f o = true) (he : ∀ w, (execOp (ev n f) o).run P w = .ok (.enter k args) w)
    (hc : ∀ w, Own M W w L → Calls P k args w fun e w' => e = .returned v ∧ Below w.heap.size w w') (h : Seg M P n ops W Q rest L (upd f o.dst v)) : Seg M P n ops W Q (o :: rest) L f :=
  s_step hw fun w hO => wp_enter (he w) ((hc w hO).mono fun e w' ⟨e1, e2⟩ => ⟨v, e1, h.go w' (hO.on e2)⟩)
/-- A call that hands back something in new memory: what is known of it. -/
theorem s_callx {k : FuncId} {args : Array Value} (R : Value → List Blk → Prop) (hw : want ops n f o = true) (he : ∀ w, (execOp (ev n f) o).run P w = .ok (.enter k args) w)
    (hc : ∀ w, Own M W w L → Calls P k args w fun e w' => ∃ v L', e = .returned v ∧ R v L' ∧ Own M W w' L') (h : ∀ v L', R v L' → Seg M P n ops W Q rest L' (upd f o.dst v)) : Seg M P n ops W Q (o :: rest) L f :=
  s_step hw fun w hO => wp_enter (he w) ((hc w hO).mono fun e w' ⟨v, L', e1, e2, e3⟩ => ⟨v, e1, (h v L' e2).go w' e3⟩)

def aggB : TypeDesc → Bool
  | .struct _ | .array _ _ => true
  | _ => false
/-! What a variable reads as, and what a store makes of it. -/
def readAt (P : Program) (ty : TypeId) (cs : Array Value) (off : Nat) : Option Value :=
  match P.underlying ty, P.info? ty with
  | some (.struct _), some i => if off + i.size ≤ cs.size then some (.agg (cs.toList.drop off |>.take i.size).toArray) else none
  | some (.array _ _), some i => if off + i.size ≤ cs.size then some (.agg (cs.toList.drop off |>.take i.size).toArray) else none
  | some _, some _ => cs[off]?
  | _, _ => none
theorem add_off (b o j : Nat) : (⟨b, o, none⟩ : Addr).add j = ⟨b, o + j, none⟩ := by unfold Addr.add; split <;> simp_all
theorem run_agg_at {ty : TypeId} {d : TypeDesc} {i : TypeInfo} {cs : Array Value} {w : World} {b off : Nat} {T : TypeId} (hu : P.underlying ty = some d) (hd : aggB d = true) (hi : P.info? ty = some i)
    (hg : w.heap[b]? = some (.cells cs T)) (hle : off + i.size ≤ cs.size) : (loadVar ty ⟨b, off, none⟩).run P w = .ok (.agg (cs.toList.drop off |>.take i.size).toArray) w := by
  have hlen : ((cs.toList.drop off).take i.size).length = i.size := by simp; omega
  have hl := run_loadCells_list (P := P) w ⟨b, off, none⟩ ((cs.toList.drop off).take i.size) (fun j v hv => by
    rw [add_off, cell_of_row w b (off + j) cs T _ hg]
    have hj : j < i.size := by have := (List.getElem?_eq_some_iff.1 hv).1; rw [hlen] at this; exact this
    rw [List.getElem?_take, if_pos hj, List.getElem?_drop] at hv
    simpa using hv)
  rw [hlen] at hl
  have hagg : (isAgg ty).run P w = .ok true w := by
    unfold isAgg
    rw [Sem.run_bind, run_underlying hu w]
    cases d <;> simp_all [aggB]
  simp [loadVar, Sem.run_bind, hagg, sizeOf, typeInfo, hi, hl]
theorem run_readAt {ty : TypeId} {cs : Array Value} {off : Nat} {v : Value} (h : readAt P ty cs off = some v) {w : World} {b : Nat} {T : TypeId} (hg : w.heap[b]? = some (.cells cs T)) :
    (loadVar ty ⟨b, off, none⟩).run P w = .ok v w := by
  unfold readAt at h
  cases hu : P.underlying ty with
  | none => rw [hu] at h; simp at h
  | some d =>
    cases hi : P.info? ty with
    | none => rw [hu, hi] at h; cases d <;> simp at h
    | some i =>
      rw [hu, hi] at h
      by_cases hd : aggB d = true
      · have h2 : (if off + i.size ≤ cs.size then some (Value.agg (cs.toList.drop off |>.take i.size).toArray) else none) = some v := by
          cases d <;> first | exact h | (simp [aggB] at hd)
        split at h2
        · rename_i hle
          obtain rfl := Option.some.inj h2
          exact run_agg_at hu hd hi hg hle
        · cases h2
      · have h2 : cs[off]? = some v := by cases d <;> first | exact h | (simp [aggB] at hd)
        have hagg : (isAgg ty).run P w = .ok false w := by
          unfold isAgg
          rw [Sem.run_bind, run_underlying hu w]
          cases d <;> simp_all [aggB]
        have hc : w.cell? ⟨b, off, none⟩ = some v := (cell_of_row w b off cs T _ hg).trans h2
        simp [loadVar, Sem.run_bind, hagg, run_load, hc, Result.andThen]
theorem run_load_op {ty : TypeId} {x : Operand} {a : Addr} {v : Value} {w : World} (ho : o.op = .load ty x) (hx : ev n f x = .pointer (some a)) (hl : (loadVar ty a).run P w = .ok v w) : (execOp (ev n f) o).run P w = .ok (.value v) w := by
  unfold execOp
  simp only [ho, hx, Instr.loadAt, Instr.sureAddr, Sem.run_bind, Sem.run_pure, Result.andThen_ok, hl]
/-- A load out of block number i of the list. -/
theorem s_load (i : Nat) (x : Blk) {ty : TypeId} {p : Operand} {off : Nat} (v : Value) (hw : want ops n f o = true) (ho : o.op = .load ty p) (hL : L[i]? = some x) (hp : ev n f p = .pointer (some ⟨x.b, off, none⟩)) (hv : readAt P ty x.cs off = some v)
    (h : Seg M P n ops W Q rest L (upd f o.dst v)) : Seg M P n ops W Q (o :: rest) L f :=
  s_read v hw (fun _ hO => run_load_op ho hp (run_readAt hv (hO.get hL))) h
/-- A load of a cell that was there before the call. -/
theorem s_old {ty : TypeId} {p : Operand} {a : Addr} (v : Value) (hw : want ops n f o = true) (ho : o.op = .load ty p) (hp : ev n f p = .pointer (some a)) (hv : ∀ w, Own M W w L → (loadVar ty a).run P w = .ok v w)
    (h : Seg M P n ops W Q rest L (upd f o.dst v)) : Seg M P n ops W Q (o :: rest) L f :=
  s_read v hw (fun w hO => run_load_op ho hp (hv w hO)) h
/-- New variables. -/
theorem s_alloc {T : TypeId} {i : TypeInfo} (z : Value) (hw : want ops n f o = true) (ho : o.op = .alloc T) (hi : P.info? T = some i) (hz : i.zero = some z)
    (h : ∀ b, Seg M P n ops W Q rest (⟨b, z.cells, T⟩ :: L) (upd f o.dst (.pointer (some ⟨b, 0, none⟩)))) : Seg M P n ops W Q (o :: rest) L f :=
  s_step hw fun w hO => by
    refine wp_val (.pointer (some ⟨w.heap.size, 0, none⟩)) (w' := w.alloc (.cells z.cells T)) ?_ ((h w.heap.size).go _ (hO.alloc _ _))
    unfold execOp
    simp [ho, Instr.alloc, zeroValue, typeInfo, hi, hz, newVar, newRow, Sem.run_bind]
theorem s_box {T : TypeId} {x : Operand} (v : Value) (hw : want ops n f o = true) (ho : o.op = .box T x) (hx : ev n f x = v)
    (h : ∀ b, Seg M P n ops W Q rest (⟨b, v.cells, T⟩ :: L) (upd f o.dst (.pointer (some ⟨b, 0, none⟩)))) : Seg M P n ops W Q (o :: rest) L f :=
  s_step hw fun w hO => by
    refine wp_val (.pointer (some ⟨w.heap.size, 0, none⟩)) (w' := w.alloc (.cells v.cells T)) ?_ ((h w.heap.size).go _ (hO.alloc _ _))
    unfold execOp
    simp [ho, hx, Instr.box, newVar, newRow, Sem.run_bind]
def storeIn (cs : Array Value) (off : Nat) (vs : Array Value) : Array Value := (cs.toList.take off ++ vs.toList ++ cs.toList.drop (off + vs.size)).toArray
/-- A store into block number i of the list. -/
theorem s_store (i : Nat) (x : Blk) {T : TypeId} {t : TypeInfo} {p q : Operand} {off : Nat} (v : Value) (hw : want ops n f o = true) (ho : o.op = .store T p q) (hd : o.dst = none) (hL : L[i]? = some x)
    (hp : ev n f p = .pointer (some ⟨x.b, off, none⟩)) (hq : ev n f q = v) (hi : P.info? T = some t) (hs : v.cells.size = t.size) (hle : off + t.size ≤ x.cs.size) (h1 : ∀ u ∈ v.cells.toList, u.oneCell' = true)
    (h : Seg M P n ops W Q rest (L.set i ⟨x.b, storeIn x.cs off v.cells, x.ty⟩) f) : Seg M P n ops W Q (o :: rest) L f :=
  s_step hw fun w hO => by
    have hst := run_storeCells_at (P := P) x.b off x.ty v.cells.toList 0 x.cs w (hO.get hL) (by simp; omega) h1
    unfold Oper.wp
    rw [Fr_eval]
    have hr : (execOp (ev n f) o).run P w = .ok .skip (w.setRow x.b (storeIn x.cs off v.cells)) := by
      unfold execOp
      simp only [ho, hp, hq, Instr.storeAt, Instr.sureAddr, Sem.run_bind, Sem.run_pure, Result.andThen_ok, storeVar, sizeOf, typeInfo, hi, hs, run_program]
      simp only [ne_eq, not_true_eq_false, if_false]
      have : (storeCells ⟨x.b, off, none⟩ v.cells.toList).run P w = .ok () (w.setRow x.b (storeIn x.cs off v.cells)) := by
        rw [hst]; unfold storeIn; simp
      simp [this]
    rw [hr]
    show wpList P ops Q rest ((Fr n f).put o.dst undef) _
    rw [Fr_put, hd]
    exact h.go _ (hO.put hL _)

/-! ### A region that draws its order, of operations that write nothing -/
theorem q_nil {Qe : List Blk → (Nat → Value) → Prop} (h : Qe L f) : QSeg M P n ops W Qe [] L f := ⟨⟨f, rfl, h⟩⟩
theorem q_skip {Qe : List Blk → (Nat → Value) → Prop} (hw : want ops n f o = false) (h : QSeg M P n ops W Qe rest L (upd f o.dst undef)) : QSeg M P n ops W Qe (o :: rest) L f := by
  refine ⟨?_⟩
  replace h := h.go
  refine BigFrame.wpQuiet_skip (by rw [want_eq]; exact hw) ?_
  rw [Fr_put]; exact h
theorem q_read {Qe : List Blk → (Nat → Value) → Prop} (v : Value) (hw : want ops n f o = true) (hr : ∀ w, Own M W w L → (execOp (ev n f) o).run P w = .ok (.value v) w) (h : QSeg M P n ops W Qe rest L (upd f o.dst v)) : QSeg M P n ops W Qe (o :: rest) L f := by
  refine ⟨?_⟩
  replace h := h.go
  refine BigFrame.wpQuiet_want (by rw [want_eq]; exact hw) fun K hK => ⟨v, fun w hO => ?_, hK _ ?_⟩
  · unfold Oper.quietAt
    rw [Fr_eval, hr w hO]
    exact ⟨rfl, rfl⟩
  · rw [Fr_put]; exact h
theorem q_val {Qe : List Blk → (Nat → Value) → Prop} (v : Value) (hw : want ops n f o = true) (hr : ∀ w, (execOp (ev n f) o).run P w = .ok (.value v) w) (h : QSeg M P n ops W Qe rest L (upd f o.dst v)) : QSeg M P n ops W Qe (o :: rest) L f :=
  q_read v hw (fun w _ => hr w) h
theorem q_call {Qe : List Blk → (Nat → Value) → Prop} {k : FuncId} {args : Array Value} (v : Value) (hw : want ops n f o = true) (he : ∀ w, (execOp (ev n f) o).run P w = .ok (.enter k args) w)
    (hc : ∀ w, Own M W w L → Calls P k args w fun e w' => e = .returned v ∧ Below w.heap.size w w') (h : QSeg M P n ops W Qe rest L (upd f o.dst v)) : QSeg M P n ops W Qe (o :: rest) L f := by
  refine ⟨?_⟩
  replace h := h.go
  refine BigFrame.wpQuiet_want (by rw [want_eq]; exact hw) fun K hK => ⟨v, fun w hO => ?_, hK _ ?_⟩
  · unfold Oper.quietAt
    rw [Fr_eval, he w]
    exact ⟨rfl, (hc w hO).mono fun e w' ⟨e1, e2⟩ => ⟨e1, hO.on e2⟩⟩
  · rw [Fr_put]; exact h
theorem q_load {Qe : List Blk → (Nat → Value) → Prop} (i : Nat) (x : Blk) {ty : TypeId} {p : Operand} {off : Nat} (v : Value) (hw : want ops n f o = true) (ho : o.op = .load ty p) (hL : L[i]? = some x) (hp : ev n f p = .pointer (some ⟨x.b, off, none⟩)) (hv : readAt P ty x.cs off = some v)
    (h : QSeg M P n ops W Qe rest L (upd f o.dst v)) : QSeg M P n ops W Qe (o :: rest) L f :=
  q_read v hw (fun _ hO => run_load_op ho hp (run_readAt hv (hO.get hL))) h
theorem q_old {Qe : List Blk → (Nat → Value) → Prop} {ty : TypeId} {p : Operand} {a : Addr} (v : Value) (hw : want ops n f o = true) (ho : o.op = .load ty p) (hp : ev n f p = .pointer (some a)) (hv : ∀ w, Own M W w L → (loadVar ty a).run P w = .ok v w)
    (h : QSeg M P n ops W Qe rest L (upd f o.dst v)) : QSeg M P n ops W Qe (o :: rest) L f :=
  q_read v hw (fun w hO => run_load_op ho hp (hv w hO)) h

/-! ### Control -/
theorem ok_seq {x y : Code} (h : Ok M P n W (Exit.then (Code.wp P y Q) Q) x L f) : Ok M P n W Q (.seq x y) L f := ⟨fun w hO => wp_seq (h.go w hO)⟩
theorem ok_region {id : Nat} {l : List Oper} (h : Seg M P n l.toArray W Q l L f) : Ok M P n W Q (.region id l.toArray false) L f := ⟨fun w hO => wp_region_lit (h.go w hO)⟩
theorem ok_draw {id : Nat} {l : List Oper} (hm : P.follows .mixedOrders = true) (hB : Region.lexB .any l.toArray = true) (h : QSeg M P n l.toArray W (Fin M n W Q .normal) l L f) : Ok M P n W Q (.region id l.toArray true) L f := ⟨fun w hO =>
  wp_region_quiet (C := fun w => Own M W w L) hm hB hO.drew (by
    have e : l.toArray.toList = l := by simp
    rw [e]
    have key : ∀ (r : List Oper) (a : Act), wpQuiet P l.toArray (fun w => Own M W w L) (fun a => ∃ f', a = Fr n f' ∧ Fin M n W Q .normal L f') r a → wpQuiet P l.toArray (fun w => Own M W w L) (fun a' => ∀ w', Own M W w' L → Q .normal a' w') r a := by
      intro r
      induction r with
      | nil => rintro a ⟨f', rfl, h⟩; exact h.go
      | cons o r ih =>
        intro a h
        unfold wpQuiet at h ⊢
        split
        · rename_i hw; rw [if_pos hw] at h; exact Oper.quiet_mono ih h
        · rename_i hw; rw [if_neg hw] at h; exact ih _ h
    exact key l _ h.go)⟩
theorem ok_if {c : Operand} {x y : Code} (t : Bool) (hc : ev n f c = .bool t) (ht : t = true → Ok M P n W Q x L f) (hf : t = false → Ok M P n W Q y L f) : Ok M P n W Q (.cond c x y) L f := ⟨fun w hO =>
  wp_cond_split (t := t) (by rw [Fr_eval]; exact hc) (fun h => (ht h).go w hO) (fun h => (hf h).go w hO)⟩
theorem ok_true {c : Operand} {x y : Code} (hc : ev n f c = .bool true) (h : Ok M P n W Q x L f) : Ok M P n W Q (.cond c x y) L f := ⟨fun w hO => wp_cond_true (by rw [Fr_eval]; exact hc) (h.go w hO)⟩
theorem ok_false {c : Operand} {x y : Code} (hc : ev n f c = .bool false) (h : Ok M P n W Q y L f) : Ok M P n W Q (.cond c x y) L f := ⟨fun w hO => wp_cond_false (by rw [Fr_eval]; exact hc) (h.go w hO)⟩
theorem ok_block {id : Nat} {c : Code} (h : Ok M P n W (Exit.inBlock id Q) c L f) : Ok M P n W Q (.block id c) L f := ⟨fun w hO => wp_block (h.go w hO)⟩
theorem ok_exit {id : Nat} (h : Fin M n W Q (.exit id) L f) : Ok M P n W Q (.exit id) L f := ⟨fun w hO => wp_exit (h.go w hO)⟩
theorem ok_skip (h : Fin M n W Q .normal L f) : Ok M P n W Q .skip L f := ⟨fun w hO => wp_skip (h.go w hO)⟩
theorem ok_ret (h : Fin M n W Q .ret L f) : Ok M P n W Q .ret L f := ⟨fun w hO => wp_ret (h.go w hO)⟩
theorem fin_seq {y : Code} (h : Ok M P n W Q y L f) : Fin M n W (Exit.then (Code.wp P y Q) Q) .normal L f := ⟨h.go⟩
theorem fin_seq_ret {K : Act → World → Prop} (h : Fin M n W Q .ret L f) : Fin M n W (Exit.then K Q) .ret L f := ⟨h.go⟩
theorem fin_seq_exit {K : Act → World → Prop} {id : Nat} (h : Fin M n W Q (.exit id) L f) : Fin M n W (Exit.then K Q) (.exit id) L f := ⟨h.go⟩
theorem fin_block {id : Nat} (h : Fin M n W Q .normal L f) : Fin M n W (Exit.inBlock id Q) .normal L f := ⟨h.go⟩
theorem fin_block_ret {id : Nat} (h : Fin M n W Q .ret L f) : Fin M n W (Exit.inBlock id Q) .ret L f := ⟨h.go⟩
theorem fin_block_exit {id : Nat} (h : Fin M n W Q .normal L f) : Fin M n W (Exit.inBlock id Q) (.exit id) L f := ⟨fun w hO => by
  show if id = id then _ else _
  rw [if_pos rfl]; exact h.go w hO⟩
theorem fin_block_other {id id' : Nat} (hne : id' ≠ id) (h : Fin M n W Q (.exit id') L f) : Fin M n W (Exit.inBlock id Q) (.exit id') L f := ⟨fun w hO => by
  show if id' = id then _ else _
  rw [if_neg hne]; exact h.go w hO⟩
/-- A loop: what holds at each round's head, of the blocks, the frame and a number that each round lowers. -/
def Round (M : List Nat) (n : Nat) (W : World) (Inv : List Blk → (Nat → Value) → Nat → Prop) (m : Nat) (Q : Exit → Act → World → Prop) : Exit → Act → World → Prop :=
  Exit.then (fun a w => ∃ L f m', m' < m ∧ Inv L f m' ∧ Own M W w L ∧ a = Fr n f) Q
theorem ok_loop {c : Code} (Inv : List Blk → (Nat → Value) → Nat → Prop) (m : Nat) (h0 : Inv L f m) (h : ∀ L f m, Inv L f m → Ok M P n W (Round M n W Inv m Q) c L f) : Ok M P n W Q (.loop c) L f := ⟨fun w hO => by
  intro b k cs
  have run : ∀ (m : Nat) (L : List Blk) (f : Nat → Value) (w : World), Inv L f m → Own M W w L → ∃ e a' w', Q e a' w' ∧ Arrives P (lone (b.at (Fr n f) (.code c :: .inLoop c :: k)) cs w) b k cs e a' w' := by
    intro m
    induction m using Nat.strongRecOn with
    | _ m ih =>
      intro L f w hI hO
      obtain ⟨e, a₁, w₁, hq, harr⟩ := (h L f m hI).go w hO b (.inLoop c :: k) cs
      cases e with
      | normal =>
        obtain ⟨L', f', m', hlt, hI', hO', rfl⟩ := hq
        obtain ⟨e₂, a₂, w₂, hq₂, harr₂⟩ := ih m' hlt L' f' w₁ hI' hO'
        exact ⟨e₂, a₂, w₂, hq₂, .of_steps (Steps.trans harr (.one step_inLoop)) harr₂⟩
      | exit id => exact ⟨_, a₁, w₁, hq, .pass (x := .inLoop c) rfl (fun _ _ => .inl (by simp)) harr⟩
      | goto l => exact ⟨_, a₁, w₁, hq, .pass (x := .inLoop c) rfl (fun _ _ => .inl (by simp)) harr⟩
      | ret => exact ⟨_, a₁, w₁, hq, .pass (x := .inLoop c) rfl (fun _ _ => .inl (by simp)) harr⟩
      | panic ch => exact ⟨_, a₁, w₁, hq, .pass (x := .inLoop c) rfl (fun _ _ => .inl (by simp)) harr⟩
      | outgrown => exact ⟨_, a₁, w₁, hq, .pass (x := .inLoop c) rfl (fun _ _ => .inl (by simp)) harr⟩
  obtain ⟨e, a', w', hq, harr⟩ := run m L f w h0 hO
  exact ⟨e, a', w', hq, .of_steps (.one step_loop) harr⟩⟩
theorem fin_round {Inv : List Blk → (Nat → Value) → Nat → Prop} {m m' : Nat} (hlt : m' < m) (hI : Inv L f m') : Fin M n W (Round M n W Inv m Q) .normal L f := ⟨fun w hO => ⟨L, f, m', hlt, hI, hO, rfl⟩⟩
theorem fin_round_ret {Inv : List Blk → (Nat → Value) → Nat → Prop} {m : Nat} (h : Fin M n W Q .ret L f) : Fin M n W (Round M n W Inv m Q) .ret L f := ⟨h.go⟩
theorem fin_round_exit {Inv : List Blk → (Nat → Value) → Nat → Prop} {m id : Nat} (h : Fin M n W Q (.exit id) L f) : Fin M n W (Round M n W Inv m Q) (.exit id) L f := ⟨h.go⟩
/-- A slot that already holds the value. -/
theorem upd_self {f : Nat → Value} {d : Nat} {v : Value} (h : f d = v) : f = upd f (some d) v := by
  funext t
  show f t = bif Nat.beq t d then v else f t
  by_cases e : t = d
  · subst e
    have : Nat.beq t t = true := Nat.beq_refl t
    rw [this]; exact h
  · have : Nat.beq t d = false := by rw [Bool.eq_false_iff]; intro h2; exact e (Nat.eq_of_beq_eq_true h2)
    rw [this]; rfl

/-! ### In and out -/
theorem calls_okM (M : List Nat) {k : FuncId} {fn : Func} {c : Code} {args : Array Value} {R : Ending → World → Prop} (hf : P.funcs[k]? = some fn) (hb : fn.body = some c) (hn : fn.ntmps = n) (hle : Nat.ble args.size n = true)
    (h : Ok M P n W (bodyPost P fn R) c [] (fun t => args.getD t undef)) : Calls P k args W R := by
  refine calls_of_wp hf hb ?_
  have hle' : args.size ≤ n := Nat.le_of_ble_eq_true hle
  have e : ({ tmps := args ++ Array.replicate (fn.ntmps - args.size) undef, defers := [] } : Act) = Fr n (fun t => args.getD t undef) := by
    unfold Fr
    congr 1
    rw [hn]
    apply Array.ext_getElem?
    intro i
    rw [Array.getElem?_ofFn, Array.getElem?_append, Array.getElem?_replicate]
    by_cases hi : i < args.size
    · rw [if_pos hi, dif_pos (by omega), Array.getElem?_eq_getElem hi]
      simp [Array.getD, hi]
    · rw [if_neg hi]
      by_cases hin : i < n
      · rw [if_pos (by omega), dif_pos hin]
        simp [Array.getD, hi]
      · rw [if_neg (by omega), dif_neg hin]
  rw [e]
  exact h.go W (Own.start _ W)
theorem calls_ok {k : FuncId} {fn : Func} {c : Code} {args : Array Value} {R : Ending → World → Prop} (hf : P.funcs[k]? = some fn) (hb : fn.body = some c) (hn : fn.ntmps = n) (hle : Nat.ble args.size n = true)
    (h : Ok [] P n W (bodyPost P fn R) c [] (fun t => args.getD t undef)) : Calls P k args W R := calls_okM [] hf hb hn hle h
theorem fin_ret {fn : Func} {R : Ending → World → Prop} {t : Tmp} (v : Value) (hres : fn.results = #[.tmp t]) (hv : ev n f (.tmp t) = v) (hR : ∀ w, Own M W w L → R (.returned v) w) : Fin M n W (bodyPost P fn R) .ret L f := ⟨fun w hO => by
  refine bodyPost_ret (v := v) ?_ rfl (hR w hO)
  rw [results_tmp hres]
  have : (Fr n f).tmps.getD t undef = v := (getD_ofFn n f t).trans hv
  rw [this]⟩
def resAt (P : Program) (n : Nat) (f : Nat → Value) (L : List Blk) : ResultVar → Nat → Option Value
  | .tmp t, _ => some (ev n f (.tmp t))
  | .cell p ty, i =>
    match L[i]?, ev n f (.tmp p) with
    | some x, .pointer (some ⟨b, off, none⟩) => bif Nat.beq b x.b then readAt P ty x.cs off else none
    | _, _ => none
theorem fin_cell {fn : Func} {R : Ending → World → Prop} {p : Tmp} {ty : TypeId} (i : Nat) (x : Blk) {off : Nat} (v : Value) (hres : fn.results = #[.cell p ty]) (hL : L[i]? = some x) (hp : ev n f (.tmp p) = .pointer (some ⟨x.b, off, none⟩)) (hv : readAt P ty x.cs off = some v)
    (hR : ∀ w, Own M W w L → R (.returned v) w) : Fin M n W (bodyPost P fn R) .ret L f := ⟨fun w hO => by
  refine bodyPost_ret (v := v) ?_ rfl (hR w hO)
  have e : (Fr n f).tmps.getD p undef = .pointer (some ⟨x.b, off, none⟩) := (getD_ofFn n f p).trans hp
  have hr := run_readAt hv (hO.get hL)
  have e' : (Fr n f).tmps[p]?.getD undef = .pointer (some ⟨x.b, off, none⟩) := by simpa using e
  simp [results, hres, e', asAddr, hr]⟩
theorem fin_ret2 {fn : Func} {R : Ending → World → Prop} {t u : Tmp} (v v' : Value) (hres : fn.results = #[.tmp t, .tmp u]) (hv : ev n f (.tmp t) = v) (hv' : ev n f (.tmp u) = v') (hR : ∀ w, Own M W w L → R (.returned (.tuple #[v, v'])) w) : Fin M n W (bodyPost P fn R) .ret L f := ⟨fun w hO => by
  refine bodyPost_ret (v := .tuple #[v, v']) ?_ rfl (hR w hO)
  rw [results_tmp2 hres]
  have e1 : (Fr n f).tmps.getD t undef = v := (getD_ofFn n f t).trans hv
  have e2 : (Fr n f).tmps.getD u undef = v' := (getD_ofFn n f u).trans hv'
  rw [e1, e2]⟩
theorem fin_cell2 {fn : Func} {R : Ending → World → Prop} {p u : Tmp} {ty : TypeId} (i : Nat) (x : Blk) {off : Nat} (v v' : Value) (hres : fn.results = #[.cell p ty, .tmp u]) (hL : L[i]? = some x) (hp : ev n f (.tmp p) = .pointer (some ⟨x.b, off, none⟩)) (hv : readAt P ty x.cs off = some v) (hv' : ev n f (.tmp u) = v')
    (hR : ∀ w, Own M W w L → R (.returned (.tuple #[v, v'])) w) : Fin M n W (bodyPost P fn R) .ret L f := ⟨fun w hO => by
  refine bodyPost_ret (v := .tuple #[v, v']) ?_ rfl (hR w hO)
  have e : (Fr n f).tmps.getD p undef = .pointer (some ⟨x.b, off, none⟩) := (getD_ofFn n f p).trans hp
  have hr := run_readAt hv (hO.get hL)
  have e' : (Fr n f).tmps[p]?.getD undef = .pointer (some ⟨x.b, off, none⟩) := by simpa using e
  have e2 : (Fr n f).tmps.getD u undef = v' := (getD_ofFn n f u).trans hv'
  have e2' : (Fr n f).tmps[u]?.getD undef = v' := by simpa using e2
  simp [results, hres, e', e2', asAddr, hr]⟩
end
/-! ### Handy forms -/
section
variable {M : List Nat} {P : Program} {n : Nat} {ops : Array Oper} {W : World} {Q : Exit → Act → World → Prop} {rest : List Oper} {o : Oper} {L : List Blk} {f : Nat → Value} {Qe : List Blk → (Nat → Value) → Prop}
theorem s_dec {p : Prop} [Decidable p] (t : Bool) (hw : want ops n f o = true) (hr : ∀ w, (execOp (ev n f) o).run P w = .ok (.value (.bool (decide p))) w) (hp : decide p = t) (h : Seg M P n ops W Q rest L (upd f o.dst (.bool t))) : Seg M P n ops W Q (o :: rest) L f := s_val (.bool t) hw (fun w => hp ▸ hr w) h
theorem q_dec {p : Prop} [Decidable p] (t : Bool) (hw : want ops n f o = true) (hr : ∀ w, (execOp (ev n f) o).run P w = .ok (.value (.bool (decide p))) w) (hp : decide p = t) (h : QSeg M P n ops W Qe rest L (upd f o.dst (.bool t))) : QSeg M P n ops W Qe (o :: rest) L f := q_val (.bool t) hw (fun w => hp ▸ hr w) h
theorem s_ndec {p : Prop} [Decidable p] (t : Bool) (hw : want ops n f o = true) (hr : ∀ w, (execOp (ev n f) o).run P w = .ok (.value (.bool (!decide p))) w) (hp : decide p = t) (h : Seg M P n ops W Q rest L (upd f o.dst (.bool (!t)))) : Seg M P n ops W Q (o :: rest) L f := s_val (.bool (!t)) hw (fun w => hp ▸ hr w) h
theorem q_ndec {p : Prop} [Decidable p] (t : Bool) (hw : want ops n f o = true) (hr : ∀ w, (execOp (ev n f) o).run P w = .ok (.value (.bool (!decide p))) w) (hp : decide p = t) (h : QSeg M P n ops W Qe rest L (upd f o.dst (.bool (!t)))) : QSeg M P n ops W Qe (o :: rest) L f := q_val (.bool (!t)) hw (fun w => hp ▸ hr w) h
theorem s_sum {k : IntKind} (z : Int) (hw : want ops n f o = true) (hr : ∀ w, (execOp (ev n f) o).run P w = .ok (.value (.int k (k.wrap z))) w) (hz : k.wrap z = z) (h : Seg M P n ops W Q rest L (upd f o.dst (.int k z))) : Seg M P n ops W Q (o :: rest) L f := s_val (.int k z) hw (fun w => by rw [hr w, hz]) h
theorem q_sum {k : IntKind} (z : Int) (hw : want ops n f o = true) (hr : ∀ w, (execOp (ev n f) o).run P w = .ok (.value (.int k (k.wrap z))) w) (hz : k.wrap z = z) (h : QSeg M P n ops W Qe rest L (upd f o.dst (.int k z))) : QSeg M P n ops W Qe (o :: rest) L f := q_val (.int k z) hw (fun w => by rw [hr w, hz]) h
theorem s_alloc_at {T : TypeId} (z : Value) (hw : want ops n f o = true) (ho : o.op = .alloc T) (hi : (P.info? T).map (·.zero) = some (some z))
    (h : ∀ b, Seg M P n ops W Q rest (⟨b, z.cells, T⟩ :: L) (upd f o.dst (.pointer (some ⟨b, 0, none⟩)))) : Seg M P n ops W Q (o :: rest) L f := by
  cases hq : P.info? T with
  | none => rw [hq] at hi; cases hi
  | some i => rw [hq] at hi; exact s_alloc z hw ho hq (Option.some.inj hi) h
theorem s_store_at (i : Nat) (x : Blk) {T : TypeId} {p q : Operand} {off : Nat} (v : Value) (hw : want ops n f o = true) (ho : o.op = .store T p q) (hd : o.dst = none) (hL : L[i]? = some x)
    (hp : ev n f p = .pointer (some ⟨x.b, off, none⟩)) (hq : ev n f q = v) (hi : ((P.info? T).map fun t => Nat.beq v.cells.size t.size && Nat.ble (off + t.size) x.cs.size) = some true) (h1 : (v.cells.toList.all fun u => u.oneCell') = true)
    (h : Seg M P n ops W Q rest (L.set i ⟨x.b, storeIn x.cs off v.cells, x.ty⟩) f) : Seg M P n ops W Q (o :: rest) L f := by
  cases hz : P.info? T with
  | none => rw [hz] at hi; cases hi
  | some t =>
    rw [hz] at hi
    have e : (Nat.beq v.cells.size t.size && Nat.ble (off + t.size) x.cs.size) = true := Option.some.inj hi
    rw [Bool.and_eq_true] at e
    exact s_store i x v hw ho hd hL hp hq hz (Nat.eq_of_beq_eq_true e.1) (Nat.le_of_ble_eq_true e.2) (List.all_eq_true.1 h1) h
end
end Go.Proofs.Ytjgmmeienchfnaa
