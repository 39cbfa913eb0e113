/-
  What the statements' proofs lean on, part 1: each part begins with a remark that says what it proves and on what conditions.
-/
import Derived.WalkKit
import Derived.Below
import Derived.Deep.Draws
import Derived.Sort.Grow
import Derived.Laws.AppendOwn
import Derived.Deep.Quiet
import Derived.BigQuiet
import Derived.Lib.Hide
import Derived.Laws.CopyRow
import Derived.Laws.Rows
import Derived.Deep.RegionHeld3
import Derived.Laws.Slices
import Derived.Laws.MakeOwn
import Derived.Lib.BufferWrite
import Derived.Lib.UnsafeStr
import Derived.Tactics
import Derived.Lib.AppendZerosOnto
import Derived.Test.YtglbfknmeojfkaaProg
import Derived.Lib.MapLaws
import Derived.Lib.TrimUEq
import Derived.Laws.StructEq
import Derived.LoopN
import Derived.IntWalk
import Derived.Outline
import Derived.StillTailTactics

section
/-
  Below block number B the world is as it was, and the draws have not gone back (the library's Below and one field more). No condition.
-/
namespace Go.Proofs.Ytglbfknmeojfkaa
open Go.RowKit
set_option linter.unusedVariables false

structure Below (B : Nat) (w w' : World) : Prop where
  os : w'.os = w.os
  tape : w'.tape = w.tape
  output : w'.output = w.output
  size : w.heap.size ≤ w'.heap.size
  drawn : w.drawn ≤ w'.drawn
  block : ∀ k, k < B → w'.heap[k]? = w.heap[k]?

theorem Below.old {B : Nat} {w w' : World} (h : Below B w w') : Go.RowKit.Below B w w' := ⟨h.os, h.tape, h.output, h.size, h.block⟩
theorem Below.refl (B : Nat) (w : World) : Below B w w := ⟨rfl, rfl, rfl, Nat.le_refl _, Nat.le_refl _, fun _ _ => rfl⟩
theorem Below.trans {B : Nat} {a b c : World} (h : Below B a b) (k : Below B b c) : Below B a c :=
  ⟨k.os.trans h.os, k.tape.trans h.tape, k.output.trans h.output, Nat.le_trans h.size k.size, Nat.le_trans h.drawn k.drawn, fun i hi => (k.block i hi).trans (h.block i hi)⟩
theorem Below.mono {B B' : Nat} {w w' : World} (h : Below B w w') (hB : B' ≤ B) : Below B' w w' := ⟨h.os, h.tape, h.output, h.size, h.drawn, fun k hk => h.block k (Nat.lt_of_lt_of_le hk hB)⟩
theorem Below.heap_alloc (w : World) (o : Obj) (k : Nat) (h : k < w.heap.size) : (w.alloc o).heap[k]? = w.heap[k]? := Go.RowKit.Below.heap_alloc w o k h
theorem Below.alloc {B : Nat} {a w : World} (h : Below B a w) (hB : B ≤ w.heap.size) (o : Obj) : Below B a (w.alloc o) :=
  h.trans ⟨rfl, rfl, rfl, by simp, Nat.le_refl _, fun k hk => Below.heap_alloc _ _ _ (by omega)⟩
theorem Below.cell {B : Nat} {w w' : World} (h : Below B w w') {p : Addr} (hp : p.block < B) : w'.cell? p = w.cell? p := h.old.cell hp
theorem Below.frame {W w' : World} (h : Below W.heap.size W w') (may : MemPlace → Prop) : W.keptBut w' may := h.old.frame may
/-! ### What a run of the model's own monad does to the draws -/
theorem ask_drawn {α : Type} : ∀ (k : Ask α) (w : World), w.drawn ≤ (w.ask k).2.drawn
  | .done a, w => Nat.le_refl _
  | .ask what range k, w => by
    unfold World.ask
    dsimp only
    split
    · exact ask_drawn (k 0) w
    · exact Nat.le_trans (Nat.le_succ _) (ask_drawn (k ((Question.extern what range).cut (w.tape w.drawn (Question.extern what range)))) { w with drawn := w.drawn + 1 })
theorem sys_drawn (w : World) (c : Sys) : w.drawn ≤ (w.sys c).2.drawn := by
  unfold World.sys
  have h := ask_drawn (Kernel.perform c w.os) w
  split
  · exact Nat.le_refl _
  · rename_i r os w1 heq
    rw [heq] at h; exact h
theorem farStore_drawn {p : Program} {w w1 : World} {a : Addr} {v : Value} {b : Bool} {l : List Addr} (h : w.farStore p a v b = .ok (w1, l)) : w1.drawn = w.drawn := by
  unfold World.farStore at h
  split at h
  · split at h
    · rename_i r hr
      obtain rfl := Except.ok.inj h
      unfold World.viewStore at hr
      simp only [bind, Except.bind, pure, Except.pure] at hr
      repeat' (first | (cases hr; done) | (cases hr; rfl) | split at hr)
    · cases h
  · cases h
theorem run_drawn {α : Type} (p : Program) (s : Sem α) : ∀ (w : World) {a : α} {w' : World}, s.run p w = .ok a w' → w.drawn ≤ w'.drawn := by
  induction s with
  | pure a => intro w _ _ h; cases h; exact Nat.le_refl _
  | load m a k ih =>
    intro w a' w' h
    rw [Sem.run] at h
    split at h
    · exact ih _ _ h
    · split at h
      · exact ih _ _ h
      · cases h
  | store m a v k ih =>
    intro w a' w' h
    have h : (match w.cell? a with
      | some _ => if w.frozen? a then Result.halt (.unsupported (.unsafePointer "a write to bytes that a string shares")) w else k.run p (w.setCell a v)
      | none => match World.farStore p w a v (m == Mode.atomic) with
        | .ok (w, _) => k.run p w
        | .error h => Result.halt h w) = .ok a' w' := by cases v <;> first | exact h | cases h
    split at h
    · split at h
      · cases h
      · exact ih (w.setCell a v) h
    · split at h
      · rename_i w1 l hf
        have := ih w1 h
        rw [farStore_drawn hf] at this; exact this
      · cases h
  | new o k ih => intro w a' w' h; exact ih w.heap.size { w with heap := w.heap.push o } h
  | shape r k ih => intro w a' w' h; exact ih _ _ h
  | freeze a n k ih =>
    intro w a' w' h
    have := ih (w.freeze a n) h
    unfold World.freeze at this
    split at this <;> exact this
  | frozen a k ih => intro w a' w' h; exact ih _ _ h
  | getObj r k ih =>
    intro w a' w' h
    rw [Sem.run] at h
    split at h
    · cases h
    · exact ih _ _ h
    · cases h
  | setObj r o k ih =>
    intro w a' w' h
    have h : (match w.heap[r]? with | some (.cells ..) => Result.halt (.stuck "setObj: a row of cells") w | some _ => k.run p { w with heap := w.heap.setIfInBounds r o } | none => Result.halt (.stuck "setObj: no such block") w) = .ok a' w' := h
    split at h
    · cases h
    · exact ih { w with heap := w.heap.setIfInBounds r o } h
    · cases h
  | choose q k ih =>
    intro w a' w' h
    have h : (if q.forced then (k 0).run p w else (k (q.cut (w.tape w.drawn q))).run p { w with drawn := w.drawn + 1 }) = .ok a' w' := h
    split at h
    · exact ih _ _ h
    · exact Nat.le_trans (Nat.le_succ _) (ih _ { w with drawn := w.drawn + 1 } h)
  | sys c k ih => intro w a' w' h; exact Nat.le_trans (sys_drawn w c) (ih _ _ h)
  | program k ih => intro w a' w' h; exact ih _ _ h
  | mark m k ih => intro w a' w' h; exact ih _ h
  | halt e => intro w a' w' h; cases h
structure GrownD (w w' : World) (row : Option Nat) : Prop where
  old : w.grownBy w' row
  drawn : w.drawn ≤ w'.drawn
theorem Below.grown {B : Nat} {a w w' : World} {row : Option Nat} (h : Below B a w) (hg : GrownD w w' row) (hB : B ≤ w.heap.size) (hr : ∀ k, row = some k → B ≤ k) : Below B a w' :=
  have h2 := h.old.grown hg.old hB hr
  ⟨h2.os, h2.tape, h2.output, h2.size, Nat.le_trans h.drawn hg.drawn, h2.block⟩
theorem wpList_append_own {P : Program} (w : World) {ops : Array Oper} {rest : List Oper} {o : Oper} {a : Act} {Q : Exit → Act → World → Prop} (hgd : o.guard = none) (s x : Operand) (t : TypeId)
    (ho : o.op = .call { callee := .builtin .append, args := #[s, x], argTypes := #[t, t] })
    (base : Nat) (e : TypeId) (i : TypeInfo) (z : Value) (size bytes : Nat) (ht : P.underlying t = some (.slice e)) (hi : P.info? e = some i) (hz : i.zero = some z)
    (hsize : i.size = size) (hby : i.bytes = bytes) (hzs : z.cells.size = size) (hsz : 0 < size)
    (v : Value) (n : Nat) (xs : List Value) (hs : a.eval s = v) (hown : w.ownsRow base e size v n xs)
    (ad : Addr) (m c : Nat) (news : List Value) (hx : a.eval x = .slice (some ad) m c) (hl : news.length = m * size) (hnews : ∀ j u, news[j]? = some u → w.cell? (ad.add j) = some u) (h1 : ∀ u ∈ news, u.oneCell' = true)
    (h63 : n + m ≤ maxLen) (hbytes : (n + m) * bytes ≤ 140737488355328) (hbase : base ≤ w.heap.size)
    (h : ∀ v' w', w'.ownsRow base e size v' (n + m) (xs ++ news) → GrownD w w' v.ownBlock → (v' = .slice none 0 0 ↔ v = .slice none 0 0 ∧ m = 0) → wpList P ops Q rest (a.put o.dst v') w') : wpList P ops Q (o :: rest) a w := by
  refine wpList_plain hgd fun K hK => ?_
  obtain ⟨v', w', hr, h2, h3, h4⟩ := run_append_own (P := P) w base t o.type e i z size bytes ht hi hz hsize hby hzs hsz v n xs hown ad m c news hl hnews h1 h63 hbytes hbase
  have hd := run_drawn P _ _ hr
  unfold Oper.wp execOp
  simp only [ho, resolve, invoke, builtin, Sem.run_bind, Sem.run_pure, Result.andThen_ok, List.map_toArray, List.map_cons, List.map_nil, hs, hx, hr]
  exact hK _ _ (h v' w' h2 ⟨h3, hd⟩ h4)
end Go.Proofs.Ytglbfknmeojfkaa
end

section
/-
  Steps for walking a function's text with the frame as a function of the slot and the call's own blocks as a list: one theorem an operation, no search. No condition of their own.
-/
namespace Go.Proofs.Ytglbfknmeojfkaa
open Go.RowKit
set_option linter.unusedVariables false
set_option linter.unusedSimpArgs false

/-! ### The blocks that the call has made -/
structure Blk where
  b : Nat
  cs : Array Value
  ty : TypeId
/-- The world at hand against the one at the call's entry: the blocks that the call has made (or borrowed: M) hold this; of what was there nothing else has changed. -/
structure Own (M : List Nat) (W w : World) (L : List Blk) : Prop where
  os : w.os = W.os
  tape : w.tape = W.tape
  output : w.output = W.output
  size : W.heap.size ≤ w.heap.size
  drawn : W.drawn ≤ w.drawn
  kept : ∀ k, k < W.heap.size → k ∉ M → w.heap[k]? = W.heap[k]?
  held : ∀ x ∈ L, w.heap[x.b]? = some (.cells x.cs x.ty)
  base : ∀ x ∈ L, W.heap.size ≤ x.b ∨ x.b ∈ M
  apart : (L.map Blk.b).Nodup
theorem Own.below {W w : World} {L : List Blk} (h : Own [] W w L) : Below W.heap.size W w := ⟨h.os, h.tape, h.output, h.size, h.drawn, fun k hk => h.kept k hk (by simp)⟩
theorem Own.start (M : List Nat) (W : World) : Own M W W [] := ⟨rfl, rfl, rfl, Nat.le_refl _, Nat.le_refl _, fun _ _ _ => rfl, by simp, by simp, by simp⟩
theorem Own.lt {M : List Nat} {W w : World} {L : List Blk} (h : Own M W w L) {x : Blk} (hx : x ∈ L) : x.b < w.heap.size := (Array.getElem?_eq_some_iff.1 (h.held x hx)).1
theorem Own.on {M : List Nat} {W w w' : World} {L : List Blk} (h : Own M W w L) (hb : Below w.heap.size w w') : Own M W w' L :=
  ⟨hb.os.trans h.os, hb.tape.trans h.tape, hb.output.trans h.output, Nat.le_trans h.size hb.size, Nat.le_trans h.drawn hb.drawn, fun k hk hm => (hb.block k (Nat.lt_of_lt_of_le hk h.size)).trans (h.kept k hk hm), fun x hx => (hb.block x.b (h.lt hx)).trans (h.held x hx), h.base, h.apart⟩
theorem Own.drew {M : List Nat} {W w : World} {L : List Blk} (h : Own M W w L) : Own M W { w with drawn := w.drawn + 1 } L := ⟨h.os, h.tape, h.output, h.size, Nat.le_succ_of_le h.drawn, h.kept, h.held, h.base, h.apart⟩
theorem Own.get {M : List Nat} {W w : World} {L : List Blk} (h : Own M W w L) {i : Nat} {x : Blk} (hi : L[i]? = some x) : w.heap[x.b]? = some (.cells x.cs x.ty) := h.held x (List.mem_of_getElem? hi)
theorem Own.alloc {M : List Nat} {W w : World} {L : List Blk} (h : Own M W w L) (cs : Array Value) (T : TypeId) : Own M W (w.alloc (.cells cs T)) (⟨w.heap.size, cs, T⟩ :: L) := by
  refine ⟨h.os, h.tape, h.output, Nat.le_trans h.size (by simp), h.drawn, fun k hk hm => ?_, fun x hx => ?_, fun x hx => ?_, ?_⟩
  · rw [Below.heap_alloc w _ k (Nat.lt_of_lt_of_le hk h.size)]; exact h.kept k hk hm
  · rcases List.mem_cons.1 hx with rfl | hx
    · exact heap_alloc_new w _
    · exact (Below.heap_alloc w _ x.b (h.lt hx)).trans (h.held x hx)
  · rcases List.mem_cons.1 hx with rfl | hx
    · exact .inl h.size
    · exact h.base x hx
  · rw [List.map_cons, List.nodup_cons]
    refine ⟨fun hm => ?_, h.apart⟩
    obtain ⟨y, hy, he⟩ := List.mem_map.1 hm
    have := h.lt hy
    rw [he] at this
    exact absurd this (Nat.lt_irrefl _)
theorem map_set_b (L : List Blk) (i : Nat) (x y : Blk) (hi : L[i]? = some x) (hb : y.b = x.b) : (L.set i y).map Blk.b = L.map Blk.b := by
  rw [List.map_set, hb]
  have : (L.map Blk.b)[i]? = some x.b := by rw [List.getElem?_map, hi]; rfl
  obtain ⟨hlt, he⟩ := List.getElem?_eq_some_iff.1 this
  rw [← he, List.set_getElem_self]
theorem nodup_at {α : Type} {l : List α} (h : l.Nodup) {i j : Nat} {x : α} (hi : l[i]? = some x) (hj : l[j]? = some x) : i = j := by
  obtain ⟨a, ha⟩ := List.getElem?_eq_some_iff.1 hi
  obtain ⟨b, hb⟩ := List.getElem?_eq_some_iff.1 hj
  exact (List.getElem_inj h).1 (ha.trans hb.symm)
theorem Own.put {M : List Nat} {W w : World} {L : List Blk} (h : Own M W w L) {i : Nat} {x : Blk} (hi : L[i]? = some x) (cs : Array Value) : Own M W (w.setRow x.b cs) (L.set i ⟨x.b, cs, x.ty⟩) := by
  have hx := List.mem_of_getElem? hi
  have hm := map_set_b L i x ⟨x.b, cs, x.ty⟩ hi rfl
  have hsz : (w.setRow x.b cs).heap.size = w.heap.size := size_setRow w x.b cs
  refine ⟨h.os, h.tape, h.output, by rw [hsz]; exact h.size, h.drawn, fun k hk hkm => ?_, fun y hy => ?_, fun y hy => ?_, by rw [hm]; exact h.apart⟩
  · rw [setRow_other w x.b k cs (fun e => by
      rcases h.base x hx with h1 | h1
      · omega
      · exact hkm (e ▸ h1))]
    exact h.kept k hk hkm
  · obtain ⟨j, hj⟩ := List.mem_iff_getElem?.1 hy
    rw [List.getElem?_set] at hj
    split at hj
    · rename_i hij
      split at hj
      · obtain rfl := Option.some.inj hj
        exact setRow_heap w x.b x.cs cs x.ty _ (h.held x hx)
      · cases hj
    · rename_i hij
      have hyL := List.mem_of_getElem? hj
      have hne : y.b ≠ x.b := fun e => hij (by
        have h1 : (L.map Blk.b)[i]? = some x.b := by rw [List.getElem?_map, hi]; rfl
        have h2 : (L.map Blk.b)[j]? = some x.b := by rw [List.getElem?_map, hj, ← e]; rfl
        exact nodup_at h.apart h1 h2)
      rw [setRow_other w x.b y.b cs hne]
      exact h.held y hyL
  · have : y.b ∈ (L.set i ⟨x.b, cs, x.ty⟩).map Blk.b := List.mem_map.2 ⟨y, hy, rfl⟩
    rw [hm] at this
    obtain ⟨z, hz, he⟩ := List.mem_map.1 this
    rw [← he]; exact h.base z hz

/-! ### The frame as a function -/
def upd (f : Nat → Value) : Option Tmp → Value → Nat → Value
  | some d, v => fun t => bif Nat.beq t d then v else f t
  | none, _ => f
def Fr (n : Nat) (f : Nat → Value) : Act := { tmps := Array.ofFn (n := n) fun i => f i.val, defers := [] }
def ev (n : Nat) (f : Nat → Value) : Operand → Value
  | .tmp t => bif Nat.blt t n then f t else undef
  | .const v => v
  | .global g => .pointer (some ⟨g, 0, none⟩)
  | .func g => .func (.func g) #[] #[]
theorem blt_t {t n : Nat} (h : t < n) : Nat.blt t n = true := Nat.ble_eq_true_of_le h
theorem blt_f {t n : Nat} (h : ¬ t < n) : Nat.blt t n = false := Bool.eq_false_iff.2 fun e => h (Nat.le_of_ble_eq_true e)
theorem getD_ofFn (n : Nat) (f : Nat → Value) (t : Nat) : (Array.ofFn (n := n) fun i => f i.val).getD t undef = bif Nat.blt t n then f t else undef := by
  rw [Array.getD_eq_getD_getElem?, Array.getElem?_ofFn]
  by_cases h : t < n
  · rw [dif_pos h, blt_t h]; rfl
  · rw [dif_neg h, blt_f h]; rfl
theorem Fr_eval (n : Nat) (f : Nat → Value) : (Fr n f).eval = ev n f := by
  funext x
  cases x with
  | tmp t => exact getD_ofFn n f t
  | _ => rfl
theorem Fr_put (n : Nat) (f : Nat → Value) (d : Option Tmp) (v : Value) : (Fr n f).put d v = Fr n (upd f d v) := by
  cases d with
  | none => rfl
  | some d =>
    show ({ tmps := (Array.ofFn (n := n) fun i => f i.val).setIfInBounds d v, defers := [] } : Act) = { tmps := Array.ofFn (n := n) fun i => upd f (some d) v i.val, defers := [] }
    have key : (Array.ofFn (n := n) fun i => f i.val).setIfInBounds d v = Array.ofFn (n := n) fun i => upd f (some d) v i.val := by
     apply Array.ext_getElem?
     intro i
     rw [Array.getElem?_setIfInBounds, Array.getElem?_ofFn, Array.getElem?_ofFn]
     by_cases h : i < n
     · rw [dif_pos h, dif_pos h]
       by_cases hd : d = i
       · subst hd
         simp [upd, h]
       · have : Nat.beq i d = false := by rw [Bool.eq_false_iff]; intro e; exact hd (Nat.eq_of_beq_eq_true e).symm
         rw [if_neg hd]; simp [upd, this]
     · rw [dif_neg h, dif_neg h]
       by_cases hd : d = i
       · subst hd; simp [h]
       · rw [if_neg hd]
    rw [key]
def asB : Value → Option Bool
  | .bool b => some b
  | _ => none
def yl (ops : Array Oper) (n : Nat) (f : Nat → Value) (j : Nat) : Option Bool :=
  match (ops[j]?).bind (·.dst) with
  | some d => bif Nat.blt d n then asB (f d) else none
  | none => none
theorem Fr_yielded (ops : Array Oper) (n : Nat) (f : Nat → Value) : yielded ops (Fr n f).tmps = yl ops n f := by
  funext j
  unfold yielded yl
  cases h : (ops[j]?).bind (·.dst) with
  | none => rfl
  | some d =>
    show (match (Array.ofFn (n := n) fun i => f i.val)[d]? with | some (.bool b) => some b | _ => none) = _
    rw [Array.getElem?_ofFn]
    by_cases hd : d < n
    · rw [dif_pos hd]
      dsimp only
      rw [blt_t hd]
      cases f d <;> rfl
    · rw [dif_neg hd]
      dsimp only
      rw [blt_f hd]; rfl
def want (ops : Array Oper) (n : Nat) (f : Nat → Value) (o : Oper) : Bool := Region.wanted o (yl ops n f)

/-! ### A run of operations in order -/
section
variable {M : List Nat} {P : Program} {n : Nat} {ops : Array Oper} {W : World} {Q : Exit → Act → World → Prop} {rest : List Oper} {o : Oper} {L : List Blk} {f : Nat → Value}

structure Seg (M : List Nat) (P : Program) (n : Nat) (ops : Array Oper) (W : World) (Q : Exit → Act → World → Prop) (rest : List Oper) (L : List Blk) (f : Nat → Value) : Prop where
  go : ∀ w, Own M W w L → wpList P ops Q rest (Fr n f) w
structure Fin (M : List Nat) (n : Nat) (W : World) (Q : Exit → Act → World → Prop) (e : Exit) (L : List Blk) (f : Nat → Value) : Prop where
  go : ∀ w, Own M W w L → Q e (Fr n f) w
structure Ok (M : List Nat) (P : Program) (n : Nat) (W : World) (Q : Exit → Act → World → Prop) (c : Code) (L : List Blk) (f : Nat → Value) : Prop where
  go : ∀ w, Own M W w L → c.wp P Q (Fr n f) w
/-- The same for a region that draws its order: the operations in the order of the text, in every world in which the blocks are held. -/
structure QSeg (M : List Nat) (P : Program) (n : Nat) (ops : Array Oper) (W : World) (Qe : List Blk → (Nat → Value) → Prop) (rest : List Oper) (L : List Blk) (f : Nat → Value) : Prop where
  go : wpQuiet P ops (fun w => Own M W w L) (fun a => ∃ f', a = Fr n f' ∧ Qe L f') rest (Fr n f)

theorem want_eq (ops : Array Oper) (n : Nat) (f : Nat → Value) (o : Oper) : Region.wanted o (yielded ops (Fr n f).tmps) = want ops n f o := by rw [Fr_yielded]; rfl
theorem s_nil (h : Fin M n W Q .normal L f) : Seg M P n ops W Q [] L f := ⟨h.go⟩
theorem s_skip (hw : want ops n f o = false) (h : Seg M P n ops W Q rest L (upd f o.dst undef)) : Seg M P n ops W Q (o :: rest) L f := ⟨fun w hO => by
  have := h.go w hO
  unfold wpList
  rw [want_eq, hw, if_neg Bool.false_ne_true, Fr_put]
  exact this⟩
theorem s_step (hw : want ops n f o = true) (h : ∀ w, Own M W w L → o.wp P (Fr n f) w (wpList P ops Q rest) Q) : Seg M P n ops W Q (o :: rest) L f := ⟨fun w hO => by
  unfold wpList
  rw [want_eq, hw, if_pos rfl]
  exact .inl (h w hO)⟩
theorem wp_val {K : Act → World → Prop} {w w' : World} (v : Value) (hr : (execOp (ev n f) o).run P w = .ok (.value v) w') (h : K (Fr n (upd f o.dst v)) w') : o.wp P (Fr n f) w K Q := by
  unfold Oper.wp
  rw [Fr_eval, hr]
  show K ((Fr n f).put o.dst v) w'
  rw [Fr_put]; exact h
theorem s_val (v : Value) (hw : want ops n f o = true) (hr : ∀ w, (execOp (ev n f) o).run P w = .ok (.value v) w) (h : Seg M P n ops W Q rest L (upd f o.dst v)) : Seg M P n ops W Q (o :: rest) L f :=
  s_step hw fun w hO => wp_val v (hr w) (h.go w hO)
/-- An operation whose value hangs on the blocks that are held. -/
theorem s_read (v : Value) (hw : want ops n f o = true) (hr : ∀ w, Own M W w L → (execOp (ev n f) o).run P w = .ok (.value v) w) (h : Seg M P n ops W Q rest L (upd f o.dst v)) : Seg M P n ops W Q (o :: rest) L f :=
  s_step hw fun w hO => wp_val v (hr w hO) (h.go w hO)
theorem wp_enter {K : Act → World → Prop} {w : World} {k : FuncId} {args : Array Value} (he : (execOp (ev n f) o).run P w = .ok (.enter k args) w)
    (hc : Calls P k args w fun e w' => ∃ v, e = .returned v ∧ K (Fr n (upd f o.dst v)) w') : o.wp P (Fr n f) w K Q := by
  unfold Oper.wp
  rw [Fr_eval, he]
  show Calls P k args w _
  refine hc.mono fun e w' ⟨v, e1, e2⟩ => ?_
  subst e1
  show K ((Fr n f).put o.dst v) w'
  rw [Fr_put]; exact e2
theorem s_call {k : FuncId} {args : Array Value} (v : Value) (hw : want ops n f o = true) (he : ∀ w, (execOp (ev n f) o).run P w = .ok (.enter k args) w)
    (hc : ∀ w, Own M W w L → Calls P k args w fun e w' => e = .returned v ∧ Below w.heap.size w w') (h : Seg M P n ops W Q rest L (upd f o.dst v)) : Seg M P n ops W Q (o :: rest) L f :=
  s_step hw fun w hO => wp_enter (he w) ((hc w hO).mono fun e w' ⟨e1, e2⟩ => ⟨v, e1, h.go w' (hO.on e2)⟩)
/-- A call that hands back something in new memory: what is known of it. -/
theorem s_callx {k : FuncId} {args : Array Value} (R : Value → List Blk → Prop) (hw : want ops n f o = true) (he : ∀ w, (execOp (ev n f) o).run P w = .ok (.enter k args) w)
    (hc : ∀ w, Own M W w L → Calls P k args w fun e w' => ∃ v L', e = .returned v ∧ R v L' ∧ Own M W w' L') (h : ∀ v L', R v L' → Seg M P n ops W Q rest L' (upd f o.dst v)) : Seg M P n ops W Q (o :: rest) L f :=
  s_step hw fun w hO => wp_enter (he w) ((hc w hO).mono fun e w' ⟨v, L', e1, e2, e3⟩ => ⟨v, e1, (h v L' e2).go w' e3⟩)

def aggB : TypeDesc → Bool
  | .struct _ | .array _ _ => true
  | _ => false
/-! What a variable reads as, and what a store makes of it. -/
def readAt (P : Program) (ty : TypeId) (cs : Array Value) (off : Nat) : Option Value :=
  match P.underlying ty, P.info? ty with
  | some (.struct _), some i => if off + i.size ≤ cs.size then some (.agg (cs.toList.drop off |>.take i.size).toArray) else none
  | some (.array _ _), some i => if off + i.size ≤ cs.size then some (.agg (cs.toList.drop off |>.take i.size).toArray) else none
  | some _, some _ => cs[off]?
  | _, _ => none
theorem add_off (b o j : Nat) : (⟨b, o, none⟩ : Addr).add j = ⟨b, o + j, none⟩ := by unfold Addr.add; split <;> simp_all
theorem run_agg_at {ty : TypeId} {d : TypeDesc} {i : TypeInfo} {cs : Array Value} {w : World} {b off : Nat} {T : TypeId} (hu : P.underlying ty = some d) (hd : aggB d = true) (hi : P.info? ty = some i)
    (hg : w.heap[b]? = some (.cells cs T)) (hle : off + i.size ≤ cs.size) : (loadVar ty ⟨b, off, none⟩).run P w = .ok (.agg (cs.toList.drop off |>.take i.size).toArray) w := by
  have hlen : ((cs.toList.drop off).take i.size).length = i.size := by simp; omega
  have hl := run_loadCells_list (P := P) w ⟨b, off, none⟩ ((cs.toList.drop off).take i.size) (fun j v hv => by
    rw [add_off, cell_of_row w b (off + j) cs T _ hg]
    have hj : j < i.size := by have := (List.getElem?_eq_some_iff.1 hv).1; rw [hlen] at this; exact this
    rw [List.getElem?_take, if_pos hj, List.getElem?_drop] at hv
    simpa using hv)
  rw [hlen] at hl
  have hagg : (isAgg ty).run P w = .ok true w := by
    unfold isAgg
    rw [Sem.run_bind, run_underlying hu w]
    cases d <;> simp_all [aggB]
  simp [loadVar, Sem.run_bind, hagg, sizeOf, typeInfo, hi, hl]
theorem run_readAt {ty : TypeId} {cs : Array Value} {off : Nat} {v : Value} (h : readAt P ty cs off = some v) {w : World} {b : Nat} {T : TypeId} (hg : w.heap[b]? = some (.cells cs T)) :
    (loadVar ty ⟨b, off, none⟩).run P w = .ok v w := by
  unfold readAt at h
  cases hu : P.underlying ty with
  | none => rw [hu] at h; simp at h
  | some d =>
    cases hi : P.info? ty with
    | none => rw [hu, hi] at h; cases d <;> simp at h
    | some i =>
      rw [hu, hi] at h
      by_cases hd : aggB d = true
      · have h2 : (if off + i.size ≤ cs.size then some (Value.agg (cs.toList.drop off |>.take i.size).toArray) else none) = some v := by
          cases d <;> first | exact h | (simp [aggB] at hd)
        split at h2
        · rename_i hle
          obtain rfl := Option.some.inj h2
          exact run_agg_at hu hd hi hg hle
        · cases h2
      · have h2 : cs[off]? = some v := by cases d <;> first | exact h | (simp [aggB] at hd)
        have hagg : (isAgg ty).run P w = .ok false w := by
          unfold isAgg
          rw [Sem.run_bind, run_underlying hu w]
          cases d <;> simp_all [aggB]
        have hc : w.cell? ⟨b, off, none⟩ = some v := (cell_of_row w b off cs T _ hg).trans h2
        simp [loadVar, Sem.run_bind, hagg, run_load, hc, Result.andThen]
theorem run_load_op {ty : TypeId} {x : Operand} {a : Addr} {v : Value} {w : World} (ho : o.op = .load ty x) (hx : ev n f x = .pointer (some a)) (hl : (loadVar ty a).run P w = .ok v w) : (execOp (ev n f) o).run P w = .ok (.value v) w := by
  unfold execOp
  simp only [ho, hx, Instr.loadAt, Instr.sureAddr, Sem.run_bind, Sem.run_pure, Result.andThen_ok, hl]
/-- A load out of block number i of the list. -/
theorem s_load (i : Nat) (x : Blk) {ty : TypeId} {p : Operand} {off : Nat} (v : Value) (hw : want ops n f o = true) (ho : o.op = .load ty p) (hL : L[i]? = some x) (hp : ev n f p = .pointer (some ⟨x.b, off, none⟩)) (hv : readAt P ty x.cs off = some v)
    (h : Seg M P n ops W Q rest L (upd f o.dst v)) : Seg M P n ops W Q (o :: rest) L f :=
  s_read v hw (fun _ hO => run_load_op ho hp (run_readAt hv (hO.get hL))) h
/-- A load of a cell that was there before the call. -/
theorem s_old {ty : TypeId} {p : Operand} {a : Addr} (v : Value) (hw : want ops n f o = true) (ho : o.op = .load ty p) (hp : ev n f p = .pointer (some a)) (hv : ∀ w, Own M W w L → (loadVar ty a).run P w = .ok v w)
    (h : Seg M P n ops W Q rest L (upd f o.dst v)) : Seg M P n ops W Q (o :: rest) L f :=
  s_read v hw (fun w hO => run_load_op ho hp (hv w hO)) h
/-- New variables. -/
theorem s_alloc {T : TypeId} {i : TypeInfo} (z : Value) (hw : want ops n f o = true) (ho : o.op = .alloc T) (hi : P.info? T = some i) (hz : i.zero = some z)
    (h : ∀ b, Seg M P n ops W Q rest (⟨b, z.cells, T⟩ :: L) (upd f o.dst (.pointer (some ⟨b, 0, none⟩)))) : Seg M P n ops W Q (o :: rest) L f :=
  s_step hw fun w hO => by
    refine wp_val (.pointer (some ⟨w.heap.size, 0, none⟩)) (w' := w.alloc (.cells z.cells T)) ?_ ((h w.heap.size).go _ (hO.alloc _ _))
    unfold execOp
    simp [ho, Instr.alloc, zeroValue, typeInfo, hi, hz, newVar, newRow, Sem.run_bind]
theorem s_box {T : TypeId} {x : Operand} (v : Value) (hw : want ops n f o = true) (ho : o.op = .box T x) (hx : ev n f x = v)
    (h : ∀ b, Seg M P n ops W Q rest (⟨b, v.cells, T⟩ :: L) (upd f o.dst (.pointer (some ⟨b, 0, none⟩)))) : Seg M P n ops W Q (o :: rest) L f :=
  s_step hw fun w hO => by
    refine wp_val (.pointer (some ⟨w.heap.size, 0, none⟩)) (w' := w.alloc (.cells v.cells T)) ?_ ((h w.heap.size).go _ (hO.alloc _ _))
    unfold execOp
    simp [ho, hx, Instr.box, newVar, newRow, Sem.run_bind]
def storeIn (cs : Array Value) (off : Nat) (vs : Array Value) : Array Value := (cs.toList.take off ++ vs.toList ++ cs.toList.drop (off + vs.size)).toArray
/-- A store into block number i of the list. -/
theorem s_store (i : Nat) (x : Blk) {T : TypeId} {t : TypeInfo} {p q : Operand} {off : Nat} (v : Value) (hw : want ops n f o = true) (ho : o.op = .store T p q) (hd : o.dst = none) (hL : L[i]? = some x)
    (hp : ev n f p = .pointer (some ⟨x.b, off, none⟩)) (hq : ev n f q = v) (hi : P.info? T = some t) (hs : v.cells.size = t.size) (hle : off + t.size ≤ x.cs.size) (h1 : ∀ u ∈ v.cells.toList, u.oneCell' = true)
    (h : Seg M P n ops W Q rest (L.set i ⟨x.b, storeIn x.cs off v.cells, x.ty⟩) f) : Seg M P n ops W Q (o :: rest) L f :=
  s_step hw fun w hO => by
    have hst := run_storeCells_at (P := P) x.b off x.ty v.cells.toList 0 x.cs w (hO.get hL) (by simp; omega) h1
    unfold Oper.wp
    rw [Fr_eval]
    have hr : (execOp (ev n f) o).run P w = .ok .skip (w.setRow x.b (storeIn x.cs off v.cells)) := by
      unfold execOp
      simp only [ho, hp, hq, Instr.storeAt, Instr.sureAddr, Sem.run_bind, Sem.run_pure, Result.andThen_ok, storeVar, sizeOf, typeInfo, hi, hs, run_program]
      simp only [ne_eq, not_true_eq_false, if_false]
      have : (storeCells ⟨x.b, off, none⟩ v.cells.toList).run P w = .ok () (w.setRow x.b (storeIn x.cs off v.cells)) := by
        rw [hst]; unfold storeIn; simp
      simp [this]
    rw [hr]
    show wpList P ops Q rest ((Fr n f).put o.dst undef) _
    rw [Fr_put, hd]
    exact h.go _ (hO.put hL _)

/-! ### A region that draws its order, of operations that write nothing -/
theorem q_nil {Qe : List Blk → (Nat → Value) → Prop} (h : Qe L f) : QSeg M P n ops W Qe [] L f := ⟨⟨f, rfl, h⟩⟩
theorem q_skip {Qe : List Blk → (Nat → Value) → Prop} (hw : want ops n f o = false) (h : QSeg M P n ops W Qe rest L (upd f o.dst undef)) : QSeg M P n ops W Qe (o :: rest) L f := by
  refine ⟨?_⟩
  replace h := h.go
  refine BigFrame.wpQuiet_skip (by rw [want_eq]; exact hw) ?_
  rw [Fr_put]; exact h
theorem q_read {Qe : List Blk → (Nat → Value) → Prop} (v : Value) (hw : want ops n f o = true) (hr : ∀ w, Own M W w L → (execOp (ev n f) o).run P w = .ok (.value v) w) (h : QSeg M P n ops W Qe rest L (upd f o.dst v)) : QSeg M P n ops W Qe (o :: rest) L f := by
  refine ⟨?_⟩
  replace h := h.go
  refine BigFrame.wpQuiet_want (by rw [want_eq]; exact hw) fun K hK => ⟨v, fun w hO => ?_, hK _ ?_⟩
  · unfold Oper.quietAt
    rw [Fr_eval, hr w hO]
    exact ⟨rfl, rfl⟩
  · rw [Fr_put]; exact h
theorem q_val {Qe : List Blk → (Nat → Value) → Prop} (v : Value) (hw : want ops n f o = true) (hr : ∀ w, (execOp (ev n f) o).run P w = .ok (.value v) w) (h : QSeg M P n ops W Qe rest L (upd f o.dst v)) : QSeg M P n ops W Qe (o :: rest) L f :=
  q_read v hw (fun w _ => hr w) h
theorem q_call {Qe : List Blk → (Nat → Value) → Prop} {k : FuncId} {args : Array Value} (v : Value) (hw : want ops n f o = true) (he : ∀ w, (execOp (ev n f) o).run P w = .ok (.enter k args) w)
    (hc : ∀ w, Own M W w L → Calls P k args w fun e w' => e = .returned v ∧ Below w.heap.size w w') (h : QSeg M P n ops W Qe rest L (upd f o.dst v)) : QSeg M P n ops W Qe (o :: rest) L f := by
  refine ⟨?_⟩
  replace h := h.go
  refine BigFrame.wpQuiet_want (by rw [want_eq]; exact hw) fun K hK => ⟨v, fun w hO => ?_, hK _ ?_⟩
  · unfold Oper.quietAt
    rw [Fr_eval, he w]
    exact ⟨rfl, (hc w hO).mono fun e w' ⟨e1, e2⟩ => ⟨e1, hO.on e2⟩⟩
  · rw [Fr_put]; exact h
theorem q_load {Qe : List Blk → (Nat → Value) → Prop} (i : Nat) (x : Blk) {ty : TypeId} {p : Operand} {off : Nat} (v : Value) (hw : want ops n f o = true) (ho : o.op = .load ty p) (hL : L[i]? = some x) (hp : ev n f p = .pointer (some ⟨x.b, off, none⟩)) (hv : readAt P ty x.cs off = some v)
    (h : QSeg M P n ops W Qe rest L (upd f o.dst v)) : QSeg M P n ops W Qe (o :: rest) L f :=
  q_read v hw (fun _ hO => run_load_op ho hp (run_readAt hv (hO.get hL))) h
theorem q_old {Qe : List Blk → (Nat → Value) → Prop} {ty : TypeId} {p : Operand} {a : Addr} (v : Value) (hw : want ops n f o = true) (ho : o.op = .load ty p) (hp : ev n f p = .pointer (some a)) (hv : ∀ w, Own M W w L → (loadVar ty a).run P w = .ok v w)
    (h : QSeg M P n ops W Qe rest L (upd f o.dst v)) : QSeg M P n ops W Qe (o :: rest) L f :=
  q_read v hw (fun w hO => run_load_op ho hp (hv w hO)) h

/-! ### Control -/
theorem ok_seq {x y : Code} (h : Ok M P n W (Exit.then (Code.wp P y Q) Q) x L f) : Ok M P n W Q (.seq x y) L f := ⟨fun w hO => wp_seq (h.go w hO)⟩
theorem ok_region {id : Nat} {l : List Oper} (h : Seg M P n l.toArray W Q l L f) : Ok M P n W Q (.region id l.toArray false) L f := ⟨fun w hO => wp_region_lit (h.go w hO)⟩
theorem ok_draw {id : Nat} {l : List Oper} (hm : P.follows .mixedOrders = true) (hB : Region.lexB .any l.toArray = true) (h : QSeg M P n l.toArray W (Fin M n W Q .normal) l L f) : Ok M P n W Q (.region id l.toArray true) L f := ⟨fun w hO =>
  wp_region_quiet (C := fun w => Own M W w L) hm hB hO.drew (by
    have e : l.toArray.toList = l := by simp
    rw [e]
    have key : ∀ (r : List Oper) (a : Act), wpQuiet P l.toArray (fun w => Own M W w L) (fun a => ∃ f', a = Fr n f' ∧ Fin M n W Q .normal L f') r a → wpQuiet P l.toArray (fun w => Own M W w L) (fun a' => ∀ w', Own M W w' L → Q .normal a' w') r a := by
      intro r
      induction r with
      | nil => rintro a ⟨f', rfl, h⟩; exact h.go
      | cons o r ih =>
        intro a h
        unfold wpQuiet at h ⊢
        split
        · rename_i hw; rw [if_pos hw] at h; exact Oper.quiet_mono ih h
        · rename_i hw; rw [if_neg hw] at h; exact ih _ h
    exact key l _ h.go)⟩
theorem ok_true {c : Operand} {x y : Code} (hc : ev n f c = .bool true) (h : Ok M P n W Q x L f) : Ok M P n W Q (.cond c x y) L f := ⟨fun w hO => wp_cond_true (by rw [Fr_eval]; exact hc) (h.go w hO)⟩
theorem ok_false {c : Operand} {x y : Code} (hc : ev n f c = .bool false) (h : Ok M P n W Q y L f) : Ok M P n W Q (.cond c x y) L f := ⟨fun w hO => wp_cond_false (by rw [Fr_eval]; exact hc) (h.go w hO)⟩
theorem ok_block {id : Nat} {c : Code} (h : Ok M P n W (Exit.inBlock id Q) c L f) : Ok M P n W Q (.block id c) L f := ⟨fun w hO => wp_block (h.go w hO)⟩
theorem ok_exit {id : Nat} (h : Fin M n W Q (.exit id) L f) : Ok M P n W Q (.exit id) L f := ⟨fun w hO => wp_exit (h.go w hO)⟩
theorem ok_skip (h : Fin M n W Q .normal L f) : Ok M P n W Q .skip L f := ⟨fun w hO => wp_skip (h.go w hO)⟩
theorem ok_ret (h : Fin M n W Q .ret L f) : Ok M P n W Q .ret L f := ⟨fun w hO => wp_ret (h.go w hO)⟩
theorem fin_seq {y : Code} (h : Ok M P n W Q y L f) : Fin M n W (Exit.then (Code.wp P y Q) Q) .normal L f := ⟨h.go⟩
theorem fin_seq_ret {K : Act → World → Prop} (h : Fin M n W Q .ret L f) : Fin M n W (Exit.then K Q) .ret L f := ⟨h.go⟩
theorem fin_seq_exit {K : Act → World → Prop} {id : Nat} (h : Fin M n W Q (.exit id) L f) : Fin M n W (Exit.then K Q) (.exit id) L f := ⟨h.go⟩
theorem fin_block {id : Nat} (h : Fin M n W Q .normal L f) : Fin M n W (Exit.inBlock id Q) .normal L f := ⟨h.go⟩
theorem fin_block_ret {id : Nat} (h : Fin M n W Q .ret L f) : Fin M n W (Exit.inBlock id Q) .ret L f := ⟨h.go⟩
theorem fin_block_exit {id : Nat} (h : Fin M n W Q .normal L f) : Fin M n W (Exit.inBlock id Q) (.exit id) L f := ⟨fun w hO => by
  show if id = id then _ else _
  rw [if_pos rfl]; exact h.go w hO⟩
theorem fin_block_other {id id' : Nat} (hne : id' ≠ id) (h : Fin M n W Q (.exit id') L f) : Fin M n W (Exit.inBlock id Q) (.exit id') L f := ⟨fun w hO => by
  show if id' = id then _ else _
  rw [if_neg hne]; exact h.go w hO⟩
/-- A loop: what holds at each round's head, of the blocks, the frame and a number that each round lowers. -/
def Round (M : List Nat) (n : Nat) (W : World) (Inv : List Blk → (Nat → Value) → Nat → Prop) (m : Nat) (Q : Exit → Act → World → Prop) : Exit → Act → World → Prop :=
  Exit.then (fun a w => ∃ L f m', m' < m ∧ Inv L f m' ∧ Own M W w L ∧ a = Fr n f) Q
theorem ok_loop {c : Code} (Inv : List Blk → (Nat → Value) → Nat → Prop) (m : Nat) (h0 : Inv L f m) (h : ∀ L f m, Inv L f m → Ok M P n W (Round M n W Inv m Q) c L f) : Ok M P n W Q (.loop c) L f := ⟨fun w hO => by
  intro b k cs
  have run : ∀ (m : Nat) (L : List Blk) (f : Nat → Value) (w : World), Inv L f m → Own M W w L → ∃ e a' w', Q e a' w' ∧ Arrives P (lone (b.at (Fr n f) (.code c :: .inLoop c :: k)) cs w) b k cs e a' w' := by
    intro m
    induction m using Nat.strongRecOn with
    | _ m ih =>
      intro L f w hI hO
      obtain ⟨e, a₁, w₁, hq, harr⟩ := (h L f m hI).go w hO b (.inLoop c :: k) cs
      cases e with
      | normal =>
        obtain ⟨L', f', m', hlt, hI', hO', rfl⟩ := hq
        obtain ⟨e₂, a₂, w₂, hq₂, harr₂⟩ := ih m' hlt L' f' w₁ hI' hO'
        exact ⟨e₂, a₂, w₂, hq₂, .of_steps (Steps.trans harr (.one step_inLoop)) harr₂⟩
      | exit id => exact ⟨_, a₁, w₁, hq, .pass (x := .inLoop c) rfl (fun _ _ => .inl (by simp)) harr⟩
      | goto l => exact ⟨_, a₁, w₁, hq, .pass (x := .inLoop c) rfl (fun _ _ => .inl (by simp)) harr⟩
      | ret => exact ⟨_, a₁, w₁, hq, .pass (x := .inLoop c) rfl (fun _ _ => .inl (by simp)) harr⟩
      | panic ch => exact ⟨_, a₁, w₁, hq, .pass (x := .inLoop c) rfl (fun _ _ => .inl (by simp)) harr⟩
      | outgrown => exact ⟨_, a₁, w₁, hq, .pass (x := .inLoop c) rfl (fun _ _ => .inl (by simp)) harr⟩
  obtain ⟨e, a', w', hq, harr⟩ := run m L f w h0 hO
  exact ⟨e, a', w', hq, .of_steps (.one step_loop) harr⟩⟩
theorem fin_round {Inv : List Blk → (Nat → Value) → Nat → Prop} {m m' : Nat} (hlt : m' < m) (hI : Inv L f m') : Fin M n W (Round M n W Inv m Q) .normal L f := ⟨fun w hO => ⟨L, f, m', hlt, hI, hO, rfl⟩⟩
theorem fin_round_ret {Inv : List Blk → (Nat → Value) → Nat → Prop} {m : Nat} (h : Fin M n W Q .ret L f) : Fin M n W (Round M n W Inv m Q) .ret L f := ⟨h.go⟩
theorem fin_round_exit {Inv : List Blk → (Nat → Value) → Nat → Prop} {m id : Nat} (h : Fin M n W Q (.exit id) L f) : Fin M n W (Round M n W Inv m Q) (.exit id) L f := ⟨h.go⟩
/-- A slot that already holds the value. -/
theorem upd_self {f : Nat → Value} {d : Nat} {v : Value} (h : f d = v) : f = upd f (some d) v := by
  funext t
  show f t = bif Nat.beq t d then v else f t
  by_cases e : t = d
  · subst e
    have : Nat.beq t t = true := Nat.beq_refl t
    rw [this]; exact h
  · have : Nat.beq t d = false := by rw [Bool.eq_false_iff]; intro h2; exact e (Nat.eq_of_beq_eq_true h2)
    rw [this]; rfl

/-! ### In and out -/
theorem calls_okM (M : List Nat) {k : FuncId} {fn : Func} {c : Code} {args : Array Value} {R : Ending → World → Prop} (hf : P.funcs[k]? = some fn) (hb : fn.body = some c) (hn : fn.ntmps = n) (hle : Nat.ble args.size n = true)
    (h : Ok M P n W (bodyPost P fn R) c [] (fun t => args.getD t undef)) : Calls P k args W R := by
  refine calls_of_wp hf hb ?_
  have hle' : args.size ≤ n := Nat.le_of_ble_eq_true hle
  have e : ({ tmps := args ++ Array.replicate (fn.ntmps - args.size) undef, defers := [] } : Act) = Fr n (fun t => args.getD t undef) := by
    unfold Fr
    congr 1
    rw [hn]
    apply Array.ext_getElem?
    intro i
    rw [Array.getElem?_ofFn, Array.getElem?_append, Array.getElem?_replicate]
    by_cases hi : i < args.size
    · rw [if_pos hi, dif_pos (by omega), Array.getElem?_eq_getElem hi]
      simp [Array.getD, hi]
    · rw [if_neg hi]
      by_cases hin : i < n
      · rw [if_pos (by omega), dif_pos hin]
        simp [Array.getD, hi]
      · rw [if_neg (by omega), dif_neg hin]
  rw [e]
  exact h.go W (Own.start _ W)
theorem calls_ok {k : FuncId} {fn : Func} {c : Code} {args : Array Value} {R : Ending → World → Prop} (hf : P.funcs[k]? = some fn) (hb : fn.body = some c) (hn : fn.ntmps = n) (hle : Nat.ble args.size n = true)
    (h : Ok [] P n W (bodyPost P fn R) c [] (fun t => args.getD t undef)) : Calls P k args W R := calls_okM [] hf hb hn hle h
theorem fin_ret {fn : Func} {R : Ending → World → Prop} {t : Tmp} (v : Value) (hres : fn.results = #[.tmp t]) (hv : ev n f (.tmp t) = v) (hR : ∀ w, Own M W w L → R (.returned v) w) : Fin M n W (bodyPost P fn R) .ret L f := ⟨fun w hO => by
  refine bodyPost_ret (v := v) ?_ rfl (hR w hO)
  rw [results_tmp hres]
  have : (Fr n f).tmps.getD t undef = v := (getD_ofFn n f t).trans hv
  rw [this]⟩
def resAt (P : Program) (n : Nat) (f : Nat → Value) (L : List Blk) : ResultVar → Nat → Option Value
  | .tmp t, _ => some (ev n f (.tmp t))
  | .cell p ty, i =>
    match L[i]?, ev n f (.tmp p) with
    | some x, .pointer (some ⟨b, off, none⟩) => bif Nat.beq b x.b then readAt P ty x.cs off else none
    | _, _ => none
theorem fin_cell {fn : Func} {R : Ending → World → Prop} {p : Tmp} {ty : TypeId} (i : Nat) (x : Blk) {off : Nat} (v : Value) (hres : fn.results = #[.cell p ty]) (hL : L[i]? = some x) (hp : ev n f (.tmp p) = .pointer (some ⟨x.b, off, none⟩)) (hv : readAt P ty x.cs off = some v)
    (hR : ∀ w, Own M W w L → R (.returned v) w) : Fin M n W (bodyPost P fn R) .ret L f := ⟨fun w hO => by
  refine bodyPost_ret (v := v) ?_ rfl (hR w hO)
  have e : (Fr n f).tmps.getD p undef = .pointer (some ⟨x.b, off, none⟩) := (getD_ofFn n f p).trans hp
  have hr := run_readAt hv (hO.get hL)
  have e' : (Fr n f).tmps[p]?.getD undef = .pointer (some ⟨x.b, off, none⟩) := by simpa using e
  simp [results, hres, e', asAddr, hr]⟩
end
/-! ### Handy forms -/
section
variable {M : List Nat} {P : Program} {n : Nat} {ops : Array Oper} {W : World} {Q : Exit → Act → World → Prop} {rest : List Oper} {o : Oper} {L : List Blk} {f : Nat → Value} {Qe : List Blk → (Nat → Value) → Prop}
theorem s_dec {p : Prop} [Decidable p] (t : Bool) (hw : want ops n f o = true) (hr : ∀ w, (execOp (ev n f) o).run P w = .ok (.value (.bool (decide p))) w) (hp : decide p = t) (h : Seg M P n ops W Q rest L (upd f o.dst (.bool t))) : Seg M P n ops W Q (o :: rest) L f := s_val (.bool t) hw (fun w => hp ▸ hr w) h
theorem q_dec {p : Prop} [Decidable p] (t : Bool) (hw : want ops n f o = true) (hr : ∀ w, (execOp (ev n f) o).run P w = .ok (.value (.bool (decide p))) w) (hp : decide p = t) (h : QSeg M P n ops W Qe rest L (upd f o.dst (.bool t))) : QSeg M P n ops W Qe (o :: rest) L f := q_val (.bool t) hw (fun w => hp ▸ hr w) h
theorem s_ndec {p : Prop} [Decidable p] (t : Bool) (hw : want ops n f o = true) (hr : ∀ w, (execOp (ev n f) o).run P w = .ok (.value (.bool (!decide p))) w) (hp : decide p = t) (h : Seg M P n ops W Q rest L (upd f o.dst (.bool (!t)))) : Seg M P n ops W Q (o :: rest) L f := s_val (.bool (!t)) hw (fun w => hp ▸ hr w) h
theorem s_sum {k : IntKind} (z : Int) (hw : want ops n f o = true) (hr : ∀ w, (execOp (ev n f) o).run P w = .ok (.value (.int k (k.wrap z))) w) (hz : k.wrap z = z) (h : Seg M P n ops W Q rest L (upd f o.dst (.int k z))) : Seg M P n ops W Q (o :: rest) L f := s_val (.int k z) hw (fun w => by rw [hr w, hz]) h
theorem q_sum {k : IntKind} (z : Int) (hw : want ops n f o = true) (hr : ∀ w, (execOp (ev n f) o).run P w = .ok (.value (.int k (k.wrap z))) w) (hz : k.wrap z = z) (h : QSeg M P n ops W Qe rest L (upd f o.dst (.int k z))) : QSeg M P n ops W Qe (o :: rest) L f := q_val (.int k z) hw (fun w => by rw [hr w, hz]) h
theorem s_alloc_at {T : TypeId} (z : Value) (hw : want ops n f o = true) (ho : o.op = .alloc T) (hi : (P.info? T).map (·.zero) = some (some z))
    (h : ∀ b, Seg M P n ops W Q rest (⟨b, z.cells, T⟩ :: L) (upd f o.dst (.pointer (some ⟨b, 0, none⟩)))) : Seg M P n ops W Q (o :: rest) L f := by
  cases hq : P.info? T with
  | none => rw [hq] at hi; cases hi
  | some i => rw [hq] at hi; exact s_alloc z hw ho hq (Option.some.inj hi) h
theorem s_store_at (i : Nat) (x : Blk) {T : TypeId} {p q : Operand} {off : Nat} (v : Value) (hw : want ops n f o = true) (ho : o.op = .store T p q) (hd : o.dst = none) (hL : L[i]? = some x)
    (hp : ev n f p = .pointer (some ⟨x.b, off, none⟩)) (hq : ev n f q = v) (hi : ((P.info? T).map fun t => Nat.beq v.cells.size t.size && Nat.ble (off + t.size) x.cs.size) = some true) (h1 : (v.cells.toList.all fun u => u.oneCell') = true)
    (h : Seg M P n ops W Q rest (L.set i ⟨x.b, storeIn x.cs off v.cells, x.ty⟩) f) : Seg M P n ops W Q (o :: rest) L f := by
  cases hz : P.info? T with
  | none => rw [hz] at hi; cases hi
  | some t =>
    rw [hz] at hi
    have e : (Nat.beq v.cells.size t.size && Nat.ble (off + t.size) x.cs.size) = true := Option.some.inj hi
    rw [Bool.and_eq_true] at e
    exact s_store i x v hw ho hd hL hp hq hz (Nat.eq_of_beq_eq_true e.1) (Nat.le_of_ble_eq_true e.2) (List.all_eq_true.1 h1) h
end

end Go.Proofs.Ytglbfknmeojfkaa
end

section
/-
  Ends of functions with three or four results. No condition of its own.
-/
namespace Go.Proofs.Ytglbfknmeojfkaa
open Go.RowKit
set_option linter.unusedVariables false
set_option linter.unusedSimpArgs false

section
variable {M : List Nat} {P : Program} {n : Nat} {W : World} {L : List Blk} {f : Nat → Value}
theorem fin_ret3 {fn : Func} {R : Ending → World → Prop} {t u s : Tmp} (v v' v2 : Value) (hres : fn.results = #[.tmp t, .tmp u, .tmp s]) (hv : ev n f (.tmp t) = v) (hv' : ev n f (.tmp u) = v') (hv2 : ev n f (.tmp s) = v2) (hR : ∀ w, Own M W w L → R (.returned (.tuple #[v, v', v2])) w) : Fin M n W (bodyPost P fn R) .ret L f := ⟨fun w hO => by
  have e1 : (Fr n f).tmps.getD t undef = v := (getD_ofFn n f t).trans hv
  have e2 : (Fr n f).tmps.getD u undef = v' := (getD_ofFn n f u).trans hv'
  have e3 : (Fr n f).tmps.getD s undef = v2 := (getD_ofFn n f s).trans hv2
  have hr : ∀ tm : Array Value, (results fn tm).run P w = .ok (.tuple #[tm.getD t undef, tm.getD u undef, tm.getD s undef]) w := fun tm => by simp [results, hres]
  refine bodyPost_ret (v := .tuple #[v, v', v2]) ?_ rfl (hR w hO)
  rw [hr, e1, e2, e3]⟩
theorem fin_ret4 {fn : Func} {R : Ending → World → Prop} {t u s r : Tmp} (v v' v2 v3 : Value) (hres : fn.results = #[.tmp t, .tmp u, .tmp s, .tmp r]) (hv : ev n f (.tmp t) = v) (hv' : ev n f (.tmp u) = v') (hv2 : ev n f (.tmp s) = v2) (hv3 : ev n f (.tmp r) = v3) (hR : ∀ w, Own M W w L → R (.returned (.tuple #[v, v', v2, v3])) w) : Fin M n W (bodyPost P fn R) .ret L f := ⟨fun w hO => by
  have e1 : (Fr n f).tmps.getD t undef = v := (getD_ofFn n f t).trans hv
  have e2 : (Fr n f).tmps.getD u undef = v' := (getD_ofFn n f u).trans hv'
  have e3 : (Fr n f).tmps.getD s undef = v2 := (getD_ofFn n f s).trans hv2
  have e4 : (Fr n f).tmps.getD r undef = v3 := (getD_ofFn n f r).trans hv3
  have hr : ∀ tm : Array Value, (results fn tm).run P w = .ok (.tuple #[tm.getD t undef, tm.getD u undef, tm.getD s undef, tm.getD r undef]) w := fun tm => by simp [results, hres]
  refine bodyPost_ret (v := .tuple #[v, v', v2, v3]) ?_ rfl (hR w hO)
  rw [hr, e1, e2, e3, e4]⟩
end

end Go.Proofs.Ytglbfknmeojfkaa
end

section
/-
  A region that draws its order, whose operations but the last ones write nothing: the first ones in the order of the text, then the last ones, one behind the other. No condition.
-/
namespace Go.Proofs.Ytglbfknmeojfkaa
open Go.RowKit
set_option linter.unusedVariables false
set_option linter.unusedSimpArgs false

def backB (md : Region.Mode) (l : List Oper) (i : Nat) : Bool :=
  match l[i]? with
  | some o => o.after.all fun e => !(Region.binds md e) || decide (e.on < i)
  | none => false
def waitB (md : Region.Mode) (l : List Oper) (t i : Nat) : Bool :=
  match l[t]? with
  | some o => o.after.any fun e => Region.binds md e && e.on == i
  | none => false
def inB (l : List Oper) (m i : Nat) : Bool :=
  match l[i]? with
  | some o => match o.guard with | some (g, _) => decide (g < m) | none => true
  | none => false
def preB (md : Region.Mode) (l : List Oper) (m : Nat) : Bool :=
  decide (m ≤ l.length) && (List.range l.length).all (fun i => backB md l i) && (List.range m).all (fun i => inB l m i && (decide (l.length ≤ m) || waitB md l m i)) && (List.range l.length).all fun t => decide (t ≤ m) || waitB md l t (t - 1)
section
variable {P : Program} {md : Region.Mode} {l : List Oper} {m : Nat}
structure PreOk (md : Region.Mode) (l : List Oper) (m : Nat) : Prop where
  le : m ≤ l.length
  back : ∀ i o, l[i]? = some o → ∀ e ∈ o.after, Region.binds md e = true → e.on < i
  inn : ∀ i o g b, i < m → l[i]? = some o → o.guard = some (g, b) → g < m
  first : ∀ i o, i < m → l[m]? = some o → ∃ e ∈ o.after, Region.binds md e = true ∧ e.on = i
  chain : ∀ t o, m < t → l[t]? = some o → ∃ e ∈ o.after, Region.binds md e = true ∧ e.on = t - 1
theorem waitB_spec {t i : Nat} {o : Oper} (ho : l[t]? = some o) (h : waitB md l t i = true) : ∃ e ∈ o.after, Region.binds md e = true ∧ e.on = i := by
  unfold waitB at h
  rw [ho] at h
  obtain ⟨e, he, hb⟩ := Array.any_eq_true'.1 h
  simp only [Bool.and_eq_true, beq_iff_eq] at hb
  exact ⟨e, he, hb.1, hb.2⟩
theorem preB_ok (h : preB md l m = true) : PreOk md l m := by
  unfold preB at h
  simp only [Bool.and_eq_true, decide_eq_true_eq, List.all_eq_true, List.mem_range, Bool.or_eq_true] at h
  obtain ⟨⟨⟨h1, h2⟩, h3⟩, h4⟩ := h
  refine ⟨h1, fun i o ho e he hb => ?_, fun i o g b hi ho hg => ?_, fun i o hi ho => ?_, fun t o ht ho => ?_⟩
  · have hi := (List.getElem?_eq_some_iff.1 ho).1
    have := h2 i hi
    unfold backB at this
    rw [ho] at this
    have := Array.all_eq_true_iff_forall_mem.1 this e he
    rw [hb] at this
    simpa using this
  · have := (h3 i hi).1
    unfold inB at this
    rw [ho] at this
    dsimp only at this
    rw [hg] at this
    simpa using this
  · have hm := (List.getElem?_eq_some_iff.1 ho).1
    rcases (h3 i hi).2 with h | h
    · omega
    · exact waitB_spec ho h
  · have hl := (List.getElem?_eq_some_iff.1 ho).1
    rcases h4 t hl with h | h
    · omega
    · exact waitB_spec ho h

/-- What has come up is the first k. -/
def Upto (n k : Nat) (listed : Array Bool) : Prop := listed.size = n ∧ ∀ i, i < n → listed[i]? = some (decide (i < k))
theorem Upto.set {n k : Nat} {listed : Array Bool} (h : Upto n k listed) : Upto n (k + 1) (listed.setIfInBounds k true) := by
  refine ⟨by rw [Array.size_setIfInBounds]; exact h.1, fun i hi => ?_⟩
  rw [Array.getElem?_setIfInBounds]
  by_cases e : k = i
  · subst e
    rw [if_pos rfl, if_pos (by rw [h.1]; exact hi)]
    simp
  · rw [if_neg e, h.2 i hi]
    congr 1
    exact decide_eq_decide.2 (by omega)
theorem at_getD {a : Array Bool} {i : Nat} {b d : Bool} (h : a[i]? = some b) : a.getD i d = b := by rw [Array.getD_eq_getD_getElem?, h]; rfl
theorem ready_upto (hp : PreOk md l m) {k : Nat} {listed : Array Bool} (hk : m ≤ k) (h : Upto l.length k listed) : ∀ i, i ∈ Region.ready md l.toArray listed ↔ (i = k ∧ k < l.length) := by
  intro i
  rw [mem_ready]
  constructor
  · rintro ⟨h1, o, ho, h2⟩
    have ho' : l[i]? = some o := by simpa using ho
    have hi := (List.getElem?_eq_some_iff.1 ho').1
    have hki : ¬ i < k := fun hlt => by
      rw [at_getD (h.2 i hi)] at h1
      simp [hlt] at h1
    refine ⟨?_, by omega⟩
    rcases Nat.lt_or_ge k i with hlt | hge
    · obtain ⟨e, he, hb, hon⟩ := hp.chain i o (by omega) ho'
      have := h2 e he hb
      rw [hon, at_getD (h.2 (i - 1) (by omega))] at this
      simp at this
      omega
    · omega
  · rintro ⟨rfl, hlt⟩
    refine ⟨by rw [at_getD (h.2 i hlt)]; simp, l[i], by simp, fun e he hb => ?_⟩
    have := hp.back i l[i] (List.getElem?_eq_getElem hlt) e he hb
    rw [at_getD (h.2 e.on (by omega))]
    simpa using this
theorem any_tail (hp : PreOk md l m) {Q : Exit → Act → World → Prop} : ∀ (d k fuel : Nat) (listed : Array Bool) (a : Act) (w : World), d = l.length - k → m ≤ k → k ≤ l.length → d ≤ fuel → Upto l.length k listed → wpList P l.toArray Q (l.drop k) a w → wpAny P md l.toArray Q fuel listed a w := by
  intro d
  induction d with
  | zero =>
    intro k fuel listed a w hd hk hkl _ hu h
    have hkn : k = l.length := by omega
    have hr : Region.ready md l.toArray listed = [] := by
      apply List.eq_nil_iff_forall_not_mem.2
      intro i hi
      have := (ready_upto hp hk hu i).1 hi
      omega
    have hq : Q .normal a w := by
      rw [hkn, List.drop_length] at h; exact h
    cases fuel with
    | zero => exact ⟨hr, hq⟩
    | succ f => exact ⟨fun _ => hq, fun i hi => by rw [hr] at hi; cases hi⟩
  | succ d ih =>
    intro k fuel listed a w hd hk hkl hf hu h
    have hlt : k < l.length := by omega
    obtain ⟨f, rfl⟩ : ∃ f, fuel = f + 1 := ⟨fuel - 1, by omega⟩
    refine ⟨fun hr => ?_, fun i hi => ?_⟩
    · have := (ready_upto hp hk hu k).2 ⟨rfl, hlt⟩
      rw [hr] at this; cases this
    · obtain ⟨rfl, _⟩ := (ready_upto hp hk hu i).1 hi
      have ho : l.toArray[i]? = some l[i] := by simp
      rw [List.drop_eq_getElem_cons hlt] at h
      have hw : wpOp P l.toArray Q i (wpList P l.toArray Q (l.drop (i + 1))) a w := by unfold wpOp; simp only [ho]; exact h
      exact wpOp_mono (fun a' w' h' => ih (i + 1) f _ a' w' (by omega) (by omega) (by omega) (by omega) hu.set h') hw

/-- The part that has come up of the first m; of the others nothing has. -/
structure Part (n m : Nat) (listed' listed : Array Bool) : Prop where
  size' : listed'.size = m
  size : listed.size = n
  same : ∀ i, i < m → listed[i]? = listed'[i]?
  rest : ∀ t, m ≤ t → t < n → listed[t]? = some false
theorem Part.get {n m : Nat} {listed' listed : Array Bool} (h : Part n m listed' listed) {i : Nat} (hi : i < m) : ∃ b, listed'[i]? = some b := ⟨_, Array.getElem?_eq_getElem (by rw [h.size']; exact hi)⟩
theorem Part.set {n m i : Nat} {listed' listed : Array Bool} (h : Part n m listed' listed) (hi : i < m) : Part n m (listed'.setIfInBounds i true) (listed.setIfInBounds i true) := by
  refine ⟨by rw [Array.size_setIfInBounds]; exact h.size', by rw [Array.size_setIfInBounds]; exact h.size, fun j hj => ?_, fun t ht htn => ?_⟩
  · rw [Array.getElem?_setIfInBounds, Array.getElem?_setIfInBounds]
    by_cases e : i = j
    · subst e
      rw [if_pos rfl, if_pos rfl, h.size']
      by_cases hin : i < listed.size
      · rw [if_pos hin, if_pos hi]
      · have h1 := h.same i hi
        rw [Array.getElem?_eq_none (by omega)] at h1
        obtain ⟨b, hb⟩ := h.get hi
        rw [← h1] at hb; cases hb
    · rw [if_neg e, if_neg e]; exact h.same j hj
  · rw [Array.getElem?_setIfInBounds, if_neg (by omega)]; exact h.rest t ht htn
theorem least_false (b : Nat → Bool) : ∀ m, (∃ i, i < m ∧ b i = false) → ∃ k, k < m ∧ b k = false ∧ ∀ j, j < k → b j = true := by
  intro m
  induction m with
  | zero => rintro ⟨i, hi, _⟩; omega
  | succ m ih =>
    rintro ⟨i, hi, hb⟩
    by_cases h : ∃ i, i < m ∧ b i = false
    · obtain ⟨k, h1, h2, h3⟩ := ih h
      exact ⟨k, by omega, h2, h3⟩
    · have : i = m := by
        rcases Nat.lt_or_ge i m with h4 | h4
        · exact absurd ⟨i, h4, hb⟩ h
        · omega
      subst this
      refine ⟨i, by omega, hb, fun j hj => ?_⟩
      cases hj2 : b j with
      | true => rfl
      | false => exact absurd ⟨j, hj, hj2⟩ h
theorem take_at {i : Nat} (hi : i < m) : (l.take m).toArray[i]? = l.toArray[i]? := by simp [List.getElem?_take, hi]
theorem part_in (hp : PreOk md l m) {listed' listed : Array Bool} (h : Part l.length m listed' listed) (hun : ∃ i, i < m ∧ listed'.getD i true = false) : ∀ i ∈ Region.ready md l.toArray listed, i < m := by
  intro i hi
  rw [mem_ready] at hi
  obtain ⟨h1, o, ho, h2⟩ := hi
  have ho' : l[i]? = some o := by simpa using ho
  have hil := (List.getElem?_eq_some_iff.1 ho').1
  rcases Nat.lt_trichotomy i m with hlt | rfl | hgt
  · exact hlt
  · obtain ⟨j, hj, hjf⟩ := hun
    obtain ⟨e, he, hb, hon⟩ := hp.first j o hj ho'
    have h3 := h2 e he hb
    obtain ⟨b, hj'⟩ := h.get hj
    rw [hon, Array.getD_eq_getD_getElem?, h.same j hj, hj'] at h3
    rw [Array.getD_eq_getD_getElem?, hj'] at hjf
    simp at h3 hjf
    rw [h3] at hjf; cases hjf
  · obtain ⟨e, he, hb, hon⟩ := hp.chain i o hgt ho'
    have h3 := h2 e he hb
    rw [hon, at_getD (h.rest (i - 1) (by omega) (by omega))] at h3
    cases h3
theorem part_ready (hp : PreOk md l m) {listed' listed : Array Bool} (h : Part l.length m listed' listed) {i : Nat} (hi : i < m) : i ∈ Region.ready md l.toArray listed ↔ i ∈ Region.ready md (l.take m).toArray listed' := by
  rw [mem_ready, mem_ready, take_at hi]
  have e1 : ∀ j d, j < m → listed.getD j d = listed'.getD j d := fun j d hj => by rw [Array.getD_eq_getD_getElem?, Array.getD_eq_getD_getElem?, h.same j hj]
  rw [e1 i true hi]
  constructor
  · rintro ⟨h1, o, ho, h2⟩
    have ho' : l[i]? = some o := by simpa using ho
    exact ⟨h1, o, ho, fun e he hb => by have := hp.back i o ho' e he hb; rw [← e1 _ _ (by omega)]; exact h2 e he hb⟩
  · rintro ⟨h1, o, ho, h2⟩
    have ho' : l[i]? = some o := by simpa using ho
    exact ⟨h1, o, ho, fun e he hb => by have := hp.back i o ho' e he hb; rw [e1 _ _ (by omega)]; exact h2 e he hb⟩
theorem want_take (hp : PreOk md l m) {i : Nat} (hi : i < m) {o : Oper} (ho : l[i]? = some o) (tmps : Array Value) : Region.wanted o (yielded (l.take m).toArray tmps) = Region.wanted o (yielded l.toArray tmps) := by
  unfold Region.wanted
  cases hg : o.guard with
  | none => rfl
  | some x =>
    obtain ⟨g, b⟩ := x
    have := hp.inn i o g b hi ho hg
    dsimp only
    unfold yielded
    rw [take_at this]
end

section
variable {M : List Nat} {P : Program} {n : Nat} {W : World} {Q : Exit → Act → World → Prop} {L : List Blk} {f : Nat → Value}
end
/-- The address of an array variable's element. -/
theorem run_ixarr {P : Program} {ρ : Operand → Value} {o : Oper} {t e : TypeId} {x ix : Operand} {b off off' n sz : Nat} {k : IntKind} {j : Int} (ho : o.op = .indexAddr t x ix) (hx : ρ x = .pointer (some ⟨b, off, none⟩)) (hi : ρ ix = .int k j)
    (hu : P.underlying t = some (.array n e)) (hs : (P.info? e).map (·.size) = some sz) (h0 : 0 ≤ j) (h1 : j < n) (hoff : off + j.toNat * sz = off') (w : World) : (execOp ρ o).run P w = .ok (.value (.pointer (some ⟨b, off', none⟩))) w := by
  subst hoff
  cases he : P.info? e with
  | none => rw [he] at hs; cases hs
  | some i =>
    rw [he] at hs
    obtain rfl := Option.some.inj hs
    unfold execOp
    simp [ho, hx, hi, Instr.indexAt, Sem.run_bind, asIntOf, run_underlying hu, Instr.sureAddr, h0, h1, sizeOf, typeInfo, he, add_off]
theorem ret_b {P : Program} {k : FuncId} {args : Array Value} {w : World} {a b : Bool} (h : a = b) (hc : Calls P k args w fun e w' => e = .returned (.bool a) ∧ Below w.heap.size w w') : Calls P k args w fun e w' => e = .returned (.bool b) ∧ Below w.heap.size w w' := by subst h; exact hc
end Go.Proofs.Ytglbfknmeojfkaa
end

section
/-
  A region that draws its order and makes variables beside what it reads: what only reads blocks that were there at its start is taken first; the rest in each order that may come up. No condition.
-/
namespace Go.Proofs.Ytglbfknmeojfkaa
open Go.RowKit
set_option linter.unusedVariables false
set_option linter.unusedSimpArgs false

theorem Own.sub {M : List Nat} {W w : World} {L0 : List Blk} : ∀ (E : List Blk), Own M W w (E ++ L0) → Own M W w L0
  | [], h => h
  | e :: E, h => Own.sub E ⟨h.os, h.tape, h.output, h.size, h.drawn, h.kept, fun x hx => h.held x (List.mem_cons_of_mem _ hx), fun x hx => h.base x (List.mem_cons_of_mem _ hx), by
      have := h.apart
      rw [List.cons_append, List.map_cons, List.nodup_cons] at this
      exact this.2⟩
section
variable {M : List Nat} {P : Program} {n : Nat} {ops : Array Oper} {W : World} {Q : Exit → Act → World → Prop} {L0 L : List Blk} {f : Nat → Value} {fuel : Nat} {listed : Array Bool}
def PQ (Q : Exit → Act → World → Prop) : Prop := ∀ c (a : Act) d v w, Q (.panic c) (a.put d v) w → Q (.panic c) a w
theorem pq_seq {K : Act → World → Prop} (h : PQ Q) : PQ (Exit.then K Q) := fun c a d v w h2 => h c a d v w h2
theorem pq_block {id : Nat} (h : PQ Q) : PQ (Exit.inBlock id Q) := fun c a d v w h2 => h c a d v w h2
theorem pq_round {Inv : List Blk → (Nat → Value) → Nat → Prop} {m : Nat} (h : PQ Q) : PQ (Round M n W Inv m Q) := fun c a d v w h2 => h c a d v w h2
theorem pq_body {fn : Func} {R : Ending → World → Prop} : PQ (bodyPost P fn R) := fun c a d v w h2 => by cases d <;> exact h2
structure HSeg (M : List Nat) (P : Program) (n : Nat) (ops : Array Oper) (W : World) (L0 : List Blk) (Q : Exit → Act → World → Prop) (fuel : Nat) (listed : Array Bool) (L : List Blk) (f : Nat → Value) : Prop where
  go : ∀ w, Own M W w L → wpAnyH P .any ops Q (fun w => Own M W w L0) fuel listed (Fr n f) w
structure HStep (M : List Nat) (P : Program) (n : Nat) (ops : Array Oper) (W : World) (L0 : List Blk) (Q : Exit → Act → World → Prop) (fuel : Nat) (listed : Array Bool) (i : Nat) (L : List Blk) (f : Nat → Value) : Prop where
  go : ∀ w, Own M W w L → wpOp P ops Q i (fun a' w' => Own M W w' L0 ∧ wpAnyH P .any ops Q (fun w => Own M W w L0) fuel (listed.setIfInBounds i true) a' w') (Fr n f) w
theorem ok_anyh {id : Nat} {l : List Oper} (hm : P.follows .mixedOrders = true) (h : HSeg M P n l.toArray W L Q l.length (Array.replicate l.length false) L f) : Ok M P n W Q (.region id l.toArray true) L f := ⟨fun w hO => by
  have := wp_region_held (id := id) (S := fun w => Own M W w L) hm (ops := l.toArray) (Q := Q) (a := Fr n f) (w := w) (by simpa using h.go _ hO.drew)
  exact this⟩
theorem h_done (hr : Region.ready .any ops listed = []) (h : Fin M n W Q .normal L f) : HSeg M P n ops W L0 Q fuel listed L f := ⟨fun w hO => wpAnyH_done hr (h.go w hO) fuel⟩
theorem h_take (i : Nat) (E : List Blk) (oi : Oper) (v : Value) (hi : ops[i]? = some oi) (hs : Region.noSelect ops = true) (hf : Region.free .any ops listed i = true) (hr : (Region.ready .any ops listed).contains i = true)
    (hQ : PQ Q) (hw : want ops n f oi = true) (hv : ∀ w, Own M W w L0 → (execOp (ev n f) oi).run P w = .ok (.value v) w)
    (h : HSeg M P n ops W L0 Q fuel (listed.setIfInBounds i true) (E ++ L0) (upd f oi.dst v)) : HSeg M P n ops W L0 Q (fuel + 1) listed (E ++ L0) f := ⟨fun w hO => by
  refine wpAnyH_take hi hs hf hr (fun c a w h => hQ c a _ _ w h) (Or.inl ⟨by rw [want_eq]; exact hw, fun w hw' => by rw [Fr_eval]; exact hv w hw'⟩) (hO.sub E) ?_
  rw [Fr_put]
  exact h.go w hO⟩
theorem h_load (i : Nat) (E : List Blk) (oi : Oper) (k : Nat) (x : Blk) {ty : TypeId} {p : Operand} {off : Nat} (v : Value) (hi : ops[i]? = some oi) (hs : Region.noSelect ops = true) (hf : Region.free .any ops listed i = true) (hr : (Region.ready .any ops listed).contains i = true)
    (hQ : PQ Q) (hw : want ops n f oi = true) (ho : oi.op = .load ty p) (hL : L0[k]? = some x) (hp : ev n f p = .pointer (some ⟨x.b, off, none⟩)) (hv : readAt P ty x.cs off = some v)
    (h : HSeg M P n ops W L0 Q fuel (listed.setIfInBounds i true) (E ++ L0) (upd f oi.dst v)) : HSeg M P n ops W L0 Q (fuel + 1) listed (E ++ L0) f :=
  h_take i E oi v hi hs hf hr hQ hw (fun _ hO => run_load_op ho hp (run_readAt hv (hO.get hL))) h
theorem h_one (i : Nat) (hr : Region.ready .any ops listed = [i]) (h : HStep M P n ops W L0 Q fuel listed i L f) : HSeg M P n ops W L0 Q (fuel + 1) listed L f := ⟨fun w hO =>
  wpAnyH_all hr (by simp) fun j hj => by obtain rfl : j = i := by simpa using hj
                                         exact h.go w hO⟩
theorem h_two (i j : Nat) (hr : Region.ready .any ops listed = [i, j]) (h : HStep M P n ops W L0 Q fuel listed i L f) (h' : HStep M P n ops W L0 Q fuel listed j L f) : HSeg M P n ops W L0 Q (fuel + 1) listed L f := ⟨fun w hO =>
  wpAnyH_all hr (by simp) fun k hk => by
    rcases List.mem_cons.1 hk with rfl | hk
    · exact h.go w hO
    · obtain rfl : k = j := by simpa using hk
      exact h'.go w hO⟩
theorem hs_step {i : Nat} {oi : Oper} (hi : ops[i]? = some oi) (hw : want ops n f oi = true) (h : ∀ w, Own M W w L → oi.wp P (Fr n f) w (fun a' w' => Own M W w' L0 ∧ wpAnyH P .any ops Q (fun w => Own M W w L0) fuel (listed.setIfInBounds i true) a' w') Q) : HStep M P n ops W L0 Q fuel listed i L f := ⟨fun w hO => by
  unfold wpOp
  simp only [hi]
  rw [want_eq, hw, if_pos rfl]
  exact .inl (h w hO)⟩
theorem hs_call {i : Nat} (E : List Blk) (oi : Oper) {k : FuncId} {args : Array Value} (v : Value) (hi : ops[i]? = some oi) (hw : want ops n f oi = true) (he : ∀ w, (execOp (ev n f) oi).run P w = .ok (.enter k args) w)
    (hc : ∀ w, Own M W w (E ++ L0) → Calls P k args w fun e w' => e = .returned v ∧ Below w.heap.size w w') (h : HSeg M P n ops W L0 Q fuel (listed.setIfInBounds i true) (E ++ L0) (upd f oi.dst v)) : HStep M P n ops W L0 Q fuel listed i (E ++ L0) f :=
  hs_step hi hw fun w hO => wp_enter (he w) ((hc w hO).mono fun e w' ⟨e1, e2⟩ => ⟨v, e1, (hO.on e2).sub E, h.go w' (hO.on e2)⟩)
end

end Go.Proofs.Ytglbfknmeojfkaa
end

section
/-
  Slices that the call has made: what they hold, append, an element's address and value. No condition of their own but the bounds that each theorem names.
-/
namespace Go.Proofs.Ytglbfknmeojfkaa
open Go.RowKit
set_option linter.unusedVariables false
set_option linter.unusedSimpArgs false

/-- The slice value v has n elements of type T (sz cells each), the cells xs; it is nil, or it lies at the head of the one block of ob. -/
def Sl (T : TypeId) (sz : Nat) (v : Value) (n : Nat) (xs : List Value) (ob : List Blk) : Prop :=
  xs.length = n * sz ∧ ((v = .slice none 0 0 ∧ n = 0 ∧ ob = []) ∨
    ∃ g cap cur, v = .slice (some ⟨g, 0, none⟩) n cap ∧ ob = [⟨g, cur, T⟩] ∧ n ≤ cap ∧ cap ≤ maxLen ∧ cur.size = cap * sz ∧ cur.toList.take (n * sz) = xs)
theorem Sl.nil (T : TypeId) (sz : Nat) : Sl T sz (.slice none 0 0) 0 [] [] := ⟨by simp, .inl ⟨rfl, rfl, rfl⟩⟩
/-- The list of blocks in another order, or with some left out. -/
theorem Own.take {M : List Nat} {W w : World} {L L' : List Blk} (h : Own M W w L) (hs : ∀ x ∈ L', x ∈ L) (hn : (L'.map Blk.b).Nodup) : Own M W w L' :=
  ⟨h.os, h.tape, h.output, h.size, h.drawn, h.kept, fun x hx => h.held x (hs x hx), fun x hx => h.base x (hs x hx), hn⟩
theorem Own.move {M : List Nat} {W w : World} {E ob L0 : List Blk} {x : Blk} (h : Own M W w (x :: (E ++ ob ++ L0))) : Own M W w (E ++ [x] ++ L0) := by
  refine h.take (fun y hy => ?_) ?_
  · simp only [List.mem_append, List.mem_cons, List.not_mem_nil, or_false] at hy ⊢
    rcases hy with (hy | hy) | hy
    · exact .inr (.inl (.inl hy))
    · exact .inl hy
    · exact .inr (.inr hy)
  · have h1 := h.apart
    have h2 : ((x :: (E ++ L0)).map Blk.b).Nodup := by
      refine h1.sublist (List.Sublist.map _ (List.Sublist.cons_cons _ ?_))
      rw [List.append_assoc]
      exact List.Sublist.append (List.Sublist.refl E) (List.sublist_append_right ob L0)
    have hp : (E ++ [x] ++ L0).Perm (x :: (E ++ L0)) := by
      rw [List.append_assoc]; exact List.perm_middle
    exact (hp.map Blk.b).nodup_iff.2 h2
theorem drew_own {M : List Nat} {W w : World} {L : List Blk} (h : Own M W w L) : Own M W w.drew L := h.drew
section
variable {M : List Nat} {P : Program} {W w : World} {E ob L0 : List Blk}
/-- append, precisely: in place, or in a new block in the old one's stead. -/
theorem own_append {t ty T : TypeId} {i : TypeInfo} {z : Value} {sz : Nat} (ht : P.underlying t = some (.slice T)) (hi : P.info? T = some i) (hz : i.zero = some z) (hsz : i.size = sz) (hzs : z.cells.size = sz)
    {v : Value} {n : Nat} {xs : List Value} (hv : Sl T sz v n xs ob) (hO : Own M W w (E ++ ob ++ L0))
    {a : Addr} {m c : Nat} {news : List Value} (hl : news.length = m * sz) (hnews : ∀ j u, news[j]? = some u → w.cell? (a.add j) = some u) (h1 : ∀ u ∈ news, u.oneCell' = true)
    (h63 : n + m ≤ maxLen) (hbytes : (n + m) * i.bytes ≤ 140737488355328) :
    ∃ v' w' ob', (Builtin.append_ #[t, t] ty #[v, .slice (some a) m c]).run P w = .ok v' w' ∧ Sl T sz v' (n + m) (xs ++ news) ob' ∧ Own M W w' (E ++ ob' ++ L0) := by
  subst hsz
  have hsmall : n + m ≤ 9223372036854775807 := by simp only [maxLen] at h63; omega
  have hlen : (xs ++ news).length = (n + m) * i.size := by rw [List.length_append, hv.1, hl, Nat.add_mul]
  rcases hv.2 with ⟨rfl, rfl, rfl⟩ | ⟨g, cap, cur, rfl, rfl, hnc, hcm, hcs, htake⟩
  · have hx : xs = [] := List.eq_nil_of_length_eq_zero (by simpa using hv.1)
    subst hx
    by_cases hm : m = 0
    · subst hm
      have hn : news = [] := List.eq_nil_of_length_eq_zero (by simpa using hl)
      subst hn
      refine ⟨.slice none 0 0, w, [], ?_, Sl.nil T i.size, hO⟩
      simp [Builtin.append_, run_underlying ht, sizeOf, typeInfo, hi, Builtin.lenOf, Builtin.firstCells, loadCells, loadCellsFrom]
    · have hr := run_append_nil (P := P) w t ty T i z ht hi hz a m c news hl hnews (by omega) (by omega) (by have hb := hbytes; simp only [Nat.zero_add] at hb; omega)
      have hge := grownCap_ge w m 0 T
      have hcm := grownCap_le_maxLen w m 0 T (by simpa using h63)
      refine ⟨_, _, [⟨w.heap.size, news.toArray ++ Builtin.zeroCells z.cells (grownCap w m 0 T - m), T⟩], hr, ⟨by simpa using hlen, .inr ⟨w.heap.size, _, _, by simp, rfl, by simpa using hge, hcm, ?_, ?_⟩⟩, ?_⟩
      · simp only [Array.size_append, List.size_toArray, size_zeroCells, hzs, hl, ← Nat.add_mul]
        congr 1
        omega
      · simp only [Array.toList_append, Nat.zero_add, List.nil_append]
        rw [← hl]
        exact List.take_left
      · have := (drew_own hO).alloc (news.toArray ++ Builtin.zeroCells z.cells (grownCap w m 0 T - m)) T
        exact Own.move (ob := []) this
  · by_cases hroom : n + m ≤ cap
    · have hfit : n * i.size + news.length ≤ cur.size := by rw [hl, hcs, ← Nat.add_mul]; exact Nat.mul_le_mul_right _ hroom
      have hk : (E ++ [Blk.mk g cur T] ++ L0)[E.length]? = some ⟨g, cur, T⟩ := by simp
      have hg := hO.get hk
      have hr := run_append_room (P := P) w t ty T i ht hi g n cap cur hg a m c news hl hnews h1 hroom hfit
      refine ⟨_, _, [⟨g, (cur.toList.take (n * i.size) ++ news ++ cur.toList.drop (n * i.size + news.length)).toArray, T⟩], hr, ⟨hlen, .inr ⟨g, cap, _, rfl, rfl, hroom, hcm, ?_, ?_⟩⟩, ?_⟩
      · simp only [List.size_toArray, List.length_append, List.length_take, List.length_drop, Array.length_toList]
        omega
      · rw [htake, ← hlen]
        exact List.take_left
      · have := hO.put hk (cur.toList.take (n * i.size) ++ news ++ cur.toList.drop (n * i.size + news.length)).toArray
        have e : (E ++ [Blk.mk g cur T] ++ L0).set E.length ⟨g, (cur.toList.take (n * i.size) ++ news ++ cur.toList.drop (n * i.size + news.length)).toArray, T⟩ = E ++ [⟨g, (cur.toList.take (n * i.size) ++ news ++ cur.toList.drop (n * i.size + news.length)).toArray, T⟩] ++ L0 := by simp
        rw [e] at this; exact this
    · have hk : (E ++ [Blk.mk g cur T] ++ L0)[E.length]? = some ⟨g, cur, T⟩ := by simp
      have hg := hO.get hk
      have holds : ∀ j u, xs[j]? = some u → w.cell? ((⟨g, 0, none⟩ : Addr).add j) = some u := fun j u hj => by
        rw [add_off, cell_of_row w g (0 + j) cur T _ hg]
        rw [← htake, List.getElem?_take] at hj
        split at hj
        · simpa using hj
        · cases hj
      have hr := run_append_grow (P := P) w t ty T i z ht hi hz ⟨g, 0, none⟩ n cap xs hv.1 holds a m c news hl hnews (by omega) (by omega) (growslice_fits (by omega) hbytes)
      have hge := grownCap_ge w (n + m) cap T
      have hcm := grownCap_le_maxLen w (n + m) cap T h63
      refine ⟨_, _, [⟨w.heap.size, xs.toArray ++ news.toArray ++ Builtin.zeroCells z.cells (grownCap w (n + m) cap T - (n + m)), T⟩], hr, ⟨hlen, .inr ⟨w.heap.size, _, _, rfl, rfl, hge, hcm, ?_, ?_⟩⟩, ?_⟩
      · simp only [Array.size_append, List.size_toArray, size_zeroCells, hzs, hv.1, hl, ← Nat.add_mul]
        congr 1
        omega
      · simp only [Array.toList_append, List.append_assoc]
        rw [← List.append_assoc, ← hlen]
        exact List.take_left
      · exact Own.move ((drew_own hO).alloc (xs.toArray ++ news.toArray ++ Builtin.zeroCells z.cells (grownCap w (n + m) cap T - (n + m))) T)
/-- append of nothing (a nil slice). -/
theorem own_append_nil {t ty T : TypeId} {i : TypeInfo} (ht : P.underlying t = some (.slice T)) (hi : P.info? T = some i) {sz : Nat} {v : Value} {n : Nat} {xs : List Value} (hv : Sl T sz v n xs ob) (m0 : Nat) :
    (Builtin.append_ #[t, t] ty #[v, .slice none 0 0]).run P w = .ok v w := by
  rcases hv.2 with ⟨rfl, rfl, rfl⟩ | ⟨g, cap, cur, rfl, rfl, hnc, hcm, hcs, htake⟩
  · simp [Builtin.append_, run_underlying ht, sizeOf, typeInfo, hi, Builtin.lenOf, Builtin.firstCells]
  · simp [Builtin.append_, run_underlying ht, sizeOf, typeInfo, hi, Builtin.lenOf, Builtin.firstCells, hnc, storeCells]
end
section
variable {M : List Nat} {P : Program} {n0 : Nat} {ops : Array Oper} {W : World} {Q : Exit → Act → World → Prop} {rest : List Oper} {o : Oper} {E ob L0 : List Blk} {f : Nat → Value}
/-- The operation append(s, x..): s a slice of the call's own. -/
theorem s_append {t T : TypeId} {s x : Operand} {i : TypeInfo} {z : Value} {sz : Nat} (hw : want ops n0 f o = true) (ho : o.op = .call { callee := .builtin .append, args := #[s, x], argTypes := #[t, t] })
    (ht : P.underlying t = some (.slice T)) (hi : P.info? T = some i) (hz : i.zero = some z) (hsz : i.size = sz) (hzs : z.cells.size = sz)
    {v : Value} {n : Nat} {xs : List Value} (hs : ev n0 f s = v) (hv : Sl T sz v n xs ob) {a : Addr} {m c : Nat} {news : List Value} (hx : ev n0 f x = .slice (some a) m c)
    (hl : news.length = m * sz) (hnews : ∀ w, Own M W w (E ++ ob ++ L0) → ∀ j u, news[j]? = some u → w.cell? (a.add j) = some u) (h1 : ∀ u ∈ news, u.oneCell' = true)
    (h63 : n + m ≤ maxLen) (hbytes : (n + m) * i.bytes ≤ 140737488355328)
    (h : ∀ v' ob', Sl T sz v' (n + m) (xs ++ news) ob' → Seg M P n0 ops W Q rest (E ++ ob' ++ L0) (upd f o.dst v')) : Seg M P n0 ops W Q (o :: rest) (E ++ ob ++ L0) f :=
  s_step hw fun w hO => by
    obtain ⟨v', w', ob', hr, h2, h3⟩ := own_append (P := P) (ty := o.type) (c := c) ht hi hz hsz hzs hv hO hl (hnews w hO) h1 h63 hbytes
    refine wp_val v' (w' := w') ?_ ((h v' ob' h2).go w' h3)
    unfold execOp
    simp only [ho, resolve, invoke, builtin, Sem.run_bind, Sem.run_pure, Result.andThen_ok, List.map_toArray, List.map_cons, List.map_nil, hs, hx, hr]
/-- A slice literal: a new block. -/
theorem s_lit {L : List Blk} {t : TypeId} {len : Nat} {parts : Array (Nat × Operand)} (T : TypeId) (cs : Array Value) (hw : want ops n0 f o = true) (ho : o.op = .buildSlice t len parts)
    (hr : ∀ w, (execOp (ev n0 f) o).run P w = .ok (.value (.slice (some ⟨w.heap.size, 0, none⟩) len len)) (w.alloc (.cells cs T)))
    (h : ∀ b, Seg M P n0 ops W Q rest (⟨b, cs, T⟩ :: L) (upd f o.dst (.slice (some ⟨b, 0, none⟩) len len))) : Seg M P n0 ops W Q (o :: rest) L f :=
  s_step hw fun w hO => wp_val _ (hr w) ((h w.heap.size).go _ (hO.alloc _ _))
/-- The address of a slice's element. -/
theorem run_ixsl {ρ : Operand → Value} {t e : TypeId} {x ix : Operand} {b off off' n c sz : Nat} {k : IntKind} {j : Int} (ho : o.op = .indexAddr t x ix) (hx : ρ x = .slice (some ⟨b, off, none⟩) n c) (hi : ρ ix = .int k j)
    (hu : P.underlying t = some (.slice e)) (hs : (P.info? e).map (·.size) = some sz) (h0 : 0 ≤ j) (h1 : j < n) (hoff : off + j.toNat * sz = off') (w : World) : (execOp ρ o).run P w = .ok (.value (.pointer (some ⟨b, off', none⟩))) w := by
  subst hoff
  cases he : P.info? e with
  | none => rw [he] at hs; cases hs
  | some i =>
    rw [he] at hs
    obtain rfl := Option.some.inj hs
    unfold execOp
    simp [ho, hx, hi, Instr.indexAt, Sem.run_bind, asIntOf, run_underlying hu, Instr.sureAddr, h0, h1, sizeOf, typeInfo, he, add_off]
end
/-! ### Elements -/
section
variable {α : Type} {g : α → List Value} {sz : Nat}
theorem flat_len (hg : ∀ x, (g x).length = sz) (l : List α) : (l.flatMap g).length = l.length * sz := by
  induction l with
  | nil => simp
  | cons x l ih => rw [List.flatMap_cons, List.length_append, hg, ih, List.length_cons, Nat.succ_mul, Nat.add_comm]
theorem flat_at (hg : ∀ x, (g x).length = sz) (l : List α) : ∀ k (h : k < l.length), ((l.flatMap g).drop (k * sz)).take sz = g l[k] := by
  induction l with
  | nil => intro k h; simp at h
  | cons x l ih =>
    intro k h
    rw [List.flatMap_cons]
    cases k with
    | zero =>
      have := hg x
      rw [Nat.zero_mul, List.drop_zero, ← this, List.take_left]; rfl
    | succ k =>
      rw [Nat.succ_mul, Nat.add_comm, ← List.drop_drop]
      have hd : (g x ++ l.flatMap g).drop sz = l.flatMap g := by rw [← hg x]; exact List.drop_left
      rw [hd]
      exact ih k (by simpa using h)
end

end Go.Proofs.Ytglbfknmeojfkaa
end

section
/-
  Slices that came in (or that a caller owns), read element by element; loops: the frame at a round's head. No condition of their own but what each theorem names.
-/
namespace Go.Proofs.Ytglbfknmeojfkaa
open Go.RowKit
set_option linter.unusedVariables false
set_option linter.unusedSimpArgs false

/-! ### A frame whose slots are known in part -/
def upds (f : Nat → Value) : List (Nat × Value) → Nat → Value
  | [] => f
  | p :: r => upd (upds f r) (some p.1) p.2
def Agrees (f : Nat → Value) : List (Nat × Value) → Prop
  | [] => True
  | p :: r => f p.1 = p.2 ∧ Agrees f r
theorem upds_self {f : Nat → Value} : ∀ (l : List (Nat × Value)), Agrees f l → f = upds f l
  | [], _ => rfl
  | p :: r, h => by
    have e := upds_self r h.2
    have h1 : upds f r p.1 = p.2 := by rw [← e]; exact h.1
    show f = upd (upds f r) (some p.1) p.2
    rw [← upd_self h1]; exact e

/-! ### Reading -/
/-- The slice v reads as the list l, each element as sz cells by g, out of a block below B. -/
def Reads {α : Type} (g : α → List Value) (w : World) (B : Nat) (A : Option Addr) (l : List α) : Prop :=
  0 < l.length → ∃ b off, A = some ⟨b, off, none⟩ ∧ b < B ∧ ∀ k u, (l.flatMap g)[k]? = some u → w.cell? ⟨b, off + k, none⟩ = some u
theorem Reads.on {α : Type} {g : α → List Value} {w w' : World} {B B' : Nat} {A : Option Addr} {l : List α} (h : Reads g w B A l) (hb : Below B w w') (hB : B ≤ B') : Reads g w' B' A l := fun h0 => by
  obtain ⟨b, off, e, hlt, hc⟩ := h h0
  exact ⟨b, off, e, by omega, fun k u hk => (hb.cell (p := ⟨b, off + k, none⟩) hlt).trans (hc k u hk)⟩
/-- What a caller owns, as its callee reads it. -/
theorem Sl.reads {α : Type} {g : α → List Value} {T sz n : Nat} {A : Option Addr} {cap : Nat} {l : List α} {ob : List Blk} {M : List Nat} {W w : World} {L : List Blk} (h : Sl T sz (.slice A n cap) n (l.flatMap g) ob) (hn : l.length = n) (hO : Own M W w L) (hs : ∀ x ∈ ob, x ∈ L) :
    Reads g w w.heap.size A l := fun h0 => by
  rcases h.2 with ⟨_, h2, _⟩ | ⟨b, c, cur, e, rfl, h3, h4, h5, h6⟩
  · omega
  · obtain ⟨rfl, _, rfl⟩ : A = some ⟨b, 0, none⟩ ∧ True ∧ cap = c := by
      simp only [Value.slice.injEq] at e; exact ⟨e.1, trivial, e.2.2⟩
    have hb := hs ⟨b, cur, T⟩ (by simp)
    refine ⟨b, 0, rfl, hO.lt hb, fun k u hk => ?_⟩
    rw [cell_of_row w b (0 + k) cur T _ (hO.held _ hb)]
    rw [← h6, List.getElem?_take] at hk
    split at hk
    · simpa using hk
    · cases hk
section
variable {P : Program}
/-- A variable whose cells are known. -/
theorem old_load {ty : TypeId} {w : World} {b o : Nat} (cs : List Value) (v : Value) (h : ∀ k u, cs[k]? = some u → w.cell? ⟨b, o + k, none⟩ = some u) (hr : readAt P ty cs.toArray 0 = some v) : (loadVar ty ⟨b, o, none⟩).run P w = .ok v w := by
  unfold readAt at hr
  cases hu : P.underlying ty with
  | none => rw [hu] at hr; simp at hr
  | some d =>
    cases hi : P.info? ty with
    | none => rw [hu, hi] at hr; cases d <;> simp at hr
    | some i =>
      rw [hu, hi] at hr
      by_cases hd : aggB d = true
      · have h2 : (if 0 + i.size ≤ cs.toArray.size then some (Value.agg (cs.toArray.toList.drop 0 |>.take i.size).toArray) else none) = some v := by
          cases d <;> first | exact hr | (simp [aggB] at hd)
        split at h2
        · rename_i hle
          obtain rfl := Option.some.inj h2
          have hlen : (cs.take i.size).length = i.size := by simp at hle ⊢; omega
          have hl := run_loadCells_list (P := P) w ⟨b, o, none⟩ (cs.take i.size) (fun j u hj => by
            rw [add_off]
            rw [List.getElem?_take] at hj
            split at hj
            · exact h j u hj
            · cases hj)
          rw [hlen] at hl
          have hagg : (isAgg ty).run P w = .ok true w := by
            unfold isAgg
            rw [Sem.run_bind, run_underlying hu w]
            cases d <;> simp_all [aggB]
          simp [loadVar, Sem.run_bind, hagg, sizeOf, typeInfo, hi, hl]
        · cases h2
      · have h2 : cs.toArray[0]? = some v := by cases d <;> first | exact hr | (simp [aggB] at hd)
        have hagg : (isAgg ty).run P w = .ok false w := by
          unfold isAgg
          rw [Sem.run_bind, run_underlying hu w]
          cases d <;> simp_all [aggB]
        have hc : w.cell? ⟨b, o, none⟩ = some v := by simpa using h 0 v (by simpa using h2)
        simp [loadVar, Sem.run_bind, hagg, run_load, hc, Result.andThen]
/-- An element, or a part of it from its cell number fo on. -/
theorem elem_load {α : Type} {g : α → List Value} {sz : Nat} (hg : ∀ x, (g x).length = sz) {ty : TypeId} {w : World} {b off o : Nat} {l : List α} (hc : ∀ k u, (l.flatMap g)[k]? = some u → w.cell? ⟨b, off + k, none⟩ = some u) (k fo : Nat) (hk : k < l.length) (ho : o = off + k * sz + fo) (v : Value)
    (hr : readAt P ty ((g l[k]).drop fo).toArray 0 = some v) : (loadVar ty ⟨b, o, none⟩).run P w = .ok v w := by
  subst ho
  refine old_load ((g l[k]).drop fo) v (fun j u hj => ?_) hr
  have e : ((l.flatMap g)[k * sz + (fo + j)]?) = some u := by
    rw [List.getElem?_drop] at hj
    have := flat_at hg l k hk
    rw [← this, List.getElem?_take] at hj
    split at hj
    · rw [List.getElem?_drop] at hj; exact hj
    · cases hj
  have := hc _ u e
  rw [show off + (k * sz + (fo + j)) = off + k * sz + fo + j from by omega] at this
  exact this
/-- The address of an element of a slice that came in. -/
theorem run_ixA {ρ : Operand → Value} {o : Oper} {t e : TypeId} {x ix : Operand} {A : Option Addr} {b off off' n c sz : Nat} {k : IntKind} {j : Int} (ho : o.op = .indexAddr t x ix) (hx : ρ x = .slice A n c) (hA : A = some ⟨b, off, none⟩) (hi : ρ ix = .int k j)
    (hu : P.underlying t = some (.slice e)) (hs : (P.info? e).map (·.size) = some sz) (h0 : 0 ≤ j) (h1 : j < n) (hoff : off + j.toNat * sz = off') (w : World) : (execOp ρ o).run P w = .ok (.value (.pointer (some ⟨b, off', none⟩))) w := by
  subst hA
  exact run_ixsl ho hx hi hu hs h0 h1 hoff w
end

end Go.Proofs.Ytglbfknmeojfkaa
end

section
/-
  A region that draws its order and makes memory, more freely: any list of blocks that holds the ones at its start which nobody writes; append, slice literals and calls that hand back new memory; and the list of blocks in another form. No condition of their own.
-/
namespace Go.Proofs.Ytglbfknmeojfkaa
open Go.RowKit
set_option linter.unusedVariables false
set_option linter.unusedSimpArgs false
section
variable {M : List Nat} {P : Program} {n : Nat} {ops : Array Oper} {W : World} {Q : Exit → Act → World → Prop} {L0 L : List Blk} {f : Nat → Value} {fuel : Nat} {listed : Array Bool} {rest : List Oper} {o : Oper}
theorem s_cast {L' : List Blk} (e : L = L') (h : Seg M P n ops W Q rest L' f) : Seg M P n ops W Q rest L f := by subst e; exact h
theorem ok_take {L' : List Blk} {c : Code} (hs : ∀ w, Own M W w L → Own M W w L') (h : Ok M P n W Q c L' f) : Ok M P n W Q c L f := ⟨fun w hO => h.go w (hs w hO)⟩
theorem s_take {L' : List Blk} (hs : ∀ w, Own M W w L → Own M W w L') (h : Seg M P n ops W Q rest L' f) : Seg M P n ops W Q rest L f := ⟨fun w hO => h.go w (hs w hO)⟩
theorem fin_take {L' : List Blk} {x : Exit} (hs : ∀ w, Own M W w L → Own M W w L') (h : Fin M n W Q x L' f) : Fin M n W Q x L f := ⟨fun w hO => h.go w (hs w hO)⟩
theorem h_cast {L' : List Blk} (e : L = L') (h : HSeg M P n ops W L0 Q fuel listed L' f) : HSeg M P n ops W L0 Q fuel listed L f := by subst e; exact h
theorem hl_take (i : Nat) (oi : Oper) (v : Value) (hi : ops[i]? = some oi) (hs : Region.noSelect ops = true) (hf : Region.free .any ops listed i = true) (hr : (Region.ready .any ops listed).contains i = true)
    (hQ : PQ Q) (hsub : ∀ w, Own M W w L → Own M W w L0) (hw : want ops n f oi = true) (hv : ∀ w, Own M W w L0 → (execOp (ev n f) oi).run P w = .ok (.value v) w)
    (h : HSeg M P n ops W L0 Q fuel (listed.setIfInBounds i true) L (upd f oi.dst v)) : HSeg M P n ops W L0 Q (fuel + 1) listed L f := ⟨fun w hO => by
  refine wpAnyH_take hi hs hf hr (fun c a w h => hQ c a _ _ w h) (Or.inl ⟨by rw [want_eq]; exact hw, fun w hw' => by rw [Fr_eval]; exact hv w hw'⟩) (hsub w hO) ?_
  rw [Fr_put]
  exact h.go w hO⟩
theorem hl_skip (i : Nat) (oi : Oper) (hi : ops[i]? = some oi) (hs : Region.noSelect ops = true) (hf : Region.free .any ops listed i = true) (hr : (Region.ready .any ops listed).contains i = true)
    (hQ : PQ Q) (hsub : ∀ w, Own M W w L → Own M W w L0) (hw : want ops n f oi = false)
    (h : HSeg M P n ops W L0 Q fuel (listed.setIfInBounds i true) L (upd f oi.dst undef)) : HSeg M P n ops W L0 Q (fuel + 1) listed L f := ⟨fun w hO => by
  refine wpAnyH_take hi hs hf hr (fun c a w h => hQ c a _ _ w h) (Or.inr ⟨by rw [want_eq]; exact hw, rfl⟩) (hsub w hO) ?_
  rw [Fr_put]
  exact h.go w hO⟩
theorem hl_load (i : Nat) (oi : Oper) (k : Nat) (x : Blk) {ty : TypeId} {p : Operand} {off : Nat} (v : Value) (hi : ops[i]? = some oi) (hs : Region.noSelect ops = true) (hf : Region.free .any ops listed i = true) (hr : (Region.ready .any ops listed).contains i = true)
    (hQ : PQ Q) (hsub : ∀ w, Own M W w L → Own M W w L0) (hw : want ops n f oi = true) (ho : oi.op = .load ty p) (hL : L0[k]? = some x) (hp : ev n f p = .pointer (some ⟨x.b, off, none⟩)) (hv : readAt P ty x.cs off = some v)
    (h : HSeg M P n ops W L0 Q fuel (listed.setIfInBounds i true) L (upd f oi.dst v)) : HSeg M P n ops W L0 Q (fuel + 1) listed L f :=
  hl_take i oi v hi hs hf hr hQ hsub hw (fun _ hO => run_load_op ho hp (run_readAt hv (hO.get hL))) h
/-- An operation that is carried out: what it leaves. -/
theorem hl_step {i : Nat} (oi : Oper) (hi : ops[i]? = some oi) (hw : want ops n f oi = true) (L' : World → Value → List Blk → Prop)
    (h : ∀ w, Own M W w L → oi.wp P (Fr n f) w (fun a' w' => ∃ L' f', a' = Fr n f' ∧ Own M W w' L' ∧ Own M W w' L0 ∧ HSeg M P n ops W L0 Q fuel (listed.setIfInBounds i true) L' f') Q) : HStep M P n ops W L0 Q fuel listed i L f :=
  hs_step hi hw fun w hO => by
    refine Oper.wp_mono (fun a' w' ⟨L', f', e, h1, h2, h3⟩ => ?_) (h w hO)
    subst e
    exact ⟨h2, h3.go w' h1⟩
theorem hl_call {i : Nat} (oi : Oper) {k : FuncId} {args : Array Value} (v : Value) (hi : ops[i]? = some oi) (hw : want ops n f oi = true) (hsub : ∀ w, Own M W w L → Own M W w L0) (he : ∀ w, (execOp (ev n f) oi).run P w = .ok (.enter k args) w)
    (hc : ∀ w, Own M W w L → Calls P k args w fun e w' => e = .returned v ∧ Below w.heap.size w w') (h : HSeg M P n ops W L0 Q fuel (listed.setIfInBounds i true) L (upd f oi.dst v)) : HStep M P n ops W L0 Q fuel listed i L f :=
  hs_step hi hw fun w hO => wp_enter (he w) ((hc w hO).mono fun e w' ⟨e1, e2⟩ => ⟨v, e1, hsub w' (hO.on e2), h.go w' (hO.on e2)⟩)
/-- A call that hands back something in new memory, or that writes into what it was lent. -/
theorem hl_callx {i : Nat} (oi : Oper) {k : FuncId} {args : Array Value} (R : Value → List Blk → Prop) (hi : ops[i]? = some oi) (hw : want ops n f oi = true) (he : ∀ w, (execOp (ev n f) oi).run P w = .ok (.enter k args) w)
    (hc : ∀ w, Own M W w L → Calls P k args w fun e w' => ∃ v L', e = .returned v ∧ R v L' ∧ Own M W w' L') (hsub : ∀ v L', R v L' → ∀ w, Own M W w L' → Own M W w L0)
    (h : ∀ v L', R v L' → HSeg M P n ops W L0 Q fuel (listed.setIfInBounds i true) L' (upd f oi.dst v)) : HStep M P n ops W L0 Q fuel listed i L f :=
  hs_step hi hw fun w hO => wp_enter (he w) ((hc w hO).mono fun e w' ⟨v, L', e1, e2, e3⟩ => ⟨v, e1, hsub v L' e2 w' e3, (h v L' e2).go w' e3⟩)
theorem hl_append {i0 : Nat} {E ob R : List Blk} (oi : Oper) {t T : TypeId} {s x : Operand} {i : TypeInfo} {z : Value} {sz : Nat} (hi0 : ops[i0]? = some oi) (hw : want ops n f oi = true) (ho : oi.op = .call { callee := .builtin .append, args := #[s, x], argTypes := #[t, t] })
    (ht : P.underlying t = some (.slice T)) (hi : P.info? T = some i) (hz : i.zero = some z) (hsz : i.size = sz) (hzs : z.cells.size = sz)
    {v : Value} {m0 : Nat} {xs : List Value} (hs : ev n f s = v) (hv : Sl T sz v m0 xs ob) {a : Addr} {m c : Nat} {news : List Value} (hx : ev n f x = .slice (some a) m c)
    (hl : news.length = m * sz) (hnews : ∀ w, Own M W w (E ++ ob ++ R) → ∀ j u, news[j]? = some u → w.cell? (a.add j) = some u) (h1 : ∀ u ∈ news, u.oneCell' = true)
    (h63 : m0 + m ≤ maxLen) (hbytes : (m0 + m) * i.bytes ≤ 140737488355328) (hsub : ∀ ob' w, Own M W w (E ++ ob' ++ R) → Own M W w L0)
    (h : ∀ v' ob', Sl T sz v' (m0 + m) (xs ++ news) ob' → HSeg M P n ops W L0 Q fuel (listed.setIfInBounds i0 true) (E ++ ob' ++ R) (upd f oi.dst v')) : HStep M P n ops W L0 Q fuel listed i0 (E ++ ob ++ R) f :=
  hs_step hi0 hw fun w hO => by
    obtain ⟨v', w', ob', hr, h2, h3⟩ := own_append (P := P) (ty := oi.type) (c := c) ht hi hz hsz hzs hv hO hl (hnews w hO) h1 h63 hbytes
    refine wp_val v' (w' := w') ?_ ⟨hsub ob' w' h3, (h v' ob' h2).go w' h3⟩
    unfold execOp
    simp only [ho, resolve, invoke, builtin, Sem.run_bind, Sem.run_pure, Result.andThen_ok, List.map_toArray, List.map_cons, List.map_nil, hs, hx, hr]
theorem hl_append_nil {i0 : Nat} {ob : List Blk} (oi : Oper) {t T : TypeId} {s x : Operand} {i : TypeInfo} {sz : Nat} (hi0 : ops[i0]? = some oi) (hw : want ops n f oi = true) (hsub : ∀ w, Own M W w L → Own M W w L0) (ho : oi.op = .call { callee := .builtin .append, args := #[s, x], argTypes := #[t, t] })
    (ht : P.underlying t = some (.slice T)) (hi : P.info? T = some i) {v : Value} {m0 : Nat} {xs : List Value} (hs : ev n f s = v) (hv : Sl T sz v m0 xs ob) (hx : ev n f x = .slice none 0 0)
    (h : HSeg M P n ops W L0 Q fuel (listed.setIfInBounds i0 true) L (upd f oi.dst v)) : HStep M P n ops W L0 Q fuel listed i0 L f :=
  hs_step hi0 hw fun w hO => by
    refine wp_val v (w' := w) ?_ ⟨hsub w hO, h.go w hO⟩
    unfold execOp
    simp only [ho, resolve, invoke, builtin, Sem.run_bind, Sem.run_pure, Result.andThen_ok, List.map_toArray, List.map_cons, List.map_nil, hs, hx, own_append_nil ht hi hv 0]
theorem hl_lit {i0 : Nat} (oi : Oper) {t : TypeId} {len : Nat} {parts : Array (Nat × Operand)} (T : TypeId) (cs : Array Value) (hi0 : ops[i0]? = some oi) (hw : want ops n f oi = true) (ho : oi.op = .buildSlice t len parts) (hsub : ∀ w, Own M W w L → Own M W w L0)
    (hr : ∀ w, (execOp (ev n f) oi).run P w = .ok (.value (.slice (some ⟨w.heap.size, 0, none⟩) len len)) (w.alloc (.cells cs T)))
    (h : ∀ b, HSeg M P n ops W L0 Q fuel (listed.setIfInBounds i0 true) (⟨b, cs, T⟩ :: L) (upd f oi.dst (.slice (some ⟨b, 0, none⟩) len len))) : HStep M P n ops W L0 Q fuel listed i0 L f :=
  hs_step hi0 hw fun w hO => by
    have hO' := hO.alloc cs T
    refine wp_val _ (hr w) ⟨?_, (h w.heap.size).go _ hO'⟩
    exact hsub _ (Own.sub [⟨w.heap.size, cs, T⟩] hO')
/-- A caller's list of blocks behind a call that has taken over ob and left ob'. -/
theorem Own.join {ob ob' R : List Blk} {w w' : World} (h : Own M W w (ob ++ R)) (hc : Own (ob.map Blk.b) w w' ob') : Own M W w' (ob' ++ R) := by
  have hap := h.apart
  rw [List.map_append, List.nodup_append] at hap
  have notob : ∀ x ∈ R, x.b ∉ ob.map Blk.b := fun x hx hm => hap.2.2 x.b hm x.b (List.mem_map.2 ⟨x, hx, rfl⟩) rfl
  have ltR : ∀ x ∈ R, x.b < w.heap.size := fun x hx => h.lt (List.mem_append_right ob hx)
  have newob : ∀ x ∈ ob', x.b ∉ R.map Blk.b := fun x hx hm => by
    obtain ⟨y, hy, e⟩ := List.mem_map.1 hm
    rcases hc.base x hx with h1 | h1
    · have := ltR y hy; omega
    · exact notob y hy (e ▸ h1)
  refine ⟨hc.os.trans h.os, hc.tape.trans h.tape, hc.output.trans h.output, Nat.le_trans h.size hc.size, Nat.le_trans h.drawn hc.drawn, fun k hk hm => ?_, fun x hx => ?_, fun x hx => ?_, ?_⟩
  · rw [hc.kept k (Nat.lt_of_lt_of_le hk h.size) (fun hmem => by
      obtain ⟨y, hy, e⟩ := List.mem_map.1 hmem
      rcases h.base y (List.mem_append_left R hy) with h1 | h1
      · omega
      · exact hm (e ▸ h1))]
    exact h.kept k hk hm
  · rcases List.mem_append.1 hx with hx | hx
    · exact hc.held x hx
    · rw [hc.kept x.b (ltR x hx) (notob x hx)]
      exact h.held x (List.mem_append_right ob hx)
  · rcases List.mem_append.1 hx with hx | hx
    · rcases hc.base x hx with h1 | h1
      · exact .inl (Nat.le_trans h.size h1)
      · obtain ⟨y, hy, e⟩ := List.mem_map.1 h1
        rw [← e]; exact h.base y (List.mem_append_left R hy)
    · exact h.base x (List.mem_append_right ob hx)
  · rw [List.map_append, List.nodup_append]
    refine ⟨hc.apart, hap.2.1, fun a ha b hb e => ?_⟩
    obtain ⟨x, hx, rfl⟩ := List.mem_map.1 ha
    exact newob x hx (e ▸ hb)
/-- The same for a call that has taken nothing over. -/
theorem Own.joinN {ob' R : List Blk} {w w' : World} (h : Own M W w R) (hc : Own [] w w' ob') : Own M W w' (ob' ++ R) := Own.join (ob := []) h hc
end
section
variable {P : Program} {n : Nat} {W : World} {f : Nat → Value} {Q : Exit → Act → World → Prop} {M : List Nat} {ops : Array Oper} {rest : List Oper} {o : Oper} {L : List Blk}
/-- In, with blocks that the caller lends. -/
theorem calls_okL {k : FuncId} {fn : Func} {c : Code} {args : Array Value} {R : Ending → World → Prop} (hO : Own M W W L) (hf : P.funcs[k]? = some fn) (hb : fn.body = some c) (hn : fn.ntmps = n) (hle : Nat.ble args.size n = true)
    (h : Ok M P n W (bodyPost P fn R) c L (fun t => args.getD t undef)) : Calls P k args W R := by
  have h2 : Ok M P n W (bodyPost P fn R) c [] (fun t => args.getD t undef) → Calls P k args W R := calls_okM M hf hb hn hle
  refine calls_of_wp hf hb ?_
  have hle' : args.size ≤ n := Nat.le_of_ble_eq_true hle
  have e : ({ tmps := args ++ Array.replicate (fn.ntmps - args.size) undef, defers := [] } : Act) = Fr n (fun t => args.getD t undef) := by
    unfold Fr
    congr 1
    rw [hn]
    apply Array.ext_getElem?
    intro i
    rw [Array.getElem?_ofFn, Array.getElem?_append, Array.getElem?_replicate]
    by_cases hi : i < args.size
    · rw [if_pos hi, dif_pos (by omega), Array.getElem?_eq_getElem hi]
      simp [Array.getD, hi]
    · rw [if_neg hi]
      by_cases hin : i < n
      · rw [if_pos (by omega), dif_pos hin]
        simp [Array.getD, hi]
      · rw [if_neg (by omega), dif_neg hin]
  rw [e]
  exact h.go W hO
end
section
variable {P : Program} {n : Nat} {W : World} {f : Nat → Value} {Q : Exit → Act → World → Prop} {M : List Nat} {ops : Array Oper} {rest : List Oper} {o : Oper} {L : List Blk}
end

end Go.Proofs.Ytglbfknmeojfkaa
end

section
/-
  Parts of slices: s[:k] and s[k:].
-/
namespace Go.Proofs.Ytglbfknmeojfkaa
open Go.RowKit
set_option maxRecDepth 100000
set_option linter.unusedVariables false
set_option linter.unusedSimpArgs false
section
variable {P : Program}
theorem run_slhi {ρ : Operand → Value} {o : Oper} {t e : TypeId} {x y : Operand} {b off n c sz : Nat} {k : IntKind} {j : Int} (ho : o.op = .slice t x none (some y) none) (hx : ρ x = .slice (some ⟨b, off, none⟩) n c) (hy : ρ y = .int k j)
    (hu : P.underlying t = some (.slice e)) (hs : (P.info? e).map (·.size) = some sz) (h0 : 0 ≤ j) (h1 : j ≤ c) (w : World) : (execOp ρ o).run P w = .ok (.value (.slice (some ⟨b, off, none⟩) j.toNat c)) w := by
  cases he : P.info? e with
  | none => rw [he] at hs; cases hs
  | some i =>
    unfold execOp
    simp [ho, hx, hy, Instr.sliceAt, Instr.slice, Instr.sliceBounds, Instr.sliceBound, Sem.run_bind, asIntOf, run_underlying hu, h0, h1, sizeOf, typeInfo, he, add_off]
theorem run_sllo {ρ : Operand → Value} {o : Oper} {t e : TypeId} {x y : Operand} {b off n c sz : Nat} {k : IntKind} {j : Int} (ho : o.op = .slice t x (some y) none none) (hx : ρ x = .slice (some ⟨b, off, none⟩) n c) (hy : ρ y = .int k j)
    (hu : P.underlying t = some (.slice e)) (hs : (P.info? e).map (·.size) = some sz) (h0 : 0 ≤ j) (h1 : j ≤ n) (w : World) : (execOp ρ o).run P w = .ok (.value (.slice (some ⟨b, off + (if c = j.toNat then 0 else j.toNat * sz), none⟩) (n - j.toNat) (c - j.toNat))) w := by
  cases he : P.info? e with
  | none => rw [he] at hs; cases hs
  | some i =>
    rw [he] at hs
    obtain rfl := Option.some.inj hs
    unfold execOp
    by_cases hc : c = j.toNat
    · simp [ho, hx, hy, Instr.sliceAt, Instr.slice, Instr.sliceBounds, Instr.sliceBound, Sem.run_bind, asIntOf, run_underlying hu, h0, h1, sizeOf, typeInfo, he, add_off, hc]
    · simp [ho, hx, hy, Instr.sliceAt, Instr.slice, Instr.sliceBounds, Instr.sliceBound, Sem.run_bind, asIntOf, run_underlying hu, h0, h1, sizeOf, typeInfo, he, add_off, hc]
end

end Go.Proofs.Ytglbfknmeojfkaa
end

section
/-
  append(s, x..) where x is a slice that came in, nil or not, empty or not.
-/
namespace Go.Proofs.Ytglbfknmeojfkaa
open Go.RowKit
set_option maxRecDepth 100000
set_option linter.unusedVariables false
set_option linter.unusedSimpArgs false
section
variable {P : Program} {w : World} {ob : List Blk}
end
section
variable {M : List Nat} {P : Program} {n0 : Nat} {ops : Array Oper} {W : World} {Q : Exit → Act → World → Prop} {rest : List Oper} {o : Oper} {E ob L0 : List Blk} {f : Nat → Value}
end

end Go.Proofs.Ytglbfknmeojfkaa
end

section
/-
  Steps: make of a slice, copy out of a string, unsafe.String of a block of the call's own. No condition of their own but the bounds that each theorem names.
-/
namespace Go.Proofs.Ytglbfknmeojfkaa
open Go.RowKit
set_option linter.unusedVariables false
set_option linter.unusedSimpArgs false

theorem freeze_drawn (w : World) (a : Addr) (m : Nat) : (w.freeze a m).drawn = w.drawn := by unfold World.freeze; split <;> rfl
theorem Own.freeze {M : List Nat} {W w : World} {x : Blk} {L : List Blk} (h : Own M W w (x :: L)) (m : Nat) : Own M W (w.freeze ⟨x.b, 0, none⟩ m) L := by
  have hne : ∀ k, k ≠ x.b → (w.freeze ⟨x.b, 0, none⟩ m).heap[k]? = w.heap[k]? := fun k hk => by
    unfold World.freeze
    split
    · rfl
    · simp only [Array.getElem?_modify]; rw [if_neg (Ne.symm hk)]
  have hsz : (w.freeze ⟨x.b, 0, none⟩ m).heap.size = w.heap.size := by unfold World.freeze; split <;> simp
  have ho : (w.freeze ⟨x.b, 0, none⟩ m).os = w.os ∧ (w.freeze ⟨x.b, 0, none⟩ m).tape = w.tape ∧ (w.freeze ⟨x.b, 0, none⟩ m).output = w.output := by unfold World.freeze; split <;> exact ⟨rfl, rfl, rfl⟩
  have hap := h.apart
  rw [List.map_cons, List.nodup_cons] at hap
  refine ⟨ho.1.trans h.os, ho.2.1.trans h.tape, ho.2.2.trans h.output, by rw [hsz]; exact h.size, by rw [freeze_drawn]; exact h.drawn, fun k hk hm => ?_, fun y hy => ?_, fun y hy => h.base y (List.mem_cons_of_mem _ hy), hap.2⟩
  · rw [hne k (fun e => by
      rcases h.base x List.mem_cons_self with h1 | h1
      · omega
      · exact hm (e ▸ h1))]
    exact h.kept k hk hm
  · rw [hne y.b (fun e => hap.1 (e ▸ List.mem_map_of_mem hy))]
    exact h.held y (List.mem_cons_of_mem _ hy)
section
variable {M : List Nat} {P : Program} {n0 : Nat} {ops : Array Oper} {W : World} {Q : Exit → Act → World → Prop} {rest : List Oper} {o : Oper} {L : List Blk} {f : Nat → Value}
/-- make([]T, l, c). -/
theorem s_make {t e : TypeId} {x y : Operand} {i : TypeInfo} {z : Value} {kl kc : IntKind} {l c : Int} (hw : want ops n0 f o = true) (ho : o.op = .makeSlice t x y) (hx : ev n0 f x = .int kl l) (hy : ev n0 f y = .int kc c)
    (ht : P.underlying t = some (.slice e)) (hi : P.info? e = some i) (hz : i.zero = some z) (h0 : 0 ≤ l) (hlc : l ≤ c) (hbytes : (i.bytes : Int) * c ≤ 281474976710656) (h63 : c ≤ 9223372036854775807)
    (h : ∀ b, Seg M P n0 ops W Q rest (⟨b, madeCells z.cells (c.toNat * i.size), e⟩ :: L) (upd f o.dst (.slice (some ⟨b, 0, none⟩) l.toNat c.toNat))) : Seg M P n0 ops W Q (o :: rest) L f :=
  s_step hw fun w hO => by
    refine wp_val _ (w' := w.alloc (.cells (madeCells z.cells (c.toNat * i.size)) e)) ?_ ((h w.heap.size).go _ (hO.alloc _ _))
    have hr := run_make (P := P) w t e i z ht hi hz kl kc l c h0 hlc hbytes h63
    unfold execOp
    simp only [ho, hx, hy, Sem.run_bind, Sem.run_pure, Result.andThen_ok, hr]
/-- copy(b, s): s a string, b a slice of the block at the head of the list, as long as s. -/
theorem s_copyS {t u e : TypeId} {x y : Operand} {b cap : Nat} {cs : Array Value} {T : TypeId} {s : ByteArray} (hw : want ops n0 f o = true) (ho : o.op = .call { callee := .builtin .copy, args := #[x, y], argTypes := #[t, u] })
    (hx : ev n0 f x = .slice (some ⟨b, 0, none⟩) s.size cap) (hy : ev n0 f y = .string s) (ht : P.underlying t = some (.slice e)) (hs : (P.info? e).map (·.size) = some 1) (hc : cs.size = s.size)
    (h : Seg M P n0 ops W Q rest (⟨b, (Lib.byteCells s.data.toList).toArray, T⟩ :: L) (upd f o.dst (goInt s.size))) : Seg M P n0 ops W Q (o :: rest) (⟨b, cs, T⟩ :: L) f :=
  s_step hw fun w hO => by
    have hr := Lib.run_copy_row_string (P := P) w t u o.type e b 0 s.size cap s cs T ht hs (hO.held _ List.mem_cons_self) (Nat.le_refl _) (by omega)
    have hcs : (cs.toList.take 0 ++ Lib.byteCells s.data.toList ++ cs.toList.drop (0 + s.size)).toArray = (Lib.byteCells s.data.toList).toArray := by
      rw [List.take_zero, List.nil_append, List.drop_of_length_le (by rw [Array.length_toList]; omega), List.append_nil]
    rw [hcs] at hr
    refine wp_val _ (w' := w.setRow b (Lib.byteCells s.data.toList).toArray) ?_ (h.go _ (hO.put (i := 0) (x := ⟨b, cs, T⟩) rfl _))
    unfold execOp
    simp only [ho, resolve, invoke, builtin, Sem.run_bind, Sem.run_pure, Result.andThen_ok, List.map_toArray, List.map_cons, List.map_nil, hx, hy, hr]
/-- unsafe.String(&b[0], len(b)): the block at the head of the list is given up. -/
theorem s_ustr {t u e : TypeId} {x y : Operand} {b : Nat} {s : ByteArray} (hw : want ops n0 f o = true) (ho : o.op = .call { callee := .builtin .unsafeString, args := #[x, y], argTypes := #[t, u] })
    (hx : ev n0 f x = .pointer (some ⟨b, 0, none⟩)) (hy : ev n0 f y = .int .i64 s.size) (ht : P.underlying t = some (.pointer e)) (hc : P.cellsOf e = 1) (hne : s.size ≠ 0) (h63 : s.size ≤ 9223372036854775807)
    (h : Seg M P n0 ops W Q rest L (upd f o.dst (.string s))) : Seg M P n0 ops W Q (o :: rest) (⟨b, (Lib.byteCells s.data.toList).toArray, e⟩ :: L) f :=
  s_step hw fun w hO => by
    have hg := hO.held _ List.mem_cons_self
    have hl : s.data.toList.length = s.size := by rw [← Lib.size_eq]
    have hr := Lib.run_unsafeString_row (P := P) w t u o.type e ht hc b s.size (by unfold World.shape?; simp only at hg; rw [hg]; simp [Lib.byteCells_length, hl]) s.data.toList (fun e => hne (by rw [← hl, e]; rfl)) (by omega) (by omega)
      (fun j x hx => by
        rw [add_off, cell_of_row w b (0 + j) _ e _ hg]
        simp [Lib.byteCells, hx])
    rw [hl] at hr
    refine wp_val _ (w' := w.freeze ⟨b, 0, none⟩ s.size) ?_ (h.go _ (hO.freeze s.size))
    unfold execOp
    simp only [ho, resolve, invoke, builtin, Sem.run_bind, Sem.run_pure, Result.andThen_ok, List.map_toArray, List.map_cons, List.map_nil, hx, hy, hr]
end

end Go.Proofs.Ytglbfknmeojfkaa
end

section
/-
  Steps: two results in two variables; a region whose ends are brought together; the rest of a slice that came in. No condition of their own.
-/
namespace Go.Proofs.Ytglbfknmeojfkaa
open Go.RowKit
set_option linter.unusedVariables false
set_option linter.unusedSimpArgs false
section
variable {M : List Nat} {P : Program} {n : Nat} {W : World} {Q : Exit → Act → World → Prop} {L : List Blk} {f : Nat → Value}
def JoinQ (M : List Nat) (n : Nat) (W : World) (R : List Blk → (Nat → Value) → Prop) : Exit → Act → World → Prop
  | .normal, a, w => ∃ L f, R L f ∧ Own M W w L ∧ a = Fr n f
  | _, _, _ => False
theorem pq_join {R : List Blk → (Nat → Value) → Prop} : PQ (JoinQ M n W R) := fun c a d v w h => h
theorem ok_join {c : Code} (R : List Blk → (Nat → Value) → Prop) (h1 : Ok M P n W (JoinQ M n W R) c L f) (h2 : ∀ L f, R L f → Fin M n W Q .normal L f) : Ok M P n W Q c L f := ⟨fun w hO =>
  Code.wp_mono (fun e a w h => by
    cases e with
    | normal =>
      obtain ⟨L', f', hR, hO', rfl⟩ := h
      exact (h2 L' f' hR).go w hO'
    | _ => exact absurd h id) (h1.go w hO)⟩
theorem fin_join {R : List Blk → (Nat → Value) → Prop} (h : R L f) : Fin M n W (JoinQ M n W R) .normal L f := ⟨fun w hO => ⟨L, f, h, hO, rfl⟩⟩
end
end Go.Proofs.Ytglbfknmeojfkaa
end

section
/-
  Steps: append(nil, make([]T, n)...); s[1:] of a slice that came in. No condition of their own but the bounds that each theorem names.
-/
namespace Go.Proofs.Ytglbfknmeojfkaa
open Go.RowKit
set_option linter.unusedVariables false
set_option linter.unusedSimpArgs false
section
variable {M : List Nat} {P : Program} {n0 : Nat} {ops : Array Oper} {W : World} {Q : Exit → Act → World → Prop} {rest : List Oper} {o : Oper} {L : List Blk} {f : Nat → Value}
end
end Go.Proofs.Ytglbfknmeojfkaa
end

section
/-
  Steps: a load out of a block that is somewhere in the list. No condition of their own.
-/
namespace Go.Proofs.Ytglbfknmeojfkaa
open Go.RowKit
set_option linter.unusedVariables false
section
variable {M : List Nat} {P : Program} {n : Nat} {ops : Array Oper} {W : World} {Q : Exit → Act → World → Prop} {rest : List Oper} {o : Oper} {L : List Blk} {f : Nat → Value} {Qe : List Blk → (Nat → Value) → Prop}
end

end Go.Proofs.Ytglbfknmeojfkaa
end

section
/-
  s[i:j] of a slice; its elements as a slice that came in. No condition of their own.
-/
namespace Go.Proofs.Ytglbfknmeojfkaa
open Go.RowKit
set_option maxRecDepth 100000
set_option linter.unusedVariables false
set_option linter.unusedSimpArgs false
theorem run_sl2 {P : Program} {ρ : Operand → Value} {o : Oper} {t e : TypeId} {x y z : Operand} {A : Option Addr} {b off n c sz : Nat} {k q : IntKind} {i j : Int} (ho : o.op = .slice t x (some y) (some z) none) (hx : ρ x = .slice A n c) (hA : A = some ⟨b, off, none⟩) (hy : ρ y = .int k i) (hz : ρ z = .int q j)
    (hu : P.underlying t = some (.slice e)) (hs : (P.info? e).map (·.size) = some sz) (h0 : 0 ≤ i) (h1 : i ≤ j) (h2 : j ≤ c) (w : World) : (execOp ρ o).run P w = .ok (.value (.slice (some ⟨b, off + (if c = i.toNat then 0 else i.toNat * sz), none⟩) (j.toNat - i.toNat) (c - i.toNat))) w := by
  subst hA
  cases he : P.info? e with
  | none => rw [he] at hs; cases hs
  | some u =>
    rw [he] at hs
    obtain rfl := Option.some.inj hs
    have h3 : 0 ≤ j := Int.le_trans h0 h1
    unfold execOp
    by_cases hc : c = i.toNat
    · simp [ho, hx, hy, hz, Instr.sliceAt, Instr.slice, Instr.sliceBounds, Instr.sliceBound, Sem.run_bind, asIntOf, run_underlying hu, h0, h1, h2, h3, sizeOf, typeInfo, he, add_off, hc]
      try (rw [if_pos (by omega), if_pos (by omega)])
    · simp [ho, hx, hy, hz, Instr.sliceAt, Instr.slice, Instr.sliceBounds, Instr.sliceBound, Sem.run_bind, asIntOf, run_underlying hu, h0, h1, h2, h3, sizeOf, typeInfo, he, add_off, hc]
      try (first | omega | (rw [if_pos (by omega), if_pos (by omega)]))
theorem Reads.one {α : Type} {g : α → List Value} {sz : Nat} (hg : ∀ x, (g x).length = sz) {w : World} {B b off c k : Nat} {A : Option Addr} {l : List α} (h : Reads g w B A l) (hA : A = some ⟨b, off, none⟩) (hk : k < l.length) (hc : l.length ≤ c) {i : Int} (hi : i.toNat = k) : Reads g w B (some ⟨b, off + (if c = i.toNat then 0 else i.toNat * sz), none⟩) [l[k]] := fun h0 => by
  subst hA hi
  obtain ⟨b', off', e, hlt, hcell⟩ := h (by omega)
  obtain ⟨rfl, rfl⟩ : b = b' ∧ off = off' := by simp at e; exact e
  refine ⟨b, _, rfl, hlt, fun j u hj => ?_⟩
  rw [if_neg (by omega)]
  have hj2 : (g l[i.toNat])[j]? = some u := by simpa using hj
  have hjs : j < sz := by have := (List.getElem?_eq_some_iff.1 hj2).1; rwa [hg] at this
  have h3 := flat_at hg l i.toNat hk
  rw [← h3, List.getElem?_take, if_pos hjs, List.getElem?_drop] at hj2
  have := hcell _ u hj2
  rw [show off + i.toNat * sz + j = off + (i.toNat * sz + j) from by omega]
  exact this
end Go.Proofs.Ytglbfknmeojfkaa
end

section
/-
  A load out of a slice that reads as a list. No condition of its own.
-/
namespace Go.Proofs.Ytglbfknmeojfkaa
open Go.RowKit
set_option linter.unusedVariables false
theorem Reads.load {P : Program} {α : Type} {g : α → List Value} {sz : Nat} (hg : ∀ x, (g x).length = sz) {ty : TypeId} {w : World} {B b off o : Nat} {A : Option Addr} {l : List α} (h : Reads g w B A l) (hA : A = some ⟨b, off, none⟩) (k fo : Nat) (hk : k < l.length) (ho : o = off + k * sz + fo) (v : Value)
    (hr : readAt P ty ((g l[k]).drop fo).toArray 0 = some v) : (loadVar ty ⟨b, o, none⟩).run P w = .ok v w := by
  subst hA
  obtain ⟨b', off', e, hlt, hcell⟩ := h (by omega)
  obtain ⟨rfl, rfl⟩ : b = b' ∧ off = off' := by simp at e; exact e
  exact elem_load hg hcell k fo hk ho v hr
end Go.Proofs.Ytglbfknmeojfkaa
end

section
/-
  Plain mathematics for chapter 1 (names, words, numbers, digits, pieces): Boolean and list functions on bytes that say what the functions of package ident and of the document's own answer compute. No program is named here.
-/
namespace Go.Proofs.Ytglbfknmeojfkaa
open Go.RowKit

/-! ### Letters and digits -/
def letB (r : Int) : Bool := decide (97 ≤ r ∧ r ≤ 122)
def digB (r : Int) : Bool := decide (48 ≤ r ∧ r ≤ 57)

/-! ### Names -/
def nameGo : Bool → Int → List UInt8 → Bool
  | _, last, [] => decide (last ≠ 45)
  | first, last, c :: r =>
    if letB c.toNat then nameGo false c.toNat r
    else if digB c.toNat then (if first then false else nameGo false c.toNat r)
    else if (c.toNat : Int) = 45 then (if last = 45 then false else nameGo false c.toNat r)
    else false
def nameB (s : ByteArray) : Bool := decide (s.size ≤ 16) && nameGo true 45 s.data.toList

theorem nameGo_let (f : Bool) (l : Int) (c : UInt8) (r : List UInt8) (h : letB c.toNat = true) : nameGo f l (c :: r) = nameGo false c.toNat r := by
  rw [nameGo, if_pos h]
theorem nameGo_dig (f : Bool) (l : Int) (c : UInt8) (r : List UInt8) (h : letB c.toNat = false) (h2 : digB c.toNat = true) : nameGo f l (c :: r) = if f then false else nameGo false c.toNat r := by
  rw [nameGo, if_neg (by simp [h]), if_pos h2]
theorem nameGo_dash (f : Bool) (l : Int) (c : UInt8) (r : List UInt8) (h : letB c.toNat = false) (h2 : digB c.toNat = false) (h3 : (c.toNat : Int) = 45) : nameGo f l (c :: r) = if l = 45 then false else nameGo false c.toNat r := by
  rw [nameGo, if_neg (by simp [h]), if_neg (by simp [h2]), if_pos h3]
theorem nameGo_else (f : Bool) (l : Int) (c : UInt8) (r : List UInt8) (h : letB c.toNat = false) (h2 : digB c.toNat = false) (h3 : ¬ (c.toNat : Int) = 45) : nameGo f l (c :: r) = false := by
  rw [nameGo, if_neg (by simp [h]), if_neg (by simp [h2]), if_neg h3]

/-- The reference's loop from the second byte on. -/
def nameRef : Int → List UInt8 → Bool
  | _, [] => true
  | last, c :: r => (letB c.toNat || digB c.toNat || decide ((c.toNat : Int) = 45)) && !(decide ((c.toNat : Int) = 45) && decide (last = 45)) && nameRef c.toNat r
def lastOf : Int → List UInt8 → Int
  | last, [] => last
  | _, c :: r => lastOf c.toNat r

theorem nameRef_ok (p : Int) (c : UInt8) (r : List UInt8) (h : (letB c.toNat || digB c.toNat || decide ((c.toNat : Int) = 45)) = true) (h2 : (decide ((c.toNat : Int) = 45) && decide (p = 45)) = false) : nameRef p (c :: r) = nameRef c.toNat r := by
  rw [nameRef, h, h2]; rfl
theorem nameRef_bad (p : Int) (c : UInt8) (r : List UInt8) (h : (letB c.toNat || digB c.toNat || decide ((c.toNat : Int) = 45)) = false) : nameRef p (c :: r) = false := by
  rw [nameRef, h]; rfl
theorem nameRef_two (p : Int) (c : UInt8) (r : List UInt8) (h : (c.toNat : Int) = 45) (h2 : p = 45) : nameRef p (c :: r) = false := by
  rw [nameRef]; simp [h, h2]
theorem nameGo_ref (l : List UInt8) : ∀ last : Int, nameGo false last l = (nameRef last l && decide (lastOf last l ≠ 45)) := by
  induction l with
  | nil => intro last; by_cases h : last = 45 <;> simp [nameGo, nameRef, lastOf, h]
  | cons c r ih =>
    intro last
    unfold nameGo nameRef lastOf
    rw [ih]
    by_cases h1 : letB c.toNat = true
    · have hc : ¬ (c.toNat : Int) = 45 := by unfold letB at h1; simp at h1; omega
      simp [h1, hc]
    · by_cases h2 : digB c.toNat = true
      · have hc : ¬ (c.toNat : Int) = 45 := by unfold digB at h2; simp at h2; omega
        simp [h1, h2, hc]
      · by_cases h3 : (c.toNat : Int) = 45
        · have e1 : letB 45 = false := by decide
          have e2 : digB 45 = false := by decide
          by_cases h4 : last = 45 <;> simp [h3, h4, e1, e2]
        · simp [h1, h2, h3]

theorem drop_cons (s : ByteArray) (k : Nat) (h : k < s.size) : s.data.toList.drop k = s[k] :: s.data.toList.drop (k + 1) := by
  rw [List.drop_eq_getElem_cons (by simpa using h)]; rfl
theorem drop_end (s : ByteArray) (k : Nat) (h : ¬ k < s.size) : s.data.toList.drop k = [] := by
  rw [List.drop_eq_nil_iff]; simp; omega

theorem lastOf_get (s : ByteArray) (h : 0 < s.size) : lastOf (s[0].toNat : Int) (s.data.toList.drop 1) = (s[s.size - 1].toNat : Int) := by
  have gen : ∀ (n k : Nat) (hk : k < s.size), k + n + 1 = s.size → lastOf (s[k].toNat : Int) (s.data.toList.drop (k + 1)) = (s[s.size - 1].toNat : Int) := by
    intro n
    induction n with
    | zero =>
      intro k hk e
      rw [drop_end s (k + 1) (by omega)]
      have : k = s.size - 1 := by omega
      subst this
      rfl
    | succ n ih =>
      intro k hk e
      rw [drop_cons s (k + 1) (by omega)]
      exact ih (k + 1) (by omega) (by omega)
  exact gen (s.size - 1) 0 h (by omega)

theorem nameB_ref (s : ByteArray) (h : 0 < s.size) (h16 : s.size ≤ 16) :
    nameB s = (letB s[0].toNat && !(decide ((s[s.size - 1].toNat : Int) = 45)) && nameRef s[0].toNat (s.data.toList.drop 1)) := by
  unfold nameB
  have e : s.data.toList = s[0] :: s.data.toList.drop 1 := by have := drop_cons s 0 h; simpa using this
  rw [e]
  unfold nameGo
  rw [nameGo_ref, ← e, lastOf_get s h]
  by_cases h1 : letB s[0].toNat = true
  · simp [h1, h16, Bool.and_comm]
  · by_cases h2 : digB s[0].toNat = true <;> simp [h1, h2, h16]

/-! ### Words -/
def wordGo : List UInt8 → Bool
  | [] => true
  | c :: r => (letB c.toNat || digB c.toNat || decide ((c.toNat : Int) = 95)) && wordGo r
def wdB (r : Int) : Bool := letB r || digB r || decide (r = 95)
theorem wordGo_ok (c : UInt8) (r : List UInt8) (h : wdB c.toNat = true) : wordGo (c :: r) = wordGo r := by
  unfold wdB at h
  rw [wordGo, h]; rfl
theorem wordGo_bad (c : UInt8) (r : List UInt8) (h : wdB c.toNat = false) : wordGo (c :: r) = false := by
  unfold wdB at h
  rw [wordGo, h]; rfl
def wordB (s : ByteArray) : Bool := decide (1 ≤ s.size ∧ s.size ≤ 12) && wordGo s.data.toList

end Go.Proofs.Ytglbfknmeojfkaa
end

section
/-
  Small contracts and facts that many texts need: digit of package ident and of the document's own answer. Conditions: none.
-/
namespace Go.Proofs.Ytglbfknmeojfkaa
open Go.RowKit

theorem ret_bool {a b : Bool} (h : a = b) : Ending.returned (.bool a) = .returned (.bool b) := by rw [h]

theorem ret_int {k : IntKind} {a b : Int} (h : a = b) : Ending.returned (.int k a) = .returned (.int k b) := by rw [h]

theorem letB_hi (n : Nat) (h : 128 ≤ n) : letB n = false := by unfold letB; simp; omega
theorem digB_hi (n : Nat) (h : 128 ≤ n) : digB n = false := by unfold digB; simp; omega
theorem letB_hi8 (c : UInt8) (h : 128 ≤ c.toNat) : letB c.toNat = false := letB_hi _ h
theorem digB_hi8 (c : UInt8) (h : 128 ≤ c.toNat) : digB c.toNat = false := digB_hi _ h
theorem beq_int_false {a b : Int} (h : ¬ a = b) : (a == b) = false := by simpa using h
theorem nameGo_hi (f : Bool) (l : Int) (c : UInt8) (r : List UInt8) (h : 128 ≤ c.toNat) : nameGo f l (c :: r) = false := by
  unfold nameGo
  rw [letB_hi8 c h, digB_hi8 c h]
  simp; omega

theorem below_iter (w : World) (s : ByteArray) (pos : Nat) : Below w.heap.size w (w.iter s pos) := (Below.refl _ w).alloc (Nat.le_refl _) _

theorem digit_is (r : Int) (b : Bool) (hb : digB r = b) (w : World) :
    Calls Try.prog 51 #[.int .i32 r] w fun e w' => e = .returned (.bool b) ∧ w = w' := by
  subst hb
  unfold digB
  go_enter Try.func51, Try.ntmps51
  go_wp2
  all_goals go_ret
  all_goals exact ⟨ret_bool (by simp; try omega), rfl⟩

theorem rdigit_is (r : Int) (b : Bool) (hb : digB r = b) (w : World) :
    Calls Try.prog 56 #[.int .u8 r] w fun e w' => e = .returned (.bool b) ∧ w = w' := by
  subst hb
  unfold digB
  go_enter Try.func56, Try.ntmps56
  go_wp2
  all_goals go_ret
  all_goals exact ⟨ret_bool (by simp; try omega), rfl⟩

theorem below_drewN {B : Nat} {a w : World} (h : Below B a w) (n : Nat) : Below B a (w.drewN n) := ⟨h.os, h.tape, h.output, h.size, Nat.le_trans h.drawn (Nat.le_add_right _ _), h.block⟩
end Go.Proofs.Ytglbfknmeojfkaa
end

section
/-
  Plain mathematics for chapter 1: how many bytes the first rune of a string takes; the pieces of a string at a byte, and what joins them again.
-/
namespace Go.Proofs.Ytglbfknmeojfkaa
open Go.RowKit

/-! ### Pieces -/
def splitL (b : UInt8) : List UInt8 → List UInt8 → List (List UInt8)
  | acc, [] => [acc]
  | acc, c :: r => if c = b then acc :: splitL b [] r else splitL b (acc ++ [c]) r
def joinL (b : UInt8) : List (List UInt8) → List UInt8
  | [] => []
  | [x] => x
  | x :: y :: r => x ++ b :: joinL b (y :: r)

theorem splitL_ne (b : UInt8) (l : List UInt8) : ∀ acc, splitL b acc l ≠ [] := by
  induction l with
  | nil => intro acc; simp [splitL]
  | cons c r ih => intro acc; unfold splitL; split <;> simp [ih]
theorem split_le (b : UInt8) (l : List UInt8) : ∀ acc, ∀ x ∈ splitL b acc l, x.length ≤ acc.length + l.length := by
  induction l with
  | nil => intro acc x hx; simp [splitL] at hx; subst hx; simp
  | cons c r ih =>
    intro acc x hx
    unfold splitL at hx
    by_cases h : c = b
    · rw [if_pos h] at hx
      rcases List.mem_cons.1 hx with rfl | hx
      · omega
      · have := ih [] x hx; simp at this ⊢; omega
    · rw [if_neg h] at hx
      have := ih (acc ++ [c]) x hx
      simp at this ⊢; omega
end Go.Proofs.Ytglbfknmeojfkaa
end

section
/-
  The document's own answer's Split: for every string of at most a million bytes and every byte it returns a new slice of the pieces that splitL names; nothing that was there is changed.
-/
namespace Go.Proofs.Ytglbfknmeojfkaa
open Go.RowKit

theorem infoStr : (Try.prog.info? 9).map (fun i => (i.zero, i.size, i.bytes)) = some (some (.string ByteArray.empty), 1, 16) := by kernel_rfl
def mkS (l : List UInt8) : ByteArray := ⟨l.toArray⟩
def strV (l : List (List UInt8)) : List Value := l.map fun x => .string (mkS x)
theorem strV_snoc (l : List (List UInt8)) (x : List UInt8) : strV (l ++ [x]) = strV l ++ [.string (mkS x)] := by unfold strV; rw [List.map_append]; rfl
theorem strV_length (l : List (List UInt8)) : (strV l).length = l.length := by unfold strV; rw [List.length_map]
theorem extract_mk (s : ByteArray) (f k : Nat) : s.extract f k = mkS ((s.data.toList.drop f).take (k - f)) := by
  unfold mkS
  apply ByteArray.ext
  apply Array.toList_inj.1
  rw [ByteArray.data_extract, Array.toList_extract, List.toList_toArray, List.extract_eq_take_drop]

theorem take_more (s : ByteArray) (f k : Nat) (hf : f ≤ k) (h : k < s.size) : (s.data.toList.drop f).take (k + 1 - f) = (s.data.toList.drop f).take (k - f) ++ [s[k]] := by
  rw [show k + 1 - f = k - f + 1 from by omega, List.take_succ_eq_append_getElem (by simp; omega)]
  congr 1
  simp [show f + (k - f) = k from by omega]
  rfl
theorem split_hit (b c : UInt8) (acc r : List UInt8) (h : c = b) : splitL b acc (c :: r) = acc :: splitL b [] r := by rw [splitL, if_pos h]
theorem split_miss (b c : UInt8) (acc r : List UInt8) (h : ¬ c = b) : splitL b acc (c :: r) = splitL b (acc ++ [c]) r := by rw [splitL, if_neg h]

def piecesOf (s : ByteArray) (b : UInt8) : List (List UInt8) := splitL b [] s.data.toList

set_option maxHeartbeats 2000000 in
theorem rsplit_any (s : ByteArray) (b : UInt8) (w : World) (hs : s.size ≤ 1000000) :
    Calls Try.prog 32 #[.string s, .int .u8 b.toNat] w fun e w' => ∃ v, e = .returned v ∧ w'.ownsRow w.heap.size 9 1 v (piecesOf s b).length (strV (piecesOf s b)) ∧ Below w.heap.size w w' := by
  obtain ⟨i0, hi, hz0, hz1, hz2⟩ := info_parts infoStr
  go_enter Try.func32, Try.ntmps32
  go_wp2
  go_loopw [5, 6, 7] (fun v fv iv wr => ∃ (k f : Nat) (P : List (List UInt8)), iv = .int .i64 k ∧ fv = .int .i64 f ∧ f ≤ k ∧ k ≤ s.size ∧ P.length ≤ k ∧ wr.ownsRow w.heap.size 9 1 v P.length (strV P) ∧ Below w.heap.size w wr ∧ Hid (P ++ splitL b ((s.data.toList.drop f).take (k - f)) (s.data.toList.drop k) = piecesOf s b)) (fun _ _ iv _ => s.size - (intOf iv).toNat)
  case atStart => exact ⟨0, 0, [], rfl, rfl, Nat.le_refl _, Nat.zero_le _, Nat.zero_le _, ⟨rfl, Or.inl ⟨rfl, rfl⟩⟩, Below.refl _ _, rfl⟩
  case round =>
    obtain ⟨k, f, P, rfl, rfl, hfk, hk, hP, hown, hb, HR⟩ := hrel
    have hsz := hb.size
    by_cases hp : k < s.size
    · have HD := Lib.hid (drop_cons s k hp)
      by_cases hc : s[k] = b
      · have HC := Lib.hid hc
        have hcb : ((s[k].toNat : Int) == (b.toNat : Int)) = true := by rw [hc]; simp
        clear hc
        go_wp2_with (at_builtin; refine wpList_append_own _ rfl _ _ 30 rfl w.heap.size 9 i0 (.string ByteArray.empty) 1 16 Try.underlying30 hi hz0 hz1 hz2 rfl (by decide) _ _ _ rfl (hown.alloc _) ⟨wr.heap.size, 0, none⟩ 1 1 [.string (s.extract f k)] rfl rfl ?c1 ?c2 ?c3 ?c4 ?c5 ?_)
        case c1 =>
          intro j u hj
          match j, hj with
          | 0, hj => simp at hj; subst hj; simp [Addr.add]
        case c2 => intro u hu; simp at hu; subst hu; rfl
        case c3 => unfold maxLen; omega
        case c4 => omega
        case c5 => simp; omega
        intro v' w2 hown' hgrow _
        go_wp2
        go_roundw
        case rel =>
          refine ⟨k + 1, k + 1, P ++ [(s.data.toList.drop f).take (k - f)], by go_num, by go_num, Nat.le_refl _, by omega, by simp; omega, ?_, (hb.alloc hsz _).grown hgrow (by simp; omega) (fun k hk => (hown.lt k hk).1), ?_⟩
          · rw [strV_snoc, ← extract_mk, List.length_append]; exact hown'
          · show _ = _
            rw [← HR.out, HD.out, split_hit _ _ _ _ HC.out, List.append_assoc, Nat.sub_self, List.take_zero]; rfl
        case measure => simp [intOf]; omega
      · have hcb : ((s[k].toNat : Int) == (b.toNat : Int)) = false := beq_int_false (fun e => hc (UInt8.toNat_inj.1 (by omega)))
        go_wp2
        go_roundw
        case rel => exact ⟨k + 1, f, P, by go_num, rfl, by omega, by omega, by omega, hown, hb, by show _ = _; rw [← HR.out, HD.out, split_miss _ _ _ _ hc, take_more s f k hfk hp]⟩
        case measure => simp [intOf]; omega
    · have hk2 : k = s.size := by omega
      have HD := Lib.hid (drop_end s k hp)
      have HE : Hid (P ++ [(s.data.toList.drop f).take (s.size - f)] = piecesOf s b) := by
        show _ = _
        rw [← HR.out, HD.out, hk2]; rfl
      clear hk2
      go_wp2_with (at_builtin; refine wpList_append_own _ rfl _ _ 30 rfl w.heap.size 9 i0 (.string ByteArray.empty) 1 16 Try.underlying30 hi hz0 hz1 hz2 rfl (by decide) _ _ _ rfl (hown.alloc _) ⟨wr.heap.size, 0, none⟩ 1 1 [.string (s.extract f s.size)] rfl rfl ?c1 ?c2 ?c3 ?c4 ?c5 ?_)
      case c1 =>
        intro j u hj
        match j, hj with
        | 0, hj => simp at hj; subst hj; simp [Addr.add]
      case c2 => intro u hu; simp at hu; subst hu; rfl
      case c3 => unfold maxLen; omega
      case c4 => omega
      case c5 => simp; omega
      intro v' w2 hown' hgrow _
      go_wp2
      go_ret
      refine ⟨v', rfl, ?_, (hb.alloc hsz _).grown hgrow (by simp; omega) (fun k hk => (hown.lt k hk).1)⟩
      rw [← HE.out, strV_snoc, ← extract_mk, List.length_append]; exact hown'
end Go.Proofs.Ytglbfknmeojfkaa
end

section
/-
  Steps and facts that all chapters share: strings as lists of bytes, lists of blocks in another order, slices of strings. No condition of their own.
-/
namespace Go.Proofs.Ytglbfknmeojfkaa
open Go.RowKit
set_option linter.unusedVariables false
set_option linter.unusedSimpArgs false

theorem mk_data (t : List UInt8) : (mkS t).data.toList = t := by unfold mkS; simp
theorem mkS_sz (t : List UInt8) : (mkS t).size = t.length := by unfold mkS; simp [ByteArray.size]
theorem mkS_append (a b : List UInt8) : mkS a ++ mkS b = mkS (a ++ b) := by
  unfold mkS; apply ByteArray.ext; simp
theorem mkS_size (a : List UInt8) : (mkS a).size = a.length := by unfold mkS; simp [ByteArray.size]
theorem Own.sublist {M : List Nat} {W w : World} {L L' : List Blk} (h : Own M W w L) (hs : List.Sublist L' L) : Own M W w L' := h.take (fun x hx => hs.subset hx) (h.apart.sublist (hs.map _))
theorem Own.lend {M : List Nat} {W w : World} {L : List Blk} (h : Own M W w L) : Own (L.map Blk.b) w w L :=
  ⟨rfl, rfl, rfl, Nat.le_refl _, Nat.le_refl _, fun _ _ _ => rfl, h.held, fun x hx => .inr (List.mem_map.2 ⟨x, hx, rfl⟩), h.apart⟩
section
variable {M : List Nat} {P : Program} {n : Nat} {ops : Array Oper} {W : World} {Q : Exit → Act → World → Prop} {L0 L : List Blk} {f : Nat → Value} {fuel : Nat} {listed : Array Bool} {rest : List Oper} {o : Oper}
theorem s_callo {k : FuncId} {args : Array Value} (R : Value → List Blk → Prop) (hw : want ops n f o = true) (he : ∀ w, (execOp (ev n f) o).run P w = .ok (.enter k args) w)
    (hc : ∀ w, Own M W w L → Calls P k args w fun e w' => ∃ v L', e = .returned v ∧ R v L' ∧ Own M W w' L') (h : ∀ v L', R v L' → Seg M P n ops W Q rest L' (upd f o.dst v)) : Seg M P n ops W Q (o :: rest) L f :=
  s_step hw fun w hO => wp_enter (he w) ((hc w hO).mono fun e w' ⟨v, L', e1, e2, e3⟩ => ⟨v, e1, (h v L' e2).go w' e3⟩)
theorem Own.perm {w : World} {L' : List Blk} (h : Own M W w L) (hp : L.Perm L') : Own M W w L' :=
  h.take (fun x hx => hp.mem_iff.2 hx) ((hp.map Blk.b).nodup_iff.1 h.apart)
end
/-- The value v is a slice of the strings l that lies in ob. -/
def SlT (v : Value) (l : List (List UInt8)) (ob : List Blk) : Prop := Sl 9 1 v l.length (strV l) ob
theorem SlT.form {v : Value} {l : List (List UInt8)} {ob : List Blk} (h : SlT v l ob) : ∃ A cap, v = .slice A l.length cap := by
  rcases h.2 with ⟨h1, h2, _⟩ | ⟨g, cap, cur, h1, _⟩
  · exact ⟨none, 0, by rw [h1, h2]⟩
  · exact ⟨_, _, h1⟩
theorem Own.row {w w' : World} {T sz n : Nat} {v : Value} {xs : List Value} (h : w'.ownsRow w.heap.size T sz v n xs) (hb : Below w.heap.size w w') : ∃ ob, Sl T sz v n xs ob ∧ Own [] w w' ob := by
  rcases h.2 with ⟨h1, h2⟩ | ⟨g, cap, cur, h1, h2, h3, h4, h5, h6, h7⟩
  · exact ⟨[], ⟨h.1, .inl ⟨h1, h2, rfl⟩⟩, ⟨hb.os, hb.tape, hb.output, hb.size, hb.drawn, fun k hk _ => hb.block k hk, by simp, by simp, by simp⟩⟩
  · refine ⟨[⟨g, cur, T⟩], ⟨h.1, .inr ⟨g, cap, cur, h1, rfl, h4, h5, h6, h7⟩⟩, ⟨hb.os, hb.tape, hb.output, hb.size, hb.drawn, fun k hk _ => hb.block k hk, ?_, ?_, by simp⟩⟩
    · intro x hx
      rw [List.mem_singleton.1 hx]; exact h3
    · intro x hx
      rw [List.mem_singleton.1 hx]; exact .inl h2
def strC (x : List UInt8) : List Value := [.string (mkS x)]
theorem strC_len (x : List UInt8) : (strC x).length = 1 := rfl
theorem strV_flat : ∀ (l : List (List UInt8)), strV l = l.flatMap strC
  | [] => rfl
  | x :: l => by
    show Value.string (mkS x) :: strV l = [Value.string (mkS x)] ++ l.flatMap strC
    rw [strV_flat l]; rfl
theorem SlT.reads {A : Option Addr} {n cap : Nat} {l : List (List UInt8)} {ob L : List Blk} {M : List Nat} {W w : World} (h : SlT (.slice A n cap) l ob) (hn : l.length = n) (hO : Own M W w L) (hs : ∀ x ∈ ob, x ∈ L) : Reads strC w w.heap.size A l := by
  subst hn
  unfold SlT at h
  rw [strV_flat] at h
  exact Sl.reads h rfl hO hs
theorem slt_lit (l : List (List UInt8)) (b : Nat) (cur : Array Value) (h : cur.toList = strV l) (hm : l.length ≤ maxLen) : SlT (.slice (some ⟨b, 0, none⟩) l.length l.length) l [⟨b, cur, 9⟩] := by
  have hc : cur.toList.length = l.length := by rw [h, strV_length]
  refine ⟨by rw [strV_length]; omega, .inr ⟨b, l.length, cur, rfl, rfl, Nat.le_refl _, hm, by rw [← Array.length_toList, hc]; omega, ?_⟩⟩
  rw [h]
  exact List.take_of_length_le (by rw [strV_length]; omega)
theorem strInfo : (Try.prog.info? 9).map (fun i => (i.zero.map (·.cells.size), i.size, i.bytes)) = some (some 1, 1, 16) := by kernel_rfl
theorem str_info : ∃ i z, Try.prog.info? 9 = some i ∧ i.zero = some z ∧ i.size = 1 ∧ z.cells.size = 1 ∧ i.bytes = 16 := by
  have h := strInfo
  cases hi : Try.prog.info? 9 with
  | none => rw [hi] at h; cases h
  | some i =>
    rw [hi] at h
    simp only [Option.map_some, Option.some.injEq, Prod.mk.injEq] at h
    cases hz : i.zero with
    | none => rw [hz] at h; simp at h
    | some z => rw [hz] at h; simp at h; exact ⟨i, z, rfl, hz, h.2.1, h.1, h.2.2⟩
theorem Sl.to {T : TypeId} {sz : Nat} {v : Value} {n n' : Nat} {xs xs' : List Value} {ob : List Blk} (h : Sl T sz v n xs ob) (e : n = n') (e' : xs = xs') : Sl T sz v n' xs' ob := by subst e; subst e'; exact h
theorem Sl.form {T sz n : Nat} {v : Value} {xs : List Value} {ob : List Blk} (h : Sl T sz v n xs ob) : ∃ A cap, v = .slice A n cap := by
  rcases h.2 with ⟨h1, h2, _⟩ | ⟨g, cap, cur, h1, _⟩
  · exact ⟨none, 0, by rw [h1, h2]⟩
  · exact ⟨_, _, h1⟩
theorem SlT.add {u : Value} {l : List (List UInt8)} {x : List UInt8} {ob : List Blk} (h : Sl 9 1 u (l.length + 1) (strV l ++ strC x) ob) : SlT u (l ++ [x]) ob :=
  Sl.to h (by simp) (by unfold strV; rw [List.map_append]; rfl)
def EqOk (P : Program) (d : Nat) (xs ys : Array Value) : List Field → List Bool → Prop
  | [], [] => True
  | f :: fs, b :: bs => f.name ≠ "_" ∧ (∃ u v, ∀ w, (part f.type xs f.offset).run P w = .ok u w ∧ (part f.type ys f.offset).run P w = .ok v w ∧ (Op.equalIn d f.type u v).run P w = .ok b w) ∧ EqOk P d xs ys fs bs
  | _, _ => False
theorem str_beq (a b : List UInt8) : ((mkS a).toList == (mkS b).toList) = decide (a = b) := by
  rw [Lib.toList_data, Lib.toList_data, mk_data, mk_data]
  by_cases h : a = b
  · subst h; simp
  · rw [decide_eq_false h]; simpa using h
theorem guard_str {P : Program} {op : BinOp} {t : TypeId} {x y : Operand} {a b : ByteArray} (w : World) : (eqGuard op t x y (.string a) (.string b)).run P w = .ok () w := by cases op <;> simp [eqGuard]
theorem run_streql {P : Program} {ρ : Operand → Value} {o : Oper} {t t' : TypeId} {x y : Operand} {a b : List UInt8} {r : Bool} (ho : o.op = .binOp .eql t x y t') (hx : ρ x = .string (mkS a)) (hy : ρ y = .string (mkS b)) (h : decide (a = b) = r) (w : World) : (execOp ρ o).run P w = .ok (.value (.bool r)) w := by
  unfold execOp
  simp only [ho, hx, hy, Sem.run_bind, guard_str, Result.andThen_ok, binOp_string_eql, Sem.run_pure, str_beq, h]
theorem binOp_string_neq' (t : TypeId) (a b : ByteArray) : binOp .neq t (.string a) (.string b) = pure (.bool (!(a.toList == b.toList))) := by simp [binOp, Op.stringOp]
theorem run_strneq {P : Program} {ρ : Operand → Value} {o : Oper} {t t' : TypeId} {x y : Operand} {a b : List UInt8} {r : Bool} (ho : o.op = .binOp .neq t x y t') (hx : ρ x = .string (mkS a)) (hy : ρ y = .string (mkS b)) (h : decide (a = b) = r) (w : World) : (execOp ρ o).run P w = .ok (.value (.bool (!r))) w := by
  unfold execOp
  simp only [ho, hx, hy, Sem.run_bind, guard_str, Result.andThen_ok, binOp_string_neq', Sem.run_pure, str_beq, h]
end Go.Proofs.Ytglbfknmeojfkaa
end

section
/-
  Steps that go on in the world as it then is, as a new entry world: calls that hand back what reads there, loops whose rounds carry the world. No condition of its own.
-/
namespace Go.Proofs.Ytglbfknmeojfkaa
open Go.RowKit
set_option linter.unusedVariables false
set_option linter.unusedSimpArgs false

section
variable {M : List Nat} {P : Program} {n : Nat} {ops : Array Oper} {W : World} {Q : Exit → Act → World → Prop} {L : List Blk} {f : Nat → Value} {rest : List Oper} {o : Oper}
/-- A call after which the walk goes on in the world that it leaves. -/
theorem s_callW {k : FuncId} {args : Array Value} (R : Value → World → Prop) (hw : want ops n f o = true) (he : ∀ w, (execOp (ev n f) o).run P w = .ok (.enter k args) w)
    (hc : ∀ w, Own M W w L → Calls P k args w fun e w' => ∃ v, e = .returned v ∧ R v w' ∧ Below w.heap.size w w') (h : ∀ v w', R v w' → Own M W w' L → Seg [] P n ops w' Q rest [] (upd f o.dst v)) : Seg M P n ops W Q (o :: rest) L f :=
  s_step hw fun w hO => wp_enter (he w) ((hc w hO).mono fun e w' ⟨v, e1, e2, e3⟩ => ⟨v, e1, (h v w' e2 (hO.on e3)).go w' (Own.start [] w')⟩)
/-- A loop: what holds at each round's head, of the world, the frame and a number that each round lowers. -/
def RoundW (n : Nat) (Inv : World → (Nat → Value) → Nat → Prop) (m : Nat) (Q : Exit → Act → World → Prop) : Exit → Act → World → Prop :=
  Exit.then (fun a w => ∃ f m', m' < m ∧ Inv w f m' ∧ a = Fr n f) Q
theorem ok_loopW {c : Code} (Inv : World → (Nat → Value) → Nat → Prop) (m : Nat) (h0 : ∀ w, Own M W w L → Inv w f m) (h : ∀ w f m, Inv w f m → Ok [] P n w (RoundW n Inv m Q) c [] f) : Ok M P n W Q (.loop c) L f := ⟨fun w hO => by
  intro b k cs
  have run : ∀ (m : Nat) (f : Nat → Value) (w : World), Inv w f m → ∃ e a' w', Q e a' w' ∧ Arrives P (lone (b.at (Fr n f) (.code c :: .inLoop c :: k)) cs w) b k cs e a' w' := by
    intro m
    induction m using Nat.strongRecOn with
    | _ m ih =>
      intro f w hI
      obtain ⟨e, a₁, w₁, hq, harr⟩ := (h w f m hI).go w (Own.start [] w) b (.inLoop c :: k) cs
      cases e with
      | normal =>
        obtain ⟨f', m', hlt, hI', rfl⟩ := hq
        obtain ⟨e₂, a₂, w₂, hq₂, harr₂⟩ := ih m' hlt f' w₁ hI'
        exact ⟨e₂, a₂, w₂, hq₂, .of_steps (Steps.trans harr (.one step_inLoop)) harr₂⟩
      | exit id => exact ⟨_, a₁, w₁, hq, .pass (x := .inLoop c) rfl (fun _ _ => .inl (by simp)) harr⟩
      | goto l => exact ⟨_, a₁, w₁, hq, .pass (x := .inLoop c) rfl (fun _ _ => .inl (by simp)) harr⟩
      | ret => exact ⟨_, a₁, w₁, hq, .pass (x := .inLoop c) rfl (fun _ _ => .inl (by simp)) harr⟩
      | panic ch => exact ⟨_, a₁, w₁, hq, .pass (x := .inLoop c) rfl (fun _ _ => .inl (by simp)) harr⟩
      | outgrown => exact ⟨_, a₁, w₁, hq, .pass (x := .inLoop c) rfl (fun _ _ => .inl (by simp)) harr⟩
  obtain ⟨e, a', w', hq, harr⟩ := run m f w (h0 w hO)
  exact ⟨e, a', w', hq, .of_steps (.one step_loop) harr⟩⟩
theorem fin_roundW {Inv : World → (Nat → Value) → Nat → Prop} {m m' : Nat} (hlt : m' < m) (hI : ∀ w, Own M W w L → Inv w f m') : Fin M n W (RoundW n Inv m Q) .normal L f := ⟨fun w hO => ⟨f, m', hlt, hI w hO, rfl⟩⟩
theorem fin_roundW_ret {Inv : World → (Nat → Value) → Nat → Prop} {m : Nat} (h : Fin M n W Q .ret L f) : Fin M n W (RoundW n Inv m Q) .ret L f := ⟨h.go⟩
theorem fin_roundW_exit {Inv : World → (Nat → Value) → Nat → Prop} {m id : Nat} (h : Fin M n W Q (.exit id) L f) : Fin M n W (RoundW n Inv m Q) (.exit id) L f := ⟨h.go⟩
end
/-- A slice of strings that reads in a world as it is; none of it stands at no place with room. -/
structure RdT (w : World) (v : Value) (l : List (List UInt8)) : Prop where
  ex : ∃ A cap, v = .slice A l.length cap ∧ Reads strC w w.heap.size A l ∧ (A = none → cap = 0)
end Go.Proofs.Ytglbfknmeojfkaa
end

section
/-
  Regions that draw their order: the first m operations in each order, the others behind them one by one. No condition of its own.
-/
namespace Go.Proofs.Ytglbfknmeojfkaa
open Go.RowKit
set_option linter.unusedVariables false
set_option linter.unusedSimpArgs false

section
variable {P : Program} {md : Region.Mode} {l : List Oper} {m : Nat}
theorem upon_then {o : Oper} {a : Act} {K K' : Act → World → Prop} {Q : Exit → Act → World → Prop} {r : Result Next} : o.upon P a K (Exit.then K' Q) r = o.upon P a K Q r := by
  cases r with
  | ok x w => cases x <;> rfl
  | halt x w => cases x <;> rfl
theorem wpOp_take (hp : PreOk md l m) {Q : Exit → Act → World → Prop} {K' : Act → World → Prop} {i : Nat} (hi : i < m) {K : Act → World → Prop} {a : Act} {w : World} (h : wpOp P (l.take m).toArray (Exit.then K' Q) i K a w) : wpOp P l.toArray Q i K a w := by
  unfold wpOp at h ⊢
  rw [take_at hi] at h
  cases ho : l.toArray[i]? with
  | none => rw [ho] at h; exact h
  | some o =>
    rw [ho] at h
    have ho' : l[i]? = some o := by simpa using ho
    dsimp only at h ⊢
    rw [want_take hp hi ho'] at h
    split
    · rename_i hw
      rw [if_pos hw] at h
      unfold Oper.wp at h ⊢
      rw [upon_then] at h
      exact h
    · rename_i hw
      rw [if_neg hw] at h
      exact h
theorem any_comp (hp : PreOk md l m) {Q : Exit → Act → World → Prop} {K' : Act → World → Prop} {g : Nat} (H : ∀ (fuel : Nat) (listed : Array Bool) (a : Act) (w : World), g ≤ fuel → Upto l.length m listed → K' a w → wpAny P md l.toArray Q fuel listed a w) :
    ∀ (fuel : Nat) (listed' listed : Array Bool) (a : Act) (w : World), Part l.length m listed' listed → wpAny P md (l.take m).toArray (Exit.then K' Q) fuel listed' a w → wpAny P md l.toArray Q (fuel + g) listed a w := by
  have full : ∀ (listed' listed : Array Bool), Part l.length m listed' listed → (¬ ∃ i, i < m ∧ listed'.getD i true = false) → Upto l.length m listed := by
    intro listed' listed h hno
    refine ⟨h.size, fun i hi => ?_⟩
    by_cases him : i < m
    · rw [h.same i him, decide_eq_true him]
      obtain ⟨b, e⟩ := h.get him
      rw [e]
      cases b with
      | true => rfl
      | false => exact absurd ⟨i, him, by rw [Array.getD_eq_getD_getElem?, e]; rfl⟩ hno
    · rw [decide_eq_false him]; exact h.rest i (by omega) hi
  have some_ready : ∀ (listed' listed : Array Bool), Part l.length m listed' listed → (∃ i, i < m ∧ listed'.getD i true = false) → ∃ k, k < m ∧ k ∈ Region.ready md l.toArray listed := by
    intro listed' listed h hun
    obtain ⟨k, hk, hf, hall⟩ := least_false (fun i => listed'.getD i true) m hun
    refine ⟨k, hk, (part_ready hp h hk).2 (mem_ready.2 ⟨hf, l[k]'(by have := hp.le; omega), ?_, fun e he hb => ?_⟩)⟩
    · rw [take_at hk]; simp
    · have := hp.back k _ (List.getElem?_eq_getElem (by have := hp.le; omega)) e he hb
      have h2 := hall e.on this
      obtain ⟨b, e2⟩ := h.get (i := e.on) (by omega)
      rw [Array.getD_eq_getD_getElem?, e2] at h2 ⊢
      simpa using h2
  intro fuel
  induction fuel with
  | zero =>
    intro listed' listed a w h hq
    have hno : ¬ ∃ i, i < m ∧ listed'.getD i true = false := fun hun => by
      obtain ⟨k, hk, hr⟩ := some_ready _ _ h hun
      have := (part_ready hp h hk).1 hr
      rw [hq.1] at this; cases this
    exact H _ listed a w (by omega) (full _ _ h hno) hq.2
  | succ f ih =>
    intro listed' listed a w h hq
    by_cases hun : ∃ i, i < m ∧ listed'.getD i true = false
    · rw [show f + 1 + g = (f + g) + 1 from by omega]
      refine ⟨fun hr => ?_, fun i hi => ?_⟩
      · obtain ⟨k, hk, hr2⟩ := some_ready _ _ h hun
        rw [hr] at hr2; cases hr2
      · have him := part_in hp h hun i hi
        have h1 := hq.2 i ((part_ready hp h him).1 hi)
        exact wpOp_mono (fun a' w' hk => ih _ _ a' w' (h.set him) hk) (wpOp_take hp him h1)
    · have hr : Region.ready md (l.take m).toArray listed' = [] := by
        apply List.eq_nil_iff_forall_not_mem.2
        intro i hi
        have h1 := (mem_ready.1 hi).1
        obtain ⟨_, o, ho, _⟩ := mem_ready.1 hi
        have : i < m := by
          have := (Array.getElem?_eq_some_iff.1 ho).1
          simp at this; omega
        exact hun ⟨i, this, h1⟩
      exact H _ listed a w (by omega) (full _ _ h hun) (hq.1 hr)
end
section
variable {M : List Nat} {P : Program} {n : Nat} {W : World} {Q : Exit → Act → World → Prop} {L : List Blk} {f : Nat → Value}
/-- The first m operations in each order (what holds behind each of them: L0 is held), the others behind them one by one. -/
theorem ok_drawh {id : Nat} {l : List Oper} (m : Nat) (L0 : List Blk) (hm : P.follows .mixedOrders = true) (hP : preB .any l m = true) (h : HSeg M P n (l.take m).toArray W L0 (Exit.then (wpList P l.toArray Q (l.drop m)) Q) m (Array.replicate m false) L f) : Ok M P n W Q (.region id l.toArray true) L f := ⟨fun w hO => by
  have hp := preB_ok hP
  have hle : (l.take m).length = m := by rw [List.length_take]; have := hp.le; omega
  refine wp_region_any hm ?_
  have hq := wpAny_of_held _ _ _ _ (h.go _ hO.drew)
  have hres := any_comp (P := P) (md := .any) hp (Q := Q) (g := l.length - m) (K' := wpList P l.toArray Q (l.drop m)) (fun fuel listed a w hf hu hk => any_tail hp (l.length - m) m fuel listed _ w rfl (Nat.le_refl _) hp.le hf hu hk) m (Array.replicate m false) (Array.replicate l.toArray.size false) (Fr n f) { w with drawn := w.drawn + 1 }
    ⟨by simp, by simp, fun i hi => by
      have := hp.le
      rw [Array.getElem?_replicate, Array.getElem?_replicate, if_pos (by simp; omega), if_pos hi], fun t _ ht => by rw [Array.getElem?_replicate, if_pos (by simpa using ht)]⟩ hq
  rw [show m + (l.length - m) = l.toArray.size from by have := hp.le; simp; omega] at hres
  exact hres⟩
end

end Go.Proofs.Ytglbfknmeojfkaa
end

section
/-
  A walk in great steps: the machine goes on by itself (values, own variables, control) as far as it is told, the kernel reckons what it comes to; a proof speaks only where a call, a test, a loop or new memory stands. No condition of its own.
-/
namespace Go.Proofs.Ytglbfknmeojfkaa
open Go.RowKit
set_option linter.unusedVariables false
set_option linter.unusedSimpArgs false

/-- What is to be done next. -/
inductive XTop where
  | ops (a : Array Oper) (r : List Oper)
  | qps (a : Array Oper) (r : List Oper)
  | hps (a : Array Oper) (s : Array Bool) (u : Nat) (L0 : List Blk)
  | hst (a : Array Oper) (s : Array Bool) (u : Nat) (L0 : List Blk) (i : Nat)
  | code (c : Code)
  | fin (e : Exit)
/-- What is to be done behind it. -/
inductive XIt where
  | code (c : Code)
  | blk (id : Nat)
  | lp (I : List Blk → (Nat → Value) → Nat → Prop) (m : Nat)
  | tl (a : Array Oper) (r : List Oper)
  | rd (c : Code) (m : Nat)
structure Xc where
  top : XTop
  k : List XIt
  L : List Blk
  f : Nat → Value
def KQ (M : List Nat) (P : Program) (n : Nat) (W : World) (Q : Exit → Act → World → Prop) : List XIt → Exit → Act → World → Prop
  | [] => Q
  | .code c :: k => Exit.then (Code.wp P c (KQ M P n W Q k)) (KQ M P n W Q k)
  | .blk id :: k => Exit.inBlock id (KQ M P n W Q k)
  | .lp I m :: k => Round M n W I m (KQ M P n W Q k)
  | .tl a r :: k => Exit.then (wpList P a (KQ M P n W Q k) r) (KQ M P n W Q k)
  | .rd c m :: k => Exit.then (Code.rounds P c (KQ M P n W Q k) m) (KQ M P n W Q k)
theorem pq_KQ {M : List Nat} {P : Program} {n : Nat} {W : World} {Q : Exit → Act → World → Prop} (h : PQ Q) : ∀ k : List XIt, PQ (KQ M P n W Q k)
  | [] => h
  | .code _ :: k => pq_seq (pq_KQ h k)
  | .blk _ :: k => pq_block (pq_KQ h k)
  | .lp _ _ :: k => pq_round (pq_KQ h k)
  | .tl _ _ :: k => pq_seq (pq_KQ h k)
  | .rd _ _ :: k => pq_seq (pq_KQ h k)
structure Good (M : List Nat) (P : Program) (n : Nat) (W : World) (Q : Exit → Act → World → Prop) (c : Xc) : Prop where
  go : PQ Q → match c.top with
    | .ops a r => Seg M P n a W (KQ M P n W Q c.k) r c.L c.f
    | .qps a r => QSeg M P n a W (Fin M n W (KQ M P n W Q c.k) .normal) r c.L c.f
    | .hps a s u L0 => (∀ w, Own M W w c.L → Own M W w L0) → HSeg M P n a W L0 (KQ M P n W Q c.k) u s c.L c.f
    | .hst a s u L0 i => (∀ w, Own M W w c.L → Own M W w L0) → HStep M P n a W L0 (KQ M P n W Q c.k) u s i c.L c.f
    | .code x => Ok M P n W (KQ M P n W Q c.k) x c.L c.f
    | .fin e => Fin M n W (KQ M P n W Q c.k) e c.L c.f

/-- Operations whose value the kernel may reckon. -/
def xPure : Op → Bool
  | .move _ | .assign _ | .pick _ _ _ | .build _ _ | .binOp _ _ _ _ _ | .unOp _ _ _ | .convert _ _ _ | .fieldAddr _ _ _ | .field _ _ _ | .indexAddr _ _ _ | .index _ _ _ | .extract _ _ | .slice _ _ _ _ _ | .nilCheck _ => true
  | .call c => match c.callee with
    | .builtin .len | .builtin .cap | .builtin .max | .builtin .min => true
    | _ => false
  | _ => false
def xQuiet (o : Oper) : Bool :=
  match o.op with
  | .load _ _ => true
  | .call c => match c.callee with
    | .builtin .append => false
    | _ => true
  | op => xPure op
abbrev XR : Type := World → Result Next
/-- What must be checked of a step. -/
inductive XK where
  | no
  | r (g : XR)
  | ld (p : Value) (x : Option Blk) (v : Option Value)
  | st (p : Value) (x : Option Blk) (a : Option Bool) (b : Bool)
  | h (a b : Bool) (k : XK)
def xVal (P : Program) (n : Nat) (f : Nat → Value) (o : Oper) : Value :=
  match (execOp (ev n f) o).run P default with
  | .ok (.value v) _ => v
  | _ => undef
def xOff : Value → Nat
  | .pointer (some a) => a.off
  | _ => 0
def xBlk (L : List Blk) (i : Nat) : Blk := L.getD i ⟨0, #[], 0⟩
structure XS where
  go : Bool
  c : Xc
  h : List Nat
  l : XK
  r : XK
def xhd (h : List Nat) : Nat := h.headD 0
/-- One operation. -/
def xop (P : Program) (n : Nat) (q : Bool) (a : Array Oper) (o : Oper) (r : List Oper) (c : Xc) (h : List Nat) : XS :=
  let nx (L : List Blk) (f : Nat → Value) : Xc := ⟨bif q then .qps a r else .ops a r, c.k, L, f⟩
  match want a n c.f o with
  | false => ⟨true, nx c.L (upd c.f o.dst undef), h, .no, .no⟩
  | true =>
    match o.op with
    | .load ty p =>
      let x := xBlk c.L (xhd h)
      let v := readAt P ty x.cs (xOff (ev n c.f p))
      ⟨true, nx c.L (upd c.f o.dst (v.getD undef)), h.tail, .ld (ev n c.f p) (c.L[xhd h]?) v, .ld (.pointer (some ⟨x.b, xOff (ev n c.f p), none⟩)) (some x) (some (v.getD undef))⟩
    | .store T p y =>
      match q, o.dst with
      | false, none =>
        let x := xBlk c.L (xhd h)
        let v := ev n c.f y
        ⟨true, nx (c.L.set (xhd h) ⟨x.b, storeIn x.cs (xOff (ev n c.f p)) v.cells, x.ty⟩) c.f, h.tail, .st (ev n c.f p) (c.L[xhd h]?) ((P.info? T).map fun t => Nat.beq v.cells.size t.size && Nat.ble (xOff (ev n c.f p) + t.size) x.cs.size) (v.cells.toList.all fun u => u.oneCell'),
          .st (.pointer (some ⟨x.b, xOff (ev n c.f p), none⟩)) (some x) (some true) true⟩
      | _, _ => ⟨false, c, h, .no, .no⟩
    | op =>
      match xPure op with
      | true => ⟨true, nx c.L (upd c.f o.dst (xVal P n c.f o)), h, .r (fun w => (execOp (ev n c.f) o).run P w), .r (fun w => .ok (.value (xVal P n c.f o)) w)⟩
      | false => ⟨false, c, h, .no, .no⟩
def xTak (n : Nat) (a : Array Oper) (f : Nat → Value) (i : Nat) : Bool :=
  match a[i]? with
  | none => false
  | some o =>
    match want a n f o with
    | false => true
    | true =>
      match o.op with
      | .load _ _ => true
      | op => xPure op
/-- One operation of those that may come up. -/
def xhp (P : Program) (n : Nat) (a : Array Oper) (s : Array Bool) (u : Nat) (L0 : List Blk) (i : Nat) (o : Oper) (c : Xc) (h : List Nat) : XS :=
  let nx (f : Nat → Value) : Xc := ⟨.hps a (s.setIfInBounds i true) u L0, c.k, c.L, f⟩
  let fr : Bool := Region.noSelect a && Region.free .any a s i && (Region.ready .any a s).contains i
  match want a n c.f o with
  | false => ⟨true, nx (upd c.f o.dst undef), h, .h fr true .no, .h true true .no⟩
  | true =>
    match o.op with
    | .load ty p =>
      let x := xBlk L0 (xhd h)
      let v := readAt P ty x.cs (xOff (ev n c.f p))
      ⟨true, nx (upd c.f o.dst (v.getD undef)), h.tail, .h fr true (.ld (ev n c.f p) (L0[xhd h]?) v), .h true true (.ld (.pointer (some ⟨x.b, xOff (ev n c.f p), none⟩)) (some x) (some (v.getD undef)))⟩
    | op => ⟨true, nx (upd c.f o.dst (xVal P n c.f o)), h, .h fr true (.r (fun w => (execOp (ev n c.f) o).run P w)), .h true true (.r (fun w => .ok (.value (xVal P n c.f o)) w))⟩
def xhs (P : Program) (n : Nat) (a : Array Oper) (s : Array Bool) (u : Nat) (L0 : List Blk) (c : Xc) (h : List Nat) : XS :=
  match Region.ready .any a s with
  | [] => ⟨true, { c with top := .fin .normal }, h, .no, .no⟩
  | _ =>
    match u, (Region.ready .any a s).find? (xTak n a c.f) with
    | u' + 1, some i =>
      match a[i]? with
      | some o => xhp P n a s u' L0 i o c h
      | none => ⟨false, c, h, .no, .no⟩
    | _, _ => ⟨false, c, h, .no, .no⟩
/-- Control. -/
def xcode (P : Program) (n : Nat) (x : Code) (c : Xc) : Bool × Xc :=
  match x with
  | .skip => (true, { c with top := .fin .normal })
  | .region _ a false => (true, { c with top := .ops a a.toList })
  | .region _ a true => bif P.follows .mixedOrders && Region.lexB .any a && a.toList.all xQuiet then (true, { c with top := .qps a a.toList }) else (false, c)
  | .seq a b => (true, { c with top := .code a, k := .code b :: c.k })
  | .block id b => (true, { c with top := .code b, k := .blk id :: c.k })
  | .exit id => (true, { c with top := .fin (.exit id) })
  | .ret => (true, { c with top := .fin .ret })
  | .cond o a b =>
    match ev n c.f o with
    | .bool true => (true, { c with top := .code a })
    | .bool false => (true, { c with top := .code b })
    | _ => (false, c)
  | _ => (false, c)
def xfin (e : Exit) (c : Xc) : Bool × Xc :=
  match c.k, e with
  | .code b :: k, .normal => (true, { c with top := .code b, k := k })
  | .code _ :: k, .exit id => (true, { c with top := .fin (.exit id), k := k })
  | .code _ :: k, .ret => (true, { c with top := .fin .ret, k := k })
  | .blk _ :: k, .normal => (true, { c with top := .fin .normal, k := k })
  | .blk id :: k, .exit id' => (true, { c with top := .fin (bif Nat.beq id' id then .normal else .exit id'), k := k })
  | .blk _ :: k, .ret => (true, { c with top := .fin .ret, k := k })
  | .lp _ _ :: k, .exit id => (true, { c with top := .fin (.exit id), k := k })
  | .lp _ _ :: k, .ret => (true, { c with top := .fin .ret, k := k })
  | .tl a r :: k, .normal => (true, { c with top := .ops a r, k := k })
  | .rd b (m + 1) :: k, .normal => (true, { c with top := .code b, k := .rd b m :: k })
  | .rd _ _ :: k, .exit id => (true, { c with top := .fin (.exit id), k := k })
  | .rd _ _ :: k, .ret => (true, { c with top := .fin .ret, k := k })
  | _, _ => (false, c)
def xstep (P : Program) (n : Nat) (c : Xc) (h : List Nat) : XS :=
  match c.top with
  | .ops _ [] => ⟨true, { c with top := .fin .normal }, h, .no, .no⟩
  | .ops a (o :: r) => xop P n false a o r c h
  | .qps _ [] => ⟨true, { c with top := .fin .normal }, h, .no, .no⟩
  | .qps a (o :: r) => xop P n true a o r c h
  | .hps a s u L0 => xhs P n a s u L0 c h
  | .hst _ _ _ _ _ => ⟨false, c, h, .no, .no⟩
  | .code x => ⟨(xcode P n x c).1, (xcode P n x c).2, h, .no, .no⟩
  | .fin e => ⟨(xfin e c).1, (xfin e c).2, h, .no, .no⟩
/-- The slot that the operation at hand writes. -/
def xdst (n : Nat) (c : Xc) : Option Tmp :=
  match c.top with
  | .ops _ (o :: _) => o.dst
  | .qps _ (o :: _) => o.dst
  | .hps a s _ _ =>
    match (Region.ready .any a s).find? (xTak n a c.f) with
    | some i => (a.getD i default).dst
    | none => none
  | _ => none
def xisd (d : Option Tmp) (t : Nat) : Bool := match d with
  | some d => Nat.beq d t
  | none => false
/-- Is slot t written by the operation at hand? -/
def xhit (n t : Nat) (c : Xc) : Bool := xisd (xdst n c) t
/-- Is slot t (told as t + 50000) to be written by the operation at hand? -/
def xlen : List XIt → Nat
  | [] => 0
  | _ :: k => xlen k + 1
def xAt (m : Nat) : Nat := Nat.add m 90000
def xCt (d : Nat) : Nat := Nat.add d 70000
/-- Is it the end of something with so much behind it (told as xAt m)? -/
def xend (t : Nat) (c : Xc) : Bool :=
  match c.top with
  | .fin .normal => Nat.beq (xAt (xlen c.k)) t
  | _ => false
def xcnd (t : Nat) (c : Xc) : Bool :=
  match c.top with
  | .code (.cond (.tmp d) _ _) => Nat.beq d t
  | _ => false
noncomputable def xpre (n t : Nat) (c : Xc) : Bool := @Bool.rec (fun _ => Bool) false (@Bool.rec (fun _ => Bool) (@Bool.rec (fun _ => Bool) (xisd (xdst n c) (t - 50000)) (xcnd (t - 70000) c) (Nat.ble 70000 t)) (xend t c) (Nat.ble 90000 t)) (Nat.ble 50000 t)
/-- How far at most. -/
inductive Fuel1 where
  | z
  | s (m : Fuel1)
def fuel5 (m : Fuel1) : Fuel1 := .s (.s (.s (.s (.s m))))
def fuel25 (m : Fuel1) : Fuel1 := fuel5 (fuel5 (fuel5 (fuel5 (fuel5 m))))
def fuel125 (m : Fuel1) : Fuel1 := fuel25 (fuel25 (fuel25 (fuel25 (fuel25 m))))
def fuelA : Fuel1 := fuel125 (fuel125 (fuel125 .z))
/-- The same once more: so that the kernel doesn't hold the two runs against each other piece by piece. -/
inductive Fuel2 where
  | z
  | s (m : Fuel2)
def fuel12 : Fuel1 → Fuel2
  | .z => .z
  | .s m => .s (fuel12 m)
def fuelB : Fuel2 := fuel12 fuelA
/-! One of two is told by the recursor itself: the kernel then goes by the bool and doesn't hold the branches against each other. -/
noncomputable def xrun (P : Program) (n t : Nat) : Fuel1 → List Nat → Xc → Xc
  | .z, _, c => c
  | .s m, h, c => @Bool.rec (fun _ => Xc) (@Bool.rec (fun _ => Xc) (xstep P n c h).c (xrun P n t m (xstep P n c h).h (xstep P n c h).c) ((xstep P n c h).go && !xhit n t c)) c (xpre n t c)
noncomputable def xl (P : Program) (n t : Nat) : Fuel1 → List Nat → Xc → List XK
  | .z, _, _ => []
  | .s m, h, c => @Bool.rec (fun _ => List XK) ((xstep P n c h).l :: @Bool.rec (fun _ => List XK) [] (xl P n t m (xstep P n c h).h (xstep P n c h).c) ((xstep P n c h).go && !xhit n t c)) [] (xpre n t c)
noncomputable def xr (P : Program) (n t : Nat) : Fuel2 → List Nat → Xc → List XK
  | .z, _, _ => []
  | .s m, h, c => @Bool.rec (fun _ => List XK) ((xstep P n c h).r :: @Bool.rec (fun _ => List XK) [] (xr P n t m (xstep P n c h).h (xstep P n c h).c) ((xstep P n c h).go && !xhit n t c)) [] (xpre n t c)

section
variable {M : List Nat} {P : Program} {n : Nat} {W : World} {Q : Exit → Act → World → Prop}
theorem xop_ok {a : Array Oper} {o : Oper} {r : List Oper} {k : List XIt} {L : List Blk} {f : Nat → Value} {h : List Nat} (hk : (xop P n false a o r ⟨.ops a (o :: r), k, L, f⟩ h).l = (xop P n false a o r ⟨.ops a (o :: r), k, L, f⟩ h).r)
    (hg : Good M P n W Q (xop P n false a o r ⟨.ops a (o :: r), k, L, f⟩ h).c) : Good M P n W Q ⟨.ops a (o :: r), k, L, f⟩ := by
  unfold xop at hk hg
  cases hw : want a n f o with
  | false => rw [hw] at hk hg; exact ⟨fun hq => s_skip hw (hg.go hq)⟩
  | true =>
    rw [hw] at hk hg
    cases ho : o.op with
    | load ty p =>
      rw [ho] at hk hg
      simp only [XK.ld.injEq] at hk
      exact ⟨fun hq => s_load (xhd h) _ _ hw ho hk.2.1 hk.1 hk.2.2 (hg.go hq)⟩
    | store T p y =>
      rw [ho] at hk hg
      cases hd : o.dst with
      | some d => rw [hd] at hg; exact hg
      | none =>
        rw [hd] at hk hg
        simp only [XK.st.injEq] at hk
        exact ⟨fun hq => s_store_at (xhd h) _ (ev n f y) hw ho hd hk.2.1 hk.1 rfl hk.2.2.1 hk.2.2.2 (hg.go hq)⟩
    | _ =>
      rw [ho] at hk hg
      dsimp only at hk hg
      split at hk
      · rename_i hp
        rw [hp] at hg
        exact ⟨fun hq => s_val _ hw (fun w => congrFun (XK.r.inj hk) w) (hg.go hq)⟩
      · rename_i hp
        rw [hp] at hg
        exact hg
theorem xqp_ok {a : Array Oper} {o : Oper} {r : List Oper} {k : List XIt} {L : List Blk} {f : Nat → Value} {h : List Nat} (hk : (xop P n true a o r ⟨.qps a (o :: r), k, L, f⟩ h).l = (xop P n true a o r ⟨.qps a (o :: r), k, L, f⟩ h).r)
    (hg : Good M P n W Q (xop P n true a o r ⟨.qps a (o :: r), k, L, f⟩ h).c) : Good M P n W Q ⟨.qps a (o :: r), k, L, f⟩ := by
  unfold xop at hk hg
  cases hw : want a n f o with
  | false => rw [hw] at hk hg; exact ⟨fun hq => q_skip hw (hg.go hq)⟩
  | true =>
    rw [hw] at hk hg
    cases ho : o.op with
    | load ty p =>
      rw [ho] at hk hg
      simp only [XK.ld.injEq] at hk
      exact ⟨fun hq => q_load (xhd h) _ _ hw ho hk.2.1 hk.1 hk.2.2 (hg.go hq)⟩
    | store T p y => rw [ho] at hk hg; exact hg
    | _ =>
      rw [ho] at hk hg
      dsimp only at hk hg
      split at hk
      · rename_i hp
        rw [hp] at hg
        exact ⟨fun hq => q_val _ hw (fun w => congrFun (XK.r.inj hk) w) (hg.go hq)⟩
      · rename_i hp
        rw [hp] at hg
        exact hg
theorem ok_drawA {id : Nat} {a : Array Oper} {L : List Blk} {f : Nat → Value} {Q : Exit → Act → World → Prop} (hm : P.follows .mixedOrders = true) (hB : Region.lexB .any a = true) (h : QSeg M P n a W (Fin M n W Q .normal) a.toList L f) : Ok M P n W Q (.region id a true) L f := by
  obtain ⟨l, rfl⟩ : ∃ l : List Oper, a = l.toArray := ⟨a.toList, by simp⟩
  exact ok_draw hm hB (by simpa using h)
theorem ok_regA {id : Nat} {a : Array Oper} {L : List Blk} {f : Nat → Value} {Q : Exit → Act → World → Prop} (h : Seg M P n a W Q a.toList L f) : Ok M P n W Q (.region id a false) L f := by
  obtain ⟨l, rfl⟩ : ∃ l : List Oper, a = l.toArray := ⟨a.toList, by simp⟩
  exact ok_region (by simpa using h)
theorem xcode_ok {x : Code} {k : List XIt} {L : List Blk} {f : Nat → Value} (hg : Good M P n W Q (xcode P n x ⟨.code x, k, L, f⟩).2) : Good M P n W Q ⟨.code x, k, L, f⟩ := by
  cases x with
  | skip => exact ⟨fun hq => ok_skip (hg.go hq)⟩
  | region id a d =>
    cases d with
    | false => exact ⟨fun hq => ok_regA (hg.go hq)⟩
    | true =>
      unfold xcode at hg
      dsimp only at hg
      revert hg
      cases hb : (P.follows .mixedOrders && Region.lexB .any a && a.toList.all xQuiet) with
      | false => exact fun hg => hg
      | true =>
        intro hg
        rw [Bool.and_eq_true, Bool.and_eq_true] at hb
        exact ⟨fun hq => ok_drawA hb.1.1 hb.1.2 (hg.go hq)⟩
  | seq a b => exact ⟨fun hq => ok_seq (hg.go hq)⟩
  | cond o a b =>
    unfold xcode at hg
    dsimp only at hg
    split at hg
    · rename_i e; exact ⟨fun hq => ok_true e (hg.go hq)⟩
    · rename_i e; exact ⟨fun hq => ok_false e (hg.go hq)⟩
    · exact hg
  | block id b => exact ⟨fun hq => ok_block (hg.go hq)⟩
  | exit id => exact ⟨fun hq => ok_exit (hg.go hq)⟩
  | ret => exact ⟨fun hq => ok_ret (hg.go hq)⟩
  | _ => exact hg
theorem xfin_ok {e : Exit} {k : List XIt} {L : List Blk} {f : Nat → Value} (hg : Good M P n W Q (xfin e ⟨.fin e, k, L, f⟩).2) : Good M P n W Q ⟨.fin e, k, L, f⟩ := by
  cases k with
  | nil => exact hg
  | cons i k =>
    cases i with
    | code b => cases e with
      | normal => exact ⟨fun hq => fin_seq (hg.go hq)⟩
      | exit id => exact ⟨fun hq => fin_seq_exit (hg.go hq)⟩
      | ret => exact ⟨fun hq => fin_seq_ret (hg.go hq)⟩
      | _ => exact hg
    | blk id => cases e with
      | normal => exact ⟨fun hq => fin_block (hg.go hq)⟩
      | exit id' =>
        cases hb : Nat.beq id' id with
        | true =>
          obtain rfl := Nat.eq_of_beq_eq_true hb
          have hg' := hg.go
          simp only [xfin, hb, cond_true] at hg'
          exact ⟨fun hq => fin_block_exit (hg' hq)⟩
        | false =>
          have hne : id' ≠ id := fun e => by rw [e, Nat.beq_refl] at hb; cases hb
          have hg' := hg.go
          simp only [xfin, hb, cond_false] at hg'
          exact ⟨fun hq => fin_block_other hne (hg' hq)⟩
      | ret => exact ⟨fun hq => fin_block_ret (hg.go hq)⟩
      | _ => exact hg
    | lp I m => cases e with
      | exit id => exact ⟨fun hq => fin_round_exit (hg.go hq)⟩
      | ret => exact ⟨fun hq => fin_round_ret (hg.go hq)⟩
      | _ => exact hg
    | tl a r => cases e with
      | normal => exact ⟨fun hq => ⟨(hg.go hq).go⟩⟩
      | _ => exact hg
    | rd b m => cases m with
      | zero => cases e with
        | exit id => exact ⟨fun hq => fin_seq_exit (hg.go hq)⟩
        | ret => exact ⟨fun hq => fin_seq_ret (hg.go hq)⟩
        | _ => exact hg
      | succ m => cases e with
        | normal => exact ⟨fun hq => ⟨(hg.go hq).go⟩⟩
        | exit id => exact ⟨fun hq => fin_seq_exit (hg.go hq)⟩
        | ret => exact ⟨fun hq => fin_seq_ret (hg.go hq)⟩
        | _ => exact hg
theorem xhs_ok {a : Array Oper} {s : Array Bool} {u : Nat} {L0 : List Blk} {k : List XIt} {L : List Blk} {f : Nat → Value} {h : List Nat} (hk : (xhs P n a s u L0 ⟨.hps a s u L0, k, L, f⟩ h).l = (xhs P n a s u L0 ⟨.hps a s u L0, k, L, f⟩ h).r)
    (hg : Good M P n W Q (xhs P n a s u L0 ⟨.hps a s u L0, k, L, f⟩ h).c) : Good M P n W Q ⟨.hps a s u L0, k, L, f⟩ := by
  unfold xhs at hk hg
  split at hk
  · rename_i hr
    rw [hr] at hg
    exact ⟨fun hq hs => h_done hr (hg.go hq)⟩
  · rename_i hr
    split at hg
    · rename_i e; exact absurd e hr
    split at hk
    · rename_i u' i hf
      rw [hf] at hg
      dsimp only at hg
      have ht := List.find?_some hf
      unfold xTak at ht
      cases ho : a[i]? with
      | none => rw [ho] at hg; exact hg
      | some o =>
        rw [ho] at hk hg ht
        dsimp only at hk hg ht
        unfold xhp at hk hg
        have fin3 : ∀ {b1 b2 b3 : Bool}, (b1 && b2 && b3) = true → b1 = true ∧ b2 = true ∧ b3 = true := fun {b1 b2 b3} h => by cases b1 <;> cases b2 <;> cases b3 <;> simp_all
        cases hw : want a n f o with
        | false =>
          rw [hw] at hk hg
          simp only [XK.h.injEq] at hk
          obtain ⟨e1, e2, e3⟩ := fin3 hk.1
          exact ⟨fun hq hs => hl_skip i o ho e1 e2 e3 (pq_KQ hq k) hs hw (hg.go hq hs)⟩
        | true =>
          rw [hw] at hk hg ht
          dsimp only at ht
          cases hop : o.op with
          | load ty p =>
            rw [hop] at hk hg
            simp only [XK.h.injEq, XK.ld.injEq] at hk
            obtain ⟨e1, e2, e3⟩ := fin3 hk.1
            exact ⟨fun hq hs => hl_load i o (xhd h) _ _ ho e1 e2 e3 (pq_KQ hq k) hs hw hop hk.2.2.2.1 hk.2.2.1 hk.2.2.2.2 (hg.go hq hs)⟩
          | _ =>
            rw [hop] at hk hg
            dsimp only at hk hg
            have e0 := XK.h.inj hk
            obtain ⟨e1, e2, e3⟩ := fin3 e0.1
            exact ⟨fun hq hs => hl_take i o _ ho e1 e2 e3 (pq_KQ hq k) hs hw (fun w _ => congrFun (XK.r.inj e0.2.2) w) (hg.go hq hs)⟩
    · rename_i hno
      split at hg
      · rename_i u' i hf; exact absurd hf (hno u' i rfl)
      · exact hg
theorem xstep_ok {c : Xc} {h : List Nat} (hk : (xstep P n c h).l = (xstep P n c h).r) (hg : Good M P n W Q (xstep P n c h).c) : Good M P n W Q c := by
  obtain ⟨top, k, L, f⟩ := c
  cases top with
  | ops a r => cases r with
    | nil => exact ⟨fun hq => s_nil (hg.go hq)⟩
    | cons o r => exact xop_ok hk hg
  | qps a r => cases r with
    | nil => exact ⟨fun hq => q_nil (hg.go hq)⟩
    | cons o r => exact xqp_ok hk hg
  | hps a s u L0 =>
    change (xhs P n a s u L0 ⟨.hps a s u L0, k, L, f⟩ h).l = (xhs P n a s u L0 ⟨.hps a s u L0, k, L, f⟩ h).r at hk
    change Good M P n W Q (xhs P n a s u L0 ⟨.hps a s u L0, k, L, f⟩ h).c at hg
    exact xhs_ok hk hg
  | hst a s u L0 i => exact hg
  | code x => exact xcode_ok hg
  | fin e => exact xfin_ok hg
theorem xrun_ok {t : Nat} : ∀ (m : Fuel1) (h : List Nat) (c : Xc), xl P n t m h c = xr P n t (fuel12 m) h c → Good M P n W Q (xrun P n t m h c) → Good M P n W Q c
  | .z, _, _, _, hg => hg
  | .s m, h, c, hk, hg => by
    unfold xl fuel12 xr at hk
    unfold xrun at hg
    cases hp : xpre n t c with
    | true => simp only [hp] at hg; exact hg
    | false =>
      simp only [hp] at hk hg
      cases hb : (xstep P n c h).go && !xhit n t c with
      | true =>
        simp only [hb] at hk hg
        have h2 := List.cons.inj hk
        exact xstep_ok h2.1 (xrun_ok m _ _ h2.2 hg)
      | false =>
        simp only [hb] at hk hg
        exact xstep_ok (List.cons.inj hk).1 hg
end

end Go.Proofs.Ytglbfknmeojfkaa
end

section
/-
  A walk in great steps: the places where a proof speaks (calls, tests, loops, new memory, the end). No condition of its own.
-/
namespace Go.Proofs.Ytglbfknmeojfkaa
open Go.RowKit
set_option linter.unusedVariables false
set_option linter.unusedSimpArgs false

abbrev nS : Nat := 40000
noncomputable def xgo (P : Program) (n t : Nat) (h : List Nat) (c : Xc) : Xc := xrun P n t fuelA h c
noncomputable def xgl (P : Program) (n t : Nat) (h : List Nat) (c : Xc) : List XK := xl P n t fuelA h c
noncomputable def xgr (P : Program) (n t : Nat) (h : List Nat) (c : Xc) : List XK := xr P n t fuelB h c
theorem xgo_ok {M : List Nat} {P : Program} {n t : Nat} {W : World} {Q : Exit → Act → World → Prop} (h : List Nat) (c : Xc) (hk : xgl P n t h c = xgr P n t h c) (hg : Good M P n W Q (xgo P n t h c)) : Good M P n W Q c := xrun_ok fuelA h c hk hg
def xA (c : Xc) : Array Oper := match c.top with
  | .ops a _ => a
  | .qps a _ => a
  | .hps a _ _ _ => a
  | .hst a _ _ _ _ => a
  | _ => #[]
def xL (c : Xc) : List Oper := match c.top with
  | .ops _ r => r
  | .qps _ r => r
  | _ => []
def xO (c : Xc) : Oper := match c.top with
  | .hst a _ _ _ i => a.getD i default
  | _ => (xL c).headD default
def xT (c : Xc) : List Oper := (xL c).tail
def xC (c : Xc) : Code := match c.top with
  | .code x => x
  | _ => .skip
def xBody (c : Xc) : Code := match xC c with
  | .loop b => b
  | _ => .skip
def xTy (o : Oper) : TypeId := match o.op with
  | .alloc T => T
  | .box T _ => T
  | _ => 0
def xZ (P : Program) (o : Oper) : Value := ((P.info? (xTy o)).bind (·.zero)).getD undef
def xX (n : Nat) (f : Nat → Value) (o : Oper) : Value := match o.op with
  | .box _ x => ev n f x
  | _ => undef
def xBx (o : Oper) : Operand := match o.op with
  | .box _ x => x
  | _ => .tmp 0
def Xc.st (c : Xc) (t : Nat) (v : Value) : Xc := { c with f := upd c.f (some t) v }
/-- The value of the operation at hand is laid down. -/
def Xc.put (c : Xc) (v : Value) : Xc := match c.top with
  | .ops a (o :: r) => ⟨.ops a r, c.k, c.L, upd c.f o.dst v⟩
  | .qps a (o :: r) => ⟨.qps a r, c.k, c.L, upd c.f o.dst v⟩
  | .hst a s u L0 i => ⟨.hps a (s.setIfInBounds i true) u L0, c.k, c.L, upd c.f (a.getD i default).dst v⟩
  | _ => c
def xEnt (P : Program) (n : Nat) (c : Xc) : XR := match c.top with
  | .ops a (o :: _) => bif want a n c.f o then (fun w => (execOp (ev n c.f) o).run P w) else fun w => .ok .skip w
  | .qps a (o :: _) => bif want a n c.f o then (fun w => (execOp (ev n c.f) o).run P w) else fun w => .ok .skip w
  | .hst a _ _ _ i => bif want a n c.f (a.getD i default) then (fun w => (execOp (ev n c.f) (a.getD i default)).run P w) else fun w => .ok .skip w
  | _ => fun w => .ok .skip w
def xNew (c : Xc) (x : Blk) : Xc := ⟨.ops (xA c) (xT c), c.k, x :: c.L, upd c.f (xO c).dst (.pointer (some ⟨x.b, 0, none⟩))⟩
def xQ (c : Xc) : Bool := match c.top with
  | .qps _ _ => true
  | .hps _ _ _ _ => true
  | .hst _ _ _ _ _ => true
  | _ => false
def xAdd (c : Xc) (ob : List Blk) : Xc := { c with L := c.L ++ ob }

section
variable {M : List Nat} {P : Program} {n : Nat} {W : World} {Q : Exit → Act → World → Prop} {c : Xc}
theorem ent_ne {k : FuncId} {args : Array Value} (h : (fun w : World => (Result.ok Next.skip w)) = fun w => .ok (.enter k args) w) : False := by
  have := congrFun h default
  simp at this
theorem no_ent {P : Program} {n : Nat} {f : Nat → Value} {k : FuncId} {args : Array Value} (h : (fun w : World => (execOp (ev n f) (default : Oper)).run P w) = fun w => .ok (.enter k args) w) : False := by
  have := congrFun h default
  unfold execOp at this
  simp [default, instInhabitedOper.default, instInhabitedOp.default] at this
theorem xput_call {k : FuncId} {args : Array Value} {v : Value} (hc : ∀ w, Own M W w c.L → Calls P k args w fun e w' => e = .returned v ∧ Below w.heap.size w w') (hg : Good M P n W Q (c.put v))
    (he : xEnt P n c = fun w => .ok (.enter k args) w) : Good M P n W Q c := by
  obtain ⟨top, kk, L, f⟩ := c
  unfold xEnt at he
  unfold Xc.put at hg
  dsimp only at he hg hc
  cases top with
  | ops a r => cases r with
    | nil => exact (ent_ne he).elim
    | cons o r =>
      dsimp only at he hg
      cases hw : want a n f o with
      | false => rw [hw] at he; exact (ent_ne he).elim
      | true => rw [hw] at he; exact ⟨fun hq => s_call v hw (fun w => congrFun he w) hc (hg.go hq)⟩
  | qps a r => cases r with
    | nil => exact (ent_ne he).elim
    | cons o r =>
      dsimp only at he hg
      cases hw : want a n f o with
      | false => rw [hw] at he; exact (ent_ne he).elim
      | true => rw [hw] at he; exact ⟨fun hq => q_call v hw (fun w => congrFun he w) hc (hg.go hq)⟩
  | hst a s u L0 i =>
    dsimp only at he hg
    cases hw : want a n f (a.getD i default) with
    | false => rw [hw] at he; exact (ent_ne he).elim
    | true =>
      rw [hw] at he
      cases ha : a[i]? with
      | none =>
        have hd : a.getD i default = default := by rw [Array.getD_eq_getD_getElem?, ha]; rfl
        rw [hd] at he
        exact (no_ent (P := P) (n := n) he).elim
      | some o =>
        have hd : a.getD i default = o := by rw [Array.getD_eq_getD_getElem?, ha]; rfl
        rw [hd] at he hg hw
        exact ⟨fun hq hs => hl_call o v ha hw hs (fun w => congrFun he w) hc (hg.go hq hs)⟩
  | _ => exact (ent_ne he).elim
/-- A call that hands back a value. -/
theorem x_call {k : FuncId} {args : Array Value} {v : Value} (h : List Nat) (hc : ∀ w, Own M W w (xgo P n nS h c).L → Calls P k args w fun e w' => e = .returned v ∧ Below w.heap.size w w') (hg : Good M P n W Q ((xgo P n nS h c).put v))
    (hkt : (xgl P n nS h c, xEnt P n (xgo P n nS h c)) = (xgr P n nS h c, (fun w => .ok (.enter k args) w)) := by kernel_rfl) : Good M P n W Q c :=  by
  obtain ⟨hk, he⟩ := Prod.mk.inj hkt
  exact xgo_ok h c hk (xput_call hc hg he)
/-- A call that hands back new memory. -/
theorem x_callM {k : FuncId} {args : Array Value} {R : Value → List Blk → Prop} (h : List Nat) (hc : ∀ w, Own M W w (xgo P n nS h c).L → Calls P k args w fun e w' => ∃ v ob, e = .returned v ∧ R v ob ∧ Own [] w w' ob)
    (hg : ∀ v ob, R v ob → Good M P n W Q (xAdd ((xgo P n nS h c).put v) ob)) (hkt : (xgl P n nS h c, ((xgo P n nS h c).top, want (xA (xgo P n nS h c)) n (xgo P n nS h c).f (xO (xgo P n nS h c)))) = (xgr P n nS h c, (.ops (xA (xgo P n nS h c)) (xO (xgo P n nS h c) :: xT (xgo P n nS h c)), true)) := by kernel_rfl)
    (he : xEnt P n (xgo P n nS h c) = (fun w => .ok (.enter k args) w) := by kernel_rfl) : Good M P n W Q c := by
  obtain ⟨hk, ht⟩ := Prod.mk.inj hkt
  refine xgo_ok h c hk ?_
  generalize xgo P n nS h c = d at hc hg ht he ⊢
  obtain ⟨top, kk, L, f⟩ := d
  generalize hA : xA ⟨top, kk, L, f⟩ = a at ht
  generalize hO : xO ⟨top, kk, L, f⟩ = o at ht
  generalize hT : xT ⟨top, kk, L, f⟩ = r at ht
  simp only [Prod.mk.injEq] at ht
  obtain ⟨rfl, hw⟩ := ht
  have hg' : ∀ v ob, R v ob → Good M P n W Q ⟨.ops a r, kk, L ++ ob, upd f o.dst v⟩ := hg
  simp only [xEnt, hw, cond_true] at he
  refine ⟨fun hq => s_callx (fun v L' => ∃ ob, L' = L ++ ob ∧ R v ob) hw (fun w => congrFun he w) (fun w hO => ((hc w hO).mono fun e w' ⟨v, ob, e1, e2, e3⟩ => ⟨v, L ++ ob, e1, ⟨ob, rfl, e2⟩, (Own.joinN hO e3).perm List.perm_append_comm⟩)) ?_⟩
  rintro v L' ⟨ob, rfl, hR⟩
  exact (hg' v ob hR).go hq
def xW0 (n : Nat) (c : Xc) : Bool := match c.top with
  | .ops a (o :: _) => want a n c.f o
  | .hst a _ _ _ i => want a n c.f (a.getD i default) && decide (i < a.size)
  | _ => false
/-- A call of whose value something is known. -/
theorem x_callE {k : FuncId} {args : Array Value} {R : Value → Prop} (h : List Nat) (hc : ∀ w, Own M W w (xgo P n nS h c).L → Calls P k args w fun e w' => ∃ v, e = .returned v ∧ R v ∧ Below w.heap.size w w') (hg : ∀ v, R v → Good M P n W Q ((xgo P n nS h c).put v))
    (hkt : (xgl P n nS h c, xW0 n (xgo P n nS h c), xEnt P n (xgo P n nS h c)) = (xgr P n nS h c, true, fun w => .ok (.enter k args) w) := by kernel_rfl) : Good M P n W Q c := by
  simp only [Prod.mk.injEq] at hkt
  obtain ⟨hk, e1, e2⟩ := hkt
  refine xgo_ok h c hk ?_
  generalize xgo P n nS h c = d at *
  obtain ⟨top, kk, L, f⟩ := d
  unfold xW0 at e1
  unfold xEnt at e2
  cases top with
  | ops a r => cases r with
    | nil => cases e1
    | cons o r =>
      dsimp only at e1 e2
      rw [e1] at e2
      have hg' : ∀ v, R v → Good M P n W Q ⟨.ops a r, kk, L, upd f o.dst v⟩ := hg
      refine ⟨fun hq => s_callx (fun v L' => L' = L ∧ R v) e1 (fun w => congrFun e2 w) (fun w hO => (hc w hO).mono fun e w' ⟨v, q1, q2, q3⟩ => ⟨v, L, q1, ⟨rfl, q2⟩, hO.on q3⟩) ?_⟩
      rintro v L' ⟨rfl, hR⟩
      exact (hg' v hR).go hq
  | hst a s u L0 i =>
    dsimp only at e1 e2
    rw [Bool.and_eq_true] at e1
    obtain ⟨hw, hi⟩ := e1
    have hi' : i < a.size := of_decide_eq_true hi
    rw [hw] at e2
    have hd : a[i]? = some (a.getD i default) := by rw [Array.getElem?_eq_getElem hi']; simp [Array.getD, hi']
    have hg' : ∀ v, R v → Good M P n W Q ⟨.hps a (s.setIfInBounds i true) u L0, kk, L, upd f (a.getD i default).dst v⟩ := hg
    refine ⟨fun hq hs => hl_callx (a.getD i default) (fun v L' => L' = L ∧ R v) hd hw (fun w => congrFun e2 w) (fun w hO => (hc w hO).mono fun e w' ⟨v, q1, q2, q3⟩ => ⟨v, L, q1, ⟨rfl, q2⟩, hO.on q3⟩) (fun v L' ⟨e, _⟩ w hO => by subst e; exact hs w hO) ?_⟩
    rintro v L' ⟨rfl, hR⟩
    exact (hg' v hR).go hq hs
  | _ => cases e1
/-- A slot's value by another name. -/
theorem x_set (t : Nat) (h : List Nat) (v : Value) (hv : (xgo P n t h c).f t = v) (hg : Good M P n W Q ((xgo P n t h c).st t v)) (hk : xgl P n t h c = xgr P n t h c := by kernel_rfl) : Good M P n W Q c := by
  refine xgo_ok h c hk ?_
  unfold Xc.st at hg
  rw [← upd_self hv] at hg
  exact hg
/-- A test. -/
theorem x_br (t : Nat) (h : List Nat) (p : Prop) [Decidable p] (h1 : p → Good M P n W Q ((xgo P n t h c).st t (.bool true))) (h2 : ¬ p → Good M P n W Q ((xgo P n t h c).st t (.bool false)))
    (hkt : (xgl P n t h c, (xgo P n t h c).f t) = (xgr P n t h c, .bool (decide p)) := by kernel_rfl) : Good M P n W Q c := by
  obtain ⟨hk, hv⟩ := Prod.mk.inj hkt
  by_cases hp : p
  · exact x_set t h _ (hv.trans (by rw [decide_eq_true hp])) (h1 hp) hk
  · exact x_set t h _ (hv.trans (by rw [decide_eq_false hp])) (h2 hp) hk
theorem x_bn (t : Nat) (h : List Nat) (p : Prop) [Decidable p] (h1 : p → Good M P n W Q ((xgo P n t h c).st t (.bool false))) (h2 : ¬ p → Good M P n W Q ((xgo P n t h c).st t (.bool true)))
    (hkt : (xgl P n t h c, (xgo P n t h c).f t) = (xgr P n t h c, .bool (!decide p)) := by kernel_rfl) : Good M P n W Q c := by
  obtain ⟨hk, hv⟩ := Prod.mk.inj hkt
  by_cases hp : p
  · exact x_set t h _ (hv.trans (by rw [decide_eq_true hp]; rfl)) (h1 hp) hk
  · exact x_set t h _ (hv.trans (by rw [decide_eq_false hp]; rfl)) (h2 hp) hk
theorem x_bb (t : Nat) (h : List Nat) (b : Bool) (h1 : b = true → Good M P n W Q ((xgo P n t h c).st t (.bool true))) (h2 : b = false → Good M P n W Q ((xgo P n t h c).st t (.bool false)))
    (hkt : (xgl P n t h c, (xgo P n t h c).f t) = (xgr P n t h c, .bool b) := by kernel_rfl) : Good M P n W Q c := by
  obtain ⟨hk, hv⟩ := Prod.mk.inj hkt
  cases b with
  | true => exact x_set t h _ hv (h1 rfl) hk
  | false => exact x_set t h _ hv (h2 rfl) hk
theorem x_sum {k : IntKind} (t : Nat) (h : List Nat) (z : Int) (hz : k.wrap z = z) (hg : Good M P n W Q ((xgo P n t h c).st t (.int k z)))
    (hkt : (xgl P n t h c, (xgo P n t h c).f t) = (xgr P n t h c, .int k (k.wrap z)) := by kernel_rfl) : Good M P n W Q c :=  by
  obtain ⟨hk, hv⟩ := Prod.mk.inj hkt
  exact x_set t h _ (hv.trans (by rw [hz])) hg hk
/-- What the call holds, told otherwise. -/
theorem x_take (h : List Nat) (L' : List Blk) (hs : ∀ w, Own M W w (xgo P n nS h c).L → Own M W w L') (hg : Good M P n W Q { xgo P n nS h c with L := L' }) (hk : xgl P n nS h c = xgr P n nS h c := by kernel_rfl) (hqq : xQ (xgo P n nS h c) = false := by kernel_rfl) : Good M P n W Q c := by
  refine xgo_ok h c hk ?_
  generalize xgo P n nS h c = d at hs hg hqq ⊢
  obtain ⟨top, kk, L, f⟩ := d
  cases top with
  | ops a r => exact ⟨fun hq => s_take hs (hg.go hq)⟩
  | code x => exact ⟨fun hq => ok_take hs (hg.go hq)⟩
  | fin e => exact ⟨fun hq => fin_take hs (hg.go hq)⟩
  | _ => cases hqq
theorem x_alloc (h : List Nat) (hg : ∀ b, Good M P n W Q (xNew (xgo P n nS h c) ⟨b, (xZ P (xO (xgo P n nS h c))).cells, xTy (xO (xgo P n nS h c))⟩)) (hkt : (xgl P n nS h c, ((xgo P n nS h c).top, want (xA (xgo P n nS h c)) n (xgo P n nS h c).f (xO (xgo P n nS h c)), (xO (xgo P n nS h c)).op, (P.info? (xTy (xO (xgo P n nS h c)))).map (·.zero))) = (xgr P n nS h c, (.ops (xA (xgo P n nS h c)) (xO (xgo P n nS h c) :: xT (xgo P n nS h c)), true, .alloc (xTy (xO (xgo P n nS h c))), some (some (xZ P (xO (xgo P n nS h c)))))) := by kernel_rfl) : Good M P n W Q c := by
  obtain ⟨hk, ht⟩ := Prod.mk.inj hkt
  refine xgo_ok h c hk ?_
  generalize xgo P n nS h c = d at hg ht ⊢
  simp only [Prod.mk.injEq] at ht
  obtain ⟨e1, e2, e3, e4⟩ := ht
  have key := fun hq => s_alloc_at (M := M) (W := W) (Q := KQ M P n W Q d.k) (rest := xT d) (L := d.L) _ e2 e3 e4 fun b => (hg b).go hq
  have : d = ⟨.ops (xA d) (xO d :: xT d), d.k, d.L, d.f⟩ := by rw [← e1]
  rw [this]
  exact ⟨key⟩
theorem x_box (h : List Nat) (hg : ∀ b, Good M P n W Q (xNew (xgo P n nS h c) ⟨b, (xX n (xgo P n nS h c).f (xO (xgo P n nS h c))).cells, xTy (xO (xgo P n nS h c))⟩))
    (hkt : (xgl P n nS h c, (xgo P n nS h c).top, want (xA (xgo P n nS h c)) n (xgo P n nS h c).f (xO (xgo P n nS h c)), (xO (xgo P n nS h c)).op)
      = (xgr P n nS h c, .ops (xA (xgo P n nS h c)) (xO (xgo P n nS h c) :: xT (xgo P n nS h c)), true, .box (xTy (xO (xgo P n nS h c))) (xBx (xO (xgo P n nS h c)))) := by kernel_rfl) : Good M P n W Q c := by
  simp only [Prod.mk.injEq] at hkt
  obtain ⟨hk, e1, e2, e3⟩ := hkt
  refine xgo_ok h c hk ?_
  generalize xgo P n nS h c = d at *
  have hx : xX n d.f (xO d) = ev n d.f (xBx (xO d)) := by unfold xX; rw [e3]
  rw [hx] at hg
  have key := fun hq => s_box (M := M) (W := W) (Q := KQ M P n W Q d.k) (rest := xT d) (L := d.L) (ev n d.f (xBx (xO d))) e2 e3 rfl fun b => (hg b).go hq
  have : d = ⟨.ops (xA d) (xO d :: xT d), d.k, d.L, d.f⟩ := by rw [← e1]
  rw [this]
  exact ⟨key⟩
/-! ### Regions that draw their order and make memory -/
def xDr (c : Xc) : Array Oper := match xC c with
  | .region _ a true => a
  | _ => #[]
def xId (c : Xc) : Nat := match xC c with
  | .region i _ _ => i
  | _ => 0
/-- A drawn region: its first m operations in each order, the others (behind all of them) one by one. -/
theorem x_draw (m : Nat) (h : List Nat) (hg : Good M P n W Q ⟨.hps ((xDr (xgo P n nS h c)).toList.take m).toArray (Array.replicate m false) m (xgo P n nS h c).L, .tl (xDr (xgo P n nS h c)) ((xDr (xgo P n nS h c)).toList.drop m) :: (xgo P n nS h c).k, (xgo P n nS h c).L, (xgo P n nS h c).f⟩)
    (hkt : (xgl P n nS h c, (xgo P n nS h c).top, P.follows .mixedOrders, preB .any (xDr (xgo P n nS h c)).toList m) = (xgr P n nS h c, .code (.region (xId (xgo P n nS h c)) (xDr (xgo P n nS h c)) true), true, true) := by kernel_rfl) : Good M P n W Q c := by
  simp only [Prod.mk.injEq] at hkt
  obtain ⟨hk, e1, e2, e3⟩ := hkt
  refine xgo_ok h c hk ?_
  generalize xgo P n nS h c = d at hg e1 e3 ⊢
  generalize xDr d = a at hg e1 e3
  obtain ⟨l, rfl⟩ : ∃ l : List Oper, a = l.toArray := ⟨a.toList, by simp⟩
  have : d = ⟨.code (.region (xId d) l.toArray true), d.k, d.L, d.f⟩ := by rw [← e1]
  rw [this]
  have hg' : Good M P n W Q ⟨.hps (l.take m).toArray (Array.replicate m false) m d.L, .tl l.toArray (l.drop m) :: d.k, d.L, d.f⟩ := by simpa using hg
  exact ⟨fun hq => ok_drawh m d.L e2 (by simpa using e3) (hg'.go hq fun _ h => h)⟩
/-- The same; of the blocks L0 alone are held through the region (what it writes is left out). -/
theorem x_drawL (m : Nat) (h : List Nat) (L0 : List Blk) (hs : ∀ w, Own M W w (xgo P n nS h c).L → Own M W w L0) (hg : Good M P n W Q ⟨.hps ((xDr (xgo P n nS h c)).toList.take m).toArray (Array.replicate m false) m L0, .tl (xDr (xgo P n nS h c)) ((xDr (xgo P n nS h c)).toList.drop m) :: (xgo P n nS h c).k, (xgo P n nS h c).L, (xgo P n nS h c).f⟩)
    (hkt : (xgl P n nS h c, (xgo P n nS h c).top, P.follows .mixedOrders, preB .any (xDr (xgo P n nS h c)).toList m) = (xgr P n nS h c, .code (.region (xId (xgo P n nS h c)) (xDr (xgo P n nS h c)) true), true, true) := by kernel_rfl) : Good M P n W Q c := by
  simp only [Prod.mk.injEq] at hkt
  obtain ⟨hk, e1, e2, e3⟩ := hkt
  refine xgo_ok h c hk ?_
  generalize xgo P n nS h c = d at hs hg e1 e3 ⊢
  generalize xDr d = a at hg e1 e3
  obtain ⟨l, rfl⟩ : ∃ l : List Oper, a = l.toArray := ⟨a.toList, by simp⟩
  have : d = ⟨.code (.region (xId d) l.toArray true), d.k, d.L, d.f⟩ := by rw [← e1]
  rw [this]
  have hg' : Good M P n W Q ⟨.hps (l.take m).toArray (Array.replicate m false) m L0, .tl l.toArray (l.drop m) :: d.k, d.L, d.f⟩ := by simpa using hg
  exact ⟨fun hq => ok_drawh m L0 e2 (by simpa using e3) (hg'.go hq hs)⟩
def xS (c : Xc) : Array Bool := match c.top with
  | .hps _ s _ _ => s
  | _ => #[]
def xU (c : Xc) : Nat := match c.top with
  | .hps _ _ u _ => u.pred
  | _ => 0
def xL0 (c : Xc) : List Blk := match c.top with
  | .hps _ _ _ l => l
  | _ => []
def xHs (c : Xc) (i : Nat) : Xc := { c with top := .hst (xA c) (xS c) (xU c) (xL0 c) i }
/-- Of the first operations one alone may come up. -/
theorem x_h1 (h : List Nat) (i : Nat) (hg : Good M P n W Q (xHs (xgo P n nS h c) i))
    (hkt : (xgl P n nS h c, (xgo P n nS h c).top, Region.ready .any (xA (xgo P n nS h c)) (xS (xgo P n nS h c))) = (xgr P n nS h c, .hps (xA (xgo P n nS h c)) (xS (xgo P n nS h c)) (xU (xgo P n nS h c) + 1) (xL0 (xgo P n nS h c)), [i]) := by kernel_rfl) : Good M P n W Q c := by
  simp only [Prod.mk.injEq] at hkt
  obtain ⟨hk, e1, e2⟩ := hkt
  refine xgo_ok h c hk ?_
  generalize xgo P n nS h c = d at hg e1 e2 ⊢
  have : d = ⟨.hps (xA d) (xS d) (xU d + 1) (xL0 d), d.k, d.L, d.f⟩ := by rw [← e1]
  rw [this]
  exact ⟨fun hq hs => h_one i e2 (hg.go hq hs)⟩
theorem x_h2 (h : List Nat) (i j : Nat) (hg : Good M P n W Q (xHs (xgo P n nS h c) i)) (hg' : Good M P n W Q (xHs (xgo P n nS h c) j))
    (hkt : (xgl P n nS h c, (xgo P n nS h c).top, Region.ready .any (xA (xgo P n nS h c)) (xS (xgo P n nS h c))) = (xgr P n nS h c, .hps (xA (xgo P n nS h c)) (xS (xgo P n nS h c)) (xU (xgo P n nS h c) + 1) (xL0 (xgo P n nS h c)), [i, j]) := by kernel_rfl) : Good M P n W Q c := by
  simp only [Prod.mk.injEq] at hkt
  obtain ⟨hk, e1, e2⟩ := hkt
  refine xgo_ok h c hk ?_
  generalize xgo P n nS h c = d at hg hg' e1 e2 ⊢
  have : d = ⟨.hps (xA d) (xS d) (xU d + 1) (xL0 d), d.k, d.L, d.f⟩ := by rw [← e1]
  rw [this]
  exact ⟨fun hq hs => h_two i j e2 (hg.go hq hs) (hg'.go hq hs)⟩

def hS (c : Xc) : Array Bool := match c.top with
  | .hst _ s _ _ _ => s
  | _ => #[]
def hU (c : Xc) : Nat := match c.top with
  | .hst _ _ u _ _ => u
  | _ => 0
def hL (c : Xc) : List Blk := match c.top with
  | .hst _ _ _ l _ => l
  | _ => []
def hI (c : Xc) : Nat := match c.top with
  | .hst _ _ _ _ i => i
  | _ => 0
def hNew (c : Xc) (x : Blk) (v : Value) : Xc := ⟨.hps (xA c) ((hS c).setIfInBounds (hI c) true) (hU c) (hL c), c.k, x :: c.L, upd c.f (xO c).dst v⟩
theorem Own.left {L ob : List Blk} {w : World} (h : Own M W w (L ++ ob)) : Own M W w L := Own.sub ob (h.perm List.perm_append_comm)
/-- New memory in a drawn region. -/
theorem xh_alloc (hg : ∀ b, Good M P n W Q (hNew c ⟨b, (xZ P (xO c)).cells, xTy (xO c)⟩ (.pointer (some ⟨b, 0, none⟩))))
    (hkt : (c.top, (xA c)[hI c]?, want (xA c) n c.f (xO c), (xO c).op, (P.info? (xTy (xO c))).map (·.zero)) = (.hst (xA c) (hS c) (hU c) (hL c) (hI c), some (xO c), true, .alloc (xTy (xO c)), some (some (xZ P (xO c)))) := by kernel_rfl) : Good M P n W Q c := by
  simp only [Prod.mk.injEq] at hkt
  obtain ⟨e1, e2, e3, e4, e5⟩ := hkt
  have : c = ⟨.hst (xA c) (hS c) (hU c) (hL c) (hI c), c.k, c.L, c.f⟩ := by rw [← e1]
  rw [this]
  refine ⟨fun hq hs => hl_step (xO c) e2 e3 (fun _ _ _ => True) fun w hO => ?_⟩
  cases hi : P.info? (xTy (xO c)) with
  | none => rw [hi] at e5; cases e5
  | some i =>
    rw [hi] at e5
    have hz : i.zero = some (xZ P (xO c)) := Option.some.inj e5
    refine wp_val (.pointer (some ⟨w.heap.size, 0, none⟩)) (w' := w.alloc (.cells (xZ P (xO c)).cells (xTy (xO c)))) ?_ ⟨_, _, rfl, hO.alloc _ _, hs _ (Own.sub [_] (hO.alloc _ _)), (hg w.heap.size).go hq fun w hO => hs w (Own.sub [_] hO)⟩
    unfold execOp
    simp [e4, Instr.alloc, zeroValue, typeInfo, hi, hz, newVar, newRow, Sem.run_bind]
/-- A slice literal in a drawn region. -/
theorem xh_lit (len : Nat) (T : TypeId) (cs : Array Value) (hg : ∀ b, Good M P n W Q (hNew c ⟨b, cs, T⟩ (.slice (some ⟨b, 0, none⟩) len len)))
    (hkt : (c.top, (xA c)[hI c]?, want (xA c) n c.f (xO c), fun w => (execOp (ev n c.f) (xO c)).run P w) = (.hst (xA c) (hS c) (hU c) (hL c) (hI c), some (xO c), true, fun w => .ok (.value (.slice (some ⟨w.heap.size, 0, none⟩) len len)) (w.alloc (.cells cs T))) := by kernel_rfl) : Good M P n W Q c := by
  simp only [Prod.mk.injEq] at hkt
  obtain ⟨e1, e2, e3, e4⟩ := hkt
  have : c = ⟨.hst (xA c) (hS c) (hU c) (hL c) (hI c), c.k, c.L, c.f⟩ := by rw [← e1]
  rw [this]
  exact ⟨fun hq hs => hl_step (xO c) e2 e3 (fun _ _ _ => True) fun w hO => wp_val _ (congrFun e4 w) ⟨_, _, rfl, hO.alloc _ _, hs _ (Own.sub [_] (hO.alloc _ _)), (hg w.heap.size).go hq fun w hO => hs w (Own.sub [_] hO)⟩⟩
theorem x_lit (h : List Nat) (len : Nat) (T : TypeId) (cs : Array Value) (hg : ∀ b, Good M P n W Q ⟨.ops (xA (xgo P n nS h c)) (xT (xgo P n nS h c)), (xgo P n nS h c).k, ⟨b, cs, T⟩ :: (xgo P n nS h c).L, upd (xgo P n nS h c).f (xO (xgo P n nS h c)).dst (.slice (some ⟨b, 0, none⟩) len len)⟩)
    (hkt : (xgl P n nS h c, (xgo P n nS h c).top, want (xA (xgo P n nS h c)) n (xgo P n nS h c).f (xO (xgo P n nS h c)), fun w => (execOp (ev n (xgo P n nS h c).f) (xO (xgo P n nS h c))).run P w)
      = (xgr P n nS h c, .ops (xA (xgo P n nS h c)) (xO (xgo P n nS h c) :: xT (xgo P n nS h c)), true, fun w => .ok (.value (.slice (some ⟨w.heap.size, 0, none⟩) len len)) (w.alloc (.cells cs T))) := by kernel_rfl) : Good M P n W Q c := by
  simp only [Prod.mk.injEq] at hkt
  obtain ⟨hk, e1, e3, e4⟩ := hkt
  refine xgo_ok h c hk ?_
  generalize xgo P n nS h c = d at *
  have : d = ⟨.ops (xA d) (xO d :: xT d), d.k, d.L, d.f⟩ := by rw [← e1]
  rw [this]
  exact ⟨fun hq => s_step e3 fun w hO => wp_val _ (congrFun e4 w) (((hg w.heap.size).go hq).go _ (hO.alloc _ _))⟩
/-- A call in a drawn region that hands back new memory. -/
theorem xh_callM {k : FuncId} {args : Array Value} {R : Value → List Blk → Prop} (hc : ∀ w, Own M W w c.L → Calls P k args w fun e w' => ∃ v ob, e = .returned v ∧ R v ob ∧ Own [] w w' ob)
    (hg : ∀ v ob, R v ob → Good M P n W Q (xAdd (c.put v) ob))
    (hkt : (c.top, (xA c)[hI c]?, want (xA c) n c.f (xO c), fun w => (execOp (ev n c.f) (xO c)).run P w) = (.hst (xA c) (hS c) (hU c) (hL c) (hI c), some (xO c), true, fun w => .ok (.enter k args) w) := by kernel_rfl) : Good M P n W Q c := by
  simp only [Prod.mk.injEq] at hkt
  obtain ⟨e1, e2, e3, e4⟩ := hkt
  have hc' : c = ⟨.hst (xA c) (hS c) (hU c) (hL c) (hI c), c.k, c.L, c.f⟩ := by rw [← e1]
  have hg' : ∀ v ob, R v ob → Good M P n W Q ⟨.hps (xA c) ((hS c).setIfInBounds (hI c) true) (hU c) (hL c), c.k, c.L ++ ob, upd c.f (xO c).dst v⟩ := fun v ob h => by
    have hp : xAdd (c.put v) ob = ⟨.hps (xA c) ((hS c).setIfInBounds (hI c) true) (hU c) (hL c), c.k, c.L ++ ob, upd c.f (xO c).dst v⟩ := by
      have ho : xO c = (xA c).getD (hI c) default := by unfold xO; rw [e1]
      unfold Xc.put
      rw [e1, ho]
      rfl
    rw [← hp]; exact hg v ob h
  rw [hc']
  refine ⟨fun hq hs => hl_callx (xO c) (fun v L' => ∃ ob, L' = c.L ++ ob ∧ R v ob) e2 e3 (fun w => congrFun e4 w) (fun w hO => ((hc w hO).mono fun e w' ⟨v, ob, q1, q2, q3⟩ => ⟨v, c.L ++ ob, q1, ⟨ob, rfl, q2⟩, (Own.joinN hO q3).perm List.perm_append_comm⟩)) (fun v L' ⟨ob, e, _⟩ w hO => by subst e; exact hs w hO.left) ?_⟩
  rintro v L' ⟨ob, rfl, hR⟩
  exact (hg' v ob hR).go hq fun w hO => hs w hO.left

/-! ### The ways of a region, brought together -/
def xV (f : Nat → Value) (l : List (Nat × Value)) : List Value := l.map fun p => f p.1
theorem agrees_of {f : Nat → Value} : ∀ {l : List (Nat × Value)}, xV f l = l.map Prod.snd → Agrees f l
  | [], _ => trivial
  | p :: r, h => ⟨(List.cons.inj h).1, agrees_of (List.cons.inj h).2⟩
def xJ {α : Type} (lv : α → List (Nat × Value)) (Lf : α → List Blk) (rel : α → Prop) : List Blk → (Nat → Value) → Prop := fun L f => ∃ x, rel x ∧ L = Lf x ∧ Agrees f (lv x)
/-- What closes a way. -/
def Nj (M : List Nat) (P : Program) (n : Nat) (W : World) {α : Type} (lv : α → List (Nat × Value)) (Lf : α → List Blk) (rel : α → Prop) : Prop :=
  ∀ (x' : α) (h : List Nat) {c' : Xc}, rel x' → (xgl P n nS h c', (xgo P n nS h c').top, (xgo P n nS h c').k, (xgo P n nS h c').L, xV (xgo P n nS h c').f (lv x')) = (xgr P n nS h c', .fin .normal, [], Lf x', (lv x').map Prod.snd) → Good M P n W (JoinQ M n W (xJ lv Lf rel)) c'
theorem x_join {α : Type} (lv : α → List (Nat × Value)) (Lf : α → List Blk) (rel : α → Prop) (h : List Nat) (h1 : Nj M P n W lv Lf rel → Good M P n W (JoinQ M n W (xJ lv Lf rel)) ⟨.code (xC (xgo P n nS h c)), [], (xgo P n nS h c).L, (xgo P n nS h c).f⟩)
    (h2 : ∀ x g, rel x → Good M P n W Q ⟨.fin .normal, (xgo P n nS h c).k, Lf x, upds g (lv x)⟩) (hkt : (xgl P n nS h c, (xgo P n nS h c).top) = (xgr P n nS h c, .code (xC (xgo P n nS h c))) := by kernel_rfl) : Good M P n W Q c := by
  obtain ⟨hk, e1⟩ := Prod.mk.inj hkt
  refine xgo_ok h c hk ?_
  generalize xgo P n nS h c = d at *
  have : d = ⟨.code (xC d), d.k, d.L, d.f⟩ := by rw [← e1]
  rw [this]
  refine ⟨fun hq => ok_join (xJ lv Lf rel) ((h1 fun x' h c' hr hkt' => ?_).go pq_join) fun L f ⟨x, hr, hL, hA⟩ => ?_⟩
  · simp only [Prod.mk.injEq] at hkt'
    obtain ⟨hk', f1, f2, f3, f4⟩ := hkt'
    refine xgo_ok h c' hk' ?_
    generalize xgo P n nS h c' = d' at *
    have : d' = ⟨.fin .normal, [], d'.L, d'.f⟩ := by rw [← f1, ← f2]
    rw [this]
    exact ⟨fun _ => fin_join ⟨x', hr, f3, agrees_of f4⟩⟩
  · subst hL
    rw [upds_self _ hA]
    exact (h2 x f hr).go hq

/-- The ways of a test (its slot: d) brought together. -/
theorem x_joinC {α : Type} (d0 : Nat) (lv : α → List (Nat × Value)) (Lf : α → List Blk) (rel : α → Prop) (h : List Nat) (h1 : Nj M P n W lv Lf rel → Good M P n W (JoinQ M n W (xJ lv Lf rel)) ⟨.code (xC (xgo P n (xCt d0) h c)), [], (xgo P n (xCt d0) h c).L, (xgo P n (xCt d0) h c).f⟩)
    (h2 : ∀ x g, rel x → Good M P n W Q ⟨.fin .normal, (xgo P n (xCt d0) h c).k, Lf x, upds g (lv x)⟩) (hkt : (xgl P n (xCt d0) h c, (xgo P n (xCt d0) h c).top) = (xgr P n (xCt d0) h c, .code (xC (xgo P n (xCt d0) h c))) := by kernel_rfl) : Good M P n W Q c := by
  obtain ⟨hk, e1⟩ := Prod.mk.inj hkt
  refine xgo_ok h c hk ?_
  generalize xgo P n (xCt d0) h c = d at *
  have : d = ⟨.code (xC d), d.k, d.L, d.f⟩ := by rw [← e1]
  rw [this]
  refine ⟨fun hq => ok_join (xJ lv Lf rel) ((h1 fun x' h c' hr hkt' => ?_).go pq_join) fun L f ⟨x, hr, hL, hA⟩ => ?_⟩
  · simp only [Prod.mk.injEq] at hkt'
    obtain ⟨hk', f1, f2, f3, f4⟩ := hkt'
    refine xgo_ok h c' hk' ?_
    generalize xgo P n nS h c' = d' at *
    have : d' = ⟨.fin .normal, [], d'.L, d'.f⟩ := by rw [← f1, ← f2]
    rw [this]
    exact ⟨fun _ => fin_join ⟨x', hr, f3, agrees_of f4⟩⟩
  · subst hL
    rw [upds_self _ hA]
    exact (h2 x f hr).go hq

/-- A test's slot, at once. -/
theorem x_now (t : Nat) (p : Prop) [Decidable p] (h1 : p → Good M P n W Q (c.st t (.bool true))) (h2 : ¬ p → Good M P n W Q (c.st t (.bool false))) (hv : c.f t = .bool (decide p) := by kernel_rfl) : Good M P n W Q c := by
  by_cases hp : p
  · have h := h1 hp
    unfold Xc.st at h
    rw [← upd_self (hv.trans (by rw [decide_eq_true hp]))] at h
    exact h
  · have h := h2 hp
    unfold Xc.st at h
    rw [← upd_self (hv.trans (by rw [decide_eq_false hp]))] at h
    exact h

/-! ### Loops -/
def xI {α : Type} (lv : α → List (Nat × Value)) (Lf : α → List Blk) (rel : α → Nat → Prop) : List Blk → (Nat → Value) → Nat → Prop := fun L f m => ∃ x, rel x m ∧ L = Lf x ∧ Agrees f (lv x)
/-- What closes a round. -/
def Nx (M : List Nat) (P : Program) (n : Nat) (W : World) (Q : Exit → Act → World → Prop) {α : Type} (lv : α → List (Nat × Value)) (Lf : α → List Blk) (rel : α → Nat → Prop) (kk : List XIt) (k : Nat) : Prop :=
  ∀ (x' : α) (k' : Nat) (h : List Nat) {c' : Xc}, k' < k → rel x' k' → xgl P n nS h c' = xgr P n nS h c' → ((xgo P n nS h c').top, (xgo P n nS h c').k, (xgo P n nS h c').L, xV (xgo P n nS h c').f (lv x')) = (.fin .normal, kk, Lf x', (lv x').map Prod.snd) → Good M P n W Q c'
theorem x_loop {α : Type} (lv : α → List (Nat × Value)) (Lf : α → List Blk) (rel : α → Nat → Prop) (x0 : α) (m0 : Nat) (h : List Nat) (h0 : rel x0 m0)
    (hg : ∀ x k g kk, rel x k → Nx M P n W Q lv Lf rel (kk :: (xgo P n nS h c).k) k → kk = .lp (xI lv Lf rel) k → Good M P n W Q ⟨.code (xBody (xgo P n nS h c)), .lp (xI lv Lf rel) k :: (xgo P n nS h c).k, Lf x, upds g (lv x)⟩)
    (hkt : (xgl P n nS h c, ((xgo P n nS h c).top, (xgo P n nS h c).L, xV (xgo P n nS h c).f (lv x0))) = (xgr P n nS h c, (.code (.loop (xBody (xgo P n nS h c))), Lf x0, (lv x0).map Prod.snd)) := by kernel_rfl) : Good M P n W Q c := by
  obtain ⟨hk, ht⟩ := Prod.mk.inj hkt
  refine xgo_ok h c hk ?_
  generalize xgo P n nS h c = d at hg ht ⊢
  simp only [Prod.mk.injEq] at ht
  obtain ⟨e1, e2, e3⟩ := ht
  have : d = ⟨.code (.loop (xBody d)), d.k, d.L, d.f⟩ := by rw [← e1]
  rw [this]
  refine ⟨fun hq => ok_loop (xI lv Lf rel) m0 ⟨x0, h0, e2, agrees_of e3⟩ fun L f k ⟨x, hr, hL, hA⟩ => ?_⟩
  subst hL
  rw [upds_self _ hA]
  refine (hg x k f _ hr (fun x' k' h c' hlt hr' hk' ht' => xgo_ok h c' hk' ?_) rfl).go hq
  generalize xgo P n nS h c' = d' at ht' ⊢
  simp only [Prod.mk.injEq] at ht'
  obtain ⟨f1, f2, f3, f4⟩ := ht'
  have : d' = ⟨.fin .normal, .lp (xI lv Lf rel) k :: d.k, d'.L, d'.f⟩ := by rw [← f1, ← f2]
  rw [this]
  exact ⟨fun _ => fin_round hlt ⟨x', hr', f3, agrees_of f4⟩⟩

theorem fin_at {kk : List XIt} {L' : List Blk} {lv : List (Nat × Value)} {d : Xc} (hg : ∀ g, Good M P n W Q ⟨.fin .normal, kk, L', upds g lv⟩) (e1 : d.top = .fin .normal) (e2 : d.k = kk) (e3 : d.L = L') (e4 : xV d.f lv = lv.map Prod.snd) : Good M P n W Q d := by
  have hgo := hg d.f
  rw [← upds_self _ (agrees_of e4)] at hgo
  have : d = ⟨.fin .normal, kk, L', d.f⟩ := by rw [← e1, ← e2, ← e3]
  rw [this]
  exact hgo
/-- What closes a way out of a loop. -/
def Nex (M : List Nat) (P : Program) (n : Nat) (W : World) (Q : Exit → Act → World → Prop) {β : Type} (lv : β → List (Nat × Value)) (Lf : β → List Blk) (rel : β → Prop) (kk : List XIt) : Prop :=
  ∀ (y : β) (h : List Nat) {c' : Xc}, rel y → (xgl P n (xAt (xlen kk)) h c', (xgo P n (xAt (xlen kk)) h c').top, (xgo P n (xAt (xlen kk)) h c').k, (xgo P n (xAt (xlen kk)) h c').L, xV (xgo P n (xAt (xlen kk)) h c').f (lv y)) = (xgr P n (xAt (xlen kk)) h c', .fin .normal, kk, Lf y, (lv y).map Prod.snd) → Good M P n W Q c'
/-- A loop (the body of a block) whose ways out come together. -/
theorem x_loopE {α β : Type} (lv : α → List (Nat × Value)) (Lf : α → List Blk) (rel : α → Nat → Prop) (x0 : α) (m0 : Nat) (lvE : β → List (Nat × Value)) (LfE : β → List Blk) (relE : β → Prop) (h : List Nat) (h0 : rel x0 m0)
    (hg : ∀ x k g, rel x k → Nx M P n W Q lv Lf rel (.lp (xI lv Lf rel) k :: (xgo P n nS h c).k) k → Nex M P n W Q lvE LfE relE (xgo P n nS h c).k.tail → Good M P n W Q ⟨.code (xBody (xgo P n nS h c)), .lp (xI lv Lf rel) k :: (xgo P n nS h c).k, Lf x, upds g (lv x)⟩)
    (he : ∀ y g, relE y → Good M P n W Q ⟨.fin .normal, (xgo P n nS h c).k.tail, LfE y, upds g (lvE y)⟩)
    (hkt : (xgl P n nS h c, (xgo P n nS h c).top, (xgo P n nS h c).L, xV (xgo P n nS h c).f (lv x0)) = (xgr P n nS h c, .code (.loop (xBody (xgo P n nS h c))), Lf x0, (lv x0).map Prod.snd) := by kernel_rfl) : Good M P n W Q c := by
  refine x_loop lv Lf rel x0 m0 h h0 (fun x k g kk hr nx hkk => ?_) hkt
  subst hkk
  refine hg x k g hr nx fun y h' c' hy hkt' => ?_
  simp only [Prod.mk.injEq] at hkt'
  obtain ⟨hk, e1, e2, e3, e4⟩ := hkt'
  exact xgo_ok h' c' hk (fin_at (fun g => he y g hy) e1 e2 e3 e4)
/-- A loop of at most m rounds (m a number): each is gone. -/
theorem x_rounds (m : Nat) (h : List Nat) (hg : Good M P n W Q ⟨.code (xBody (xgo P n nS h c)), .rd (xBody (xgo P n nS h c)) m :: (xgo P n nS h c).k, (xgo P n nS h c).L, (xgo P n nS h c).f⟩)
    (hkt : (xgl P n nS h c, (xgo P n nS h c).top) = (xgr P n nS h c, .code (.loop (xBody (xgo P n nS h c)))) := by kernel_rfl) : Good M P n W Q c := by
  obtain ⟨hk, e1⟩ := Prod.mk.inj hkt
  refine xgo_ok h c hk ?_
  generalize xgo P n nS h c = d at *
  have : d = ⟨.code (.loop (xBody d)), d.k, d.L, d.f⟩ := by rw [← e1]
  rw [this]
  exact ⟨fun hq => ⟨fun w hO => wp_loop_rounds (m + 1) ((hg.go hq).go w hO)⟩⟩

/-! ### In and out -/
theorem x_enter {k : FuncId} {fn : Func} {args : Array Value} {R : Ending → World → Prop} (hf : P.funcs[k]? = some fn) (hg : Good [] P fn.ntmps W (bodyPost P fn R) ⟨.code (fn.body.getD .skip), [], [], fun t => args.getD t undef⟩)
    (hb : fn.body.isSome = true := by kernel_rfl) (hle : Nat.ble args.size fn.ntmps = true := by kernel_rfl) : Calls P k args W R := by
  cases hb' : fn.body with
  | none => rw [hb'] at hb; cases hb
  | some b => rw [hb'] at hg; exact calls_ok hf hb' rfl hle (hg.go pq_body)
def xRt (fn : Func) (i : Nat) : Tmp := match fn.results[i]? with
  | some (.tmp t) => t
  | some (.cell t _) => t
  | _ => 0
def xRy (fn : Func) (i : Nat) : TypeId := match fn.results[i]? with
  | some (.cell _ y) => y
  | _ => 0
theorem x_ret {fn : Func} {R : Ending → World → Prop} (h : List Nat) (v : Value) (hR : ∀ w, Own M W w (xgo P n nS h c).L → R (.returned v) w) (hkt : (xgl P n nS h c, ((xgo P n nS h c).top, (xgo P n nS h c).k, fn.results, ev n (xgo P n nS h c).f (.tmp (xRt fn 0)))) = (xgr P n nS h c, (.fin .ret, [], #[.tmp (xRt fn 0)], v)) := by kernel_rfl) : Good M P n W (bodyPost P fn R) c := by
  obtain ⟨hk, ht⟩ := Prod.mk.inj hkt
  refine xgo_ok h c hk ?_
  generalize xgo P n nS h c = d at hR ht ⊢
  obtain ⟨top, kk, L, f⟩ := d
  simp only [Prod.mk.injEq] at ht
  obtain ⟨rfl, rfl, e3, e4⟩ := ht
  exact ⟨fun _ => fin_ret v e3 e4 hR⟩
theorem x_retc {fn : Func} {R : Ending → World → Prop} (h : List Nat) (i : Nat) (v : Value) (hR : ∀ w, Own M W w (xgo P n nS h c).L → R (.returned v) w) (hkt : (xgl P n nS h c, ((xgo P n nS h c).top, (xgo P n nS h c).k, fn.results, (xgo P n nS h c).L[i]?, ev n (xgo P n nS h c).f (.tmp (xRt fn 0)), readAt P (xRy fn 0) (xBlk (xgo P n nS h c).L i).cs 0)) = (xgr P n nS h c, (.fin .ret, [], #[.cell (xRt fn 0) (xRy fn 0)], some (xBlk (xgo P n nS h c).L i), .pointer (some ⟨(xBlk (xgo P n nS h c).L i).b, 0, none⟩), some v)) := by kernel_rfl) : Good M P n W (bodyPost P fn R) c := by
  obtain ⟨hk, ht⟩ := Prod.mk.inj hkt
  refine xgo_ok h c hk ?_
  generalize xgo P n nS h c = d at hR ht ⊢
  obtain ⟨top, kk, L, f⟩ := d
  simp only [Prod.mk.injEq] at ht
  obtain ⟨rfl, rfl, e3, e4, e5, e6⟩ := ht
  exact ⟨fun _ => fin_cell i _ v e3 e4 e5 e6 hR⟩
end

end Go.Proofs.Ytglbfknmeojfkaa
end

section
/-
  Plain: markers as trees (chapter 10): their nodes in postorder, their words, the reading of words, the check of nodes. No program is named here.
-/
namespace Go.Proofs.Ytglbfknmeojfkaa
set_option linter.unusedVariables false
set_option linter.unusedSimpArgs false

/-- A node as it lies. -/
structure Nd where
  op : Int
  a : Int
  b : Int
  key : Int
  text : List UInt8
deriving DecidableEq
inductive Tr where
  | is (k : Nat) (t : List UInt8)
  | no (x : Tr)
  | both (x y : Tr)
  | one (x y : Tr)
deriving DecidableEq
def Tr.sz : Tr → Nat
  | .is _ _ => 1
  | .no x => x.sz + 1
  | .both x y => x.sz + y.sz + 1
  | .one x y => x.sz + y.sz + 1
/-- The nodes, the first at place o. -/
def Tr.enc : Nat → Tr → List Nd
  | _, .is k t => [⟨1, 0, 0, k, t⟩]
  | o, .no x => x.enc o ++ [⟨2, ((o + x.sz - 1 : Nat) : Int), 0, 0, []⟩]
  | o, .both x y => x.enc o ++ y.enc (o + x.sz) ++ [⟨3, ((o + x.sz - 1 : Nat) : Int), ((o + x.sz + y.sz - 1 : Nat) : Int), 0, []⟩]
  | o, .one x y => x.enc o ++ y.enc (o + x.sz) ++ [⟨4, ((o + x.sz - 1 : Nat) : Int), ((o + x.sz + y.sz - 1 : Nat) : Int), 0, []⟩]
def wdL (s : List UInt8) : Bool := decide (1 ≤ s.length ∧ s.length ≤ 12) && wordGo s
def Tr.ok : Tr → Bool
  | .is k t => decide (k < 3) && wdL t
  | .no x => x.ok
  | .both x y => x.ok && y.ok
  | .one x y => x.ok && y.ok
def Tr.isOne : Tr → Bool
  | .one _ _ => true
  | _ => false
def Tr.isBin : Tr → Bool
  | .one _ _ => true
  | .both _ _ => true
  | _ => false
/-! ### Words -/
abbrev Tok := List UInt8
def keyL (k : Nat) : Tok := if k = 0 then [111, 115] else if k = 1 then [97, 114, 99, 104] else [97, 98, 105]
def tEq : Tok := [61]
def tNe : Tok := [33, 61]
def tNot : Tok := [110, 111, 116]
def tAnd : Tok := [97, 110, 100]
def tOr : Tok := [111, 114]
def tOpen : Tok := [40]
def tClose : Tok := [41]
def wrapT (c : Bool) (l : List Tok) : List Tok := if c then tOpen :: (l ++ [tClose]) else l
def Tr.tok : Tr → List Tok
  | .is k t => [keyL k, tEq, t]
  | .no (.is k t) => [keyL k, tNe, t]
  | .no (.no x) => tNot :: (Tr.no x).tok
  | .no (.both x y) => tNot :: wrapT true (Tr.both x y).tok
  | .no (.one x y) => tNot :: wrapT true (Tr.one x y).tok
  | .both x y => wrapT x.isOne x.tok ++ tAnd :: wrapT y.isBin y.tok
  | .one x y => x.tok ++ tOr :: wrapT y.isOne y.tok
def Tr.text (t : Tr) : List UInt8 := joinL 32 t.tok
/-! ### Reading -/
def keyN (k : Tok) : Option Nat := if k = keyL 0 then some 0 else if k = keyL 1 then some 1 else if k = keyL 2 then some 2 else none
def atomT (k s v : Tok) : Option Tr := match keyN k with
  | none => none
  | some n => if wdL v then (if s = tEq then some (.is n v) else if s = tNe then some (.no (.is n v)) else none) else none
def pLoop (part : List Tok → Option (Tr × List Tok)) (w : Tok) (mk : Tr → Tr → Tr) : Nat → Tr → List Tok → Option (Tr × List Tok)
  | 0, a, ts => some (a, ts)
  | _ + 1, a, [] => some (a, [])
  | k + 1, a, c :: r => if c = w then (match part r with | none => none | some (b, r') => pLoop part w mk k (mk a b) r') else some (a, c :: r)
def pChain (part : List Tok → Option (Tr × List Tok)) (w : Tok) (mk : Tr → Tr → Tr) (ts : List Tok) : Option (Tr × List Tok) := match part ts with
  | none => none
  | some (a, r) => pLoop part w mk r.length a r
/-- Atoms: the first three words. -/
def pAtom : List Tok → Option (Tr × List Tok)
  | k :: s :: v :: r => match atomT k s v with | none => none | some t => some (t, r)
  | _ => none
def pClose : Option (Tr × List Tok) → Option (Tr × List Tok)
  | some (t, c :: r) => if c = tClose then some (t, r) else none
  | _ => none
def pNo : Option (Tr × List Tok) → Option (Tr × List Tok)
  | some (t, r) => some (.no t, r)
  | none => none
def pFac : Nat → List Tok → Option (Tr × List Tok)
  | 0, _ => none
  | _ + 1, [] => none
  | n + 1, c :: r => if c = tNot then pNo (pFac n r) else if c = tOpen then pClose (pChain (pChain (pFac n) tAnd .both) tOr .one r) else pAtom (c :: r)
def pAnd (n : Nat) : List Tok → Option (Tr × List Tok) := pChain (pFac n) tAnd .both
def pOr (n : Nat) : List Tok → Option (Tr × List Tok) := pChain (pAnd n) tOr .one
/-- Less is left. -/
def Eats (part : List Tok → Option (Tr × List Tok)) : Prop := ∀ ts t r, part ts = some (t, r) → r.length < ts.length
/-! ### What a tree's words are read as -/
/-- Behind the words of a tree that is no One: the loop over 'and' stands behind it. -/
def AndAt (t : Tr) : Prop := ∀ (n : Nat) (rest : List Tok), (t.tok ++ rest).length ≤ n → pAnd n (t.tok ++ rest) = pLoop (pFac n) tAnd .both rest.length t rest
def OrAt (t : Tr) : Prop := ∀ (n : Nat) (rest : List Tok), (t.tok ++ rest).length ≤ n → rest.head? ≠ some tAnd → pOr n (t.tok ++ rest) = pLoop (pAnd n) tOr .one rest.length t rest
def FacAt (t : Tr) : Prop := ∀ (n : Nat) (rest : List Tok), (wrapT t.isBin t.tok ++ rest).length ≤ n → pFac n (wrapT t.isBin t.tok ++ rest) = some (t, rest)
end Go.Proofs.Ytglbfknmeojfkaa
end

section
/-
  Plain: texts in strictly ascending order; features (chapter 11): items, valid lists, what is closed. No program is named here.
-/
namespace Go.Proofs.Ytglbfknmeojfkaa
set_option linter.unusedVariables false
set_option linter.unusedSimpArgs false

/-! ### The order of texts -/
theorem lt_irr : ∀ a : List UInt8, Op.bytesLess a a = false
  | [] => rfl
  | c :: r => by rw [Op.bytesLess, lt_irr r]; simp
theorem lt_tra : ∀ a b c : List UInt8, Op.bytesLess a b = true → Op.bytesLess b c = true → Op.bytesLess a c = true
  | _, [], _, h, _ => by cases ‹List UInt8› <;> simp [Op.bytesLess] at h
  | [], b :: x, [], _, h => by simp [Op.bytesLess] at h
  | [], b :: x, c :: y, _, _ => rfl
  | a :: z, b :: x, [], _, h => by simp [Op.bytesLess] at h
  | a :: z, b :: x, c :: y, h1, h2 => by
    rw [Op.bytesLess] at h1 h2 ⊢
    simp only [Bool.or_eq_true, Bool.and_eq_true, decide_eq_true_eq, beq_iff_eq] at h1 h2 ⊢
    rcases h1 with h1 | ⟨h1, h3⟩
    · rcases h2 with h2 | ⟨h2, h4⟩
      · exact .inl (UInt8.lt_trans h1 h2)
      · exact .inl (h2 ▸ h1)
    · rcases h2 with h2 | ⟨h2, h4⟩
      · exact .inl (h1 ▸ h2)
      · exact .inr ⟨h1.trans h2, lt_tra z x y h3 h4⟩
theorem lt_tri : ∀ a b : List UInt8, Op.bytesLess a b = false → a ≠ b → Op.bytesLess b a = true
  | [], [], _, h => absurd rfl h
  | [], b :: x, h, _ => by simp [Op.bytesLess] at h
  | a :: z, [], _, _ => rfl
  | a :: z, b :: x, h, hn => by
    rw [Op.bytesLess] at h ⊢
    simp only [Bool.or_eq_false_iff, Bool.and_eq_false_iff, decide_eq_false_iff_not, beq_eq_false_iff_ne, Bool.or_eq_true, Bool.and_eq_true, decide_eq_true_eq, beq_iff_eq] at h ⊢
    by_cases e : a = b
    · subst e
      exact .inr ⟨rfl, lt_tri z x (h.2.resolve_left (fun q => q rfl)) (fun q => hn (by rw [q]))⟩
    · exact .inl (UInt8.lt_of_le_of_ne (UInt8.not_lt.1 h.1) (fun q => e q.symm))
theorem lt_asy {a b : List UInt8} (h : Op.bytesLess a b = true) : Op.bytesLess b a = false := by
  cases hb : Op.bytesLess b a with
  | false => rfl
  | true => have := lt_tra _ _ _ h hb; rw [lt_irr] at this; cases this
/-! ### Rising lists -/
def riseT : List (List UInt8) → Bool
  | a :: b :: r => Op.bytesLess a b && riseT (b :: r)
  | _ => true
theorem riseT_tail {a : List UInt8} {r : List (List UInt8)} (h : riseT (a :: r) = true) : riseT r = true := by
  cases r with
  | nil => rfl
  | cons b r => rw [riseT, Bool.and_eq_true] at h; exact h.2
theorem rise_all : ∀ {r : List (List UInt8)} {a : List UInt8}, riseT (a :: r) = true → ∀ x ∈ r, Op.bytesLess a x = true
  | [], a, _, x, hx => by cases hx
  | b :: r, a, h, x, hx => by
    rw [riseT, Bool.and_eq_true] at h
    rcases List.mem_cons.1 hx with rfl | hx
    · exact h.1
    · exact lt_tra _ _ _ h.1 (rise_all h.2 x hx)
theorem riseT_cons {a : List UInt8} {r : List (List UInt8)} (h : riseT r = true) (ha : ∀ x ∈ r, Op.bytesLess a x = true) : riseT (a :: r) = true := by
  cases r with
  | nil => rfl
  | cons b r => rw [riseT, ha b (List.mem_cons_self ..), h]; rfl
/-- Two that rise and hold the same are the same. -/
theorem rise_ext : ∀ {x y : List (List UInt8)}, riseT x = true → riseT y = true → (∀ z, z ∈ x ↔ z ∈ y) → x = y
  | [], [], _, _, _ => rfl
  | [], b :: y, _, _, h => by have := (h b).2 (List.mem_cons_self ..); cases this
  | a :: x, [], _, _, h => by have := (h a).1 (List.mem_cons_self ..); cases this
  | a :: x, b :: y, hx, hy, h => by
    have ax := rise_all hx
    have by' := rise_all hy
    have e : a = b := by
      rcases List.mem_cons.1 ((h a).1 (List.mem_cons_self ..)) with e | e
      · exact e
      · rcases List.mem_cons.1 ((h b).2 (List.mem_cons_self ..)) with e2 | e2
        · exact e2.symm
        · have q := lt_tra _ _ _ (by' a e) (ax b e2)
          rw [lt_irr] at q; cases q
    subst e
    have := rise_ext (riseT_tail hx) (riseT_tail hy) fun z => by
      constructor
      · intro hz
        rcases List.mem_cons.1 ((h z).1 (List.mem_cons_of_mem _ hz)) with e | e
        · have q := ax z hz; rw [e, lt_irr] at q; cases q
        · exact e
      · intro hz
        rcases List.mem_cons.1 ((h z).2 (List.mem_cons_of_mem _ hz)) with e | e
        · have q := by' z hz; rw [e, lt_irr] at q; cases q
        · exact e
    rw [this]
/-- A text among rising ones, once. -/
def putT : List (List UInt8) → List UInt8 → List (List UInt8)
  | [], s => [s]
  | a :: r, s => if Op.bytesLess a s then a :: putT r s else if a = s then a :: r else s :: a :: r
theorem put_mem : ∀ {l : List (List UInt8)} {s x : List UInt8}, x ∈ putT l s ↔ x = s ∨ x ∈ l
  | [], s, x => by simp [putT]
  | a :: r, s, x => by
    rw [putT]
    split
    · rw [List.mem_cons, put_mem, List.mem_cons]
      constructor
      · rintro (h | h | h)
        · exact .inr (.inl h)
        · exact .inl h
        · exact .inr (.inr h)
      · rintro (h | h | h)
        · exact .inr (.inl h)
        · exact .inl h
        · exact .inr (.inr h)
    · split
      · rename_i e
        rw [e, List.mem_cons]
        constructor
        · exact .inr
        · rintro (h | h)
          · exact .inl h
          · exact h
      · rw [List.mem_cons]
theorem put_rise : ∀ {l : List (List UInt8)} {s : List UInt8}, riseT l = true → riseT (putT l s) = true
  | [], s, _ => rfl
  | a :: r, s, h => by
    rw [putT]
    split
    · rename_i h1
      refine riseT_cons (put_rise (riseT_tail h)) fun x hx => ?_
      rcases put_mem.1 hx with rfl | hx
      · exact h1
      · exact rise_all h x hx
    · split
      · exact h
      · rename_i h1 h2
        have q := lt_tri a s (by simpa using h1) h2
        refine riseT_cons h fun x hx => ?_
        rcases List.mem_cons.1 hx with rfl | hx
        · exact q
        · exact lt_tra _ _ _ q (rise_all h x hx)
theorem put_at : ∀ {l : List (List UInt8)} {s : List UInt8} (k : Nat), (∀ x ∈ l.take k, Op.bytesLess x s = true) → putT l s = l.take k ++ putT (l.drop k) s
  | l, s, 0, _ => by simp
  | [], s, k + 1, _ => by simp
  | a :: r, s, k + 1, h => by
    rw [List.take_succ_cons] at h ⊢
    rw [List.drop_succ_cons, putT, if_pos (h a (List.mem_cons_self ..)), put_at k (fun x hx => h x (List.mem_cons_of_mem _ hx))]; rfl
/-! ### Features -/
structure Ft where
  name : List UInt8
  of : List (List UInt8)
def nmL (s : List UInt8) : Bool := nameB (mkS s)
def dfl : List UInt8 := [100, 101, 102, 97, 117, 108, 116]
/-- What an item is. -/
def kindT (s : List UInt8) : Int × List UInt8 × List UInt8 :=
  if wdL s then (1, s, [])
  else if decide (s.head? = some 63) && wdL (s.drop 1) then (2, s.drop 1, [])
  else match splitL 47 [] s with
    | [a, b] => if nmL a && wdL b then (3, a, b) else (0, [], [])
    | _ => (0, [], [])
def findT (l : List Ft) (n : List UInt8) : Option Nat := l.findIdx? fun f => decide (f.name = n)
def isT (l : List Ft) (n : List UInt8) : Bool := decide (n = dfl) || (findT l n).isSome
def okItem (l : List Ft) (s : List UInt8) : Bool := decide ((kindT s).1 ≠ 0) && (decide ((kindT s).1 ≠ 1) || isT l (kindT s).2.1)
def itemsT (l : List Ft) (of : List (List UInt8)) : Bool := decide (of.length ≤ 6) && riseT of && of.all (okItem l)
def mayF (l : List Ft) : Bool := decide (l.length ≤ 8) && l.all (fun f => wdL f.name) && riseT (l.map Ft.name) && l.all (fun f => itemsT l f.of)
def ofT (l : List Ft) (n : List UInt8) : List (List UInt8) := match l.find? fun f => decide (f.name = n) with
  | some f => f.of
  | none => []
/-- What is on: asked for, or named by an item of one that is on. -/
inductive On (l : List Ft) (asked : List (List UInt8)) : List UInt8 → Prop
  | ask {x} (h : x ∈ asked) : On l asked x
  | of {f s} (h : On l asked f) (hs : s ∈ ofT l f) (hk : (kindT s).1 = 1) : On l asked (kindT s).2.1
/-- The items of a kind that those which are on have. -/
def Has (l : List Ft) (on : List (List UInt8)) (k : Int) (s : List UInt8) : Prop := ∃ f ∈ on, s ∈ ofT l f ∧ (kindT s).1 = k
/-- One feature's items of a kind, by what they say. -/
def putK (k : Int) (val : List UInt8 → List UInt8) (acc : List (List UInt8)) : List (List UInt8) → List (List UInt8)
  | [] => acc
  | s :: r => putK k val (if (kindT s).1 = k then putT acc (val s) else acc) r
def collK (k : Int) (val : List UInt8 → List UInt8) (l : List Ft) (acc : List (List UInt8)) : List (List UInt8) → List (List UInt8)
  | [] => acc
  | f :: r => collK k val l (putK k val acc (ofT l f)) r
def wordOf (s : List UInt8) : List UInt8 := (kindT s).2.1
abbrev roundT (l : List Ft) (acc on : List (List UInt8)) : List (List UInt8) := collK 1 wordOf l acc on
def rounds (l : List Ft) : Nat → List (List UInt8) → List (List UInt8)
  | 0, on => on
  | n + 1, on => rounds l n (roundT l on on)
def asksT (asked : List (List UInt8)) : List (List UInt8) := asked.foldl putT []
theorem putK_mem {k : Int} {val : List UInt8 → List UInt8} : ∀ {r acc : List (List UInt8)} {x : List UInt8}, x ∈ putK k val acc r ↔ x ∈ acc ∨ ∃ s ∈ r, (kindT s).1 = k ∧ x = val s
  | [], acc, x => by simp [putK]
  | s :: r, acc, x => by
    rw [putK, putK_mem]
    by_cases h : (kindT s).1 = k
    · rw [if_pos h, put_mem]
      constructor
      · rintro ((h1 | h1) | ⟨t, ht, h1⟩)
        · exact .inr ⟨s, List.mem_cons_self .., h, h1⟩
        · exact .inl h1
        · exact .inr ⟨t, List.mem_cons_of_mem _ ht, h1⟩
      · rintro (h1 | ⟨t, ht, h1, h2⟩)
        · exact .inl (.inr h1)
        · rcases List.mem_cons.1 ht with rfl | ht
          · exact .inl (.inl h2)
          · exact .inr ⟨t, ht, h1, h2⟩
    · rw [if_neg h]
      constructor
      · rintro (h1 | ⟨t, ht, h1⟩)
        · exact .inl h1
        · exact .inr ⟨t, List.mem_cons_of_mem _ ht, h1⟩
      · rintro (h1 | ⟨t, ht, h1, h2⟩)
        · exact .inl h1
        · rcases List.mem_cons.1 ht with rfl | ht
          · exact absurd h1 h
          · exact .inr ⟨t, ht, h1, h2⟩
theorem putK_rise {k : Int} {val : List UInt8 → List UInt8} : ∀ {r acc : List (List UInt8)}, riseT acc = true → riseT (putK k val acc r) = true
  | [], acc, h => h
  | s :: r, acc, h => by
    rw [putK]
    refine putK_rise ?_
    split
    · exact put_rise h
    · exact h
theorem collK_mem {k : Int} {val : List UInt8 → List UInt8} {l : List Ft} : ∀ {r acc : List (List UInt8)} {x : List UInt8}, x ∈ collK k val l acc r ↔ x ∈ acc ∨ ∃ f ∈ r, ∃ s ∈ ofT l f, (kindT s).1 = k ∧ x = val s
  | [], acc, x => by simp [collK]
  | f :: r, acc, x => by
    rw [collK, collK_mem, putK_mem]
    constructor
    · rintro ((h | h) | ⟨g, hg, h⟩)
      · exact .inl h
      · exact .inr ⟨f, List.mem_cons_self .., h⟩
      · exact .inr ⟨g, List.mem_cons_of_mem _ hg, h⟩
    · rintro (h | ⟨g, hg, h⟩)
      · exact .inl (.inl h)
      · rcases List.mem_cons.1 hg with rfl | hg
        · exact .inl (.inr h)
        · exact .inr ⟨g, hg, h⟩
theorem collK_rise {k : Int} {val : List UInt8 → List UInt8} {l : List Ft} : ∀ {r acc : List (List UInt8)}, riseT acc = true → riseT (collK k val l acc r) = true
  | [], acc, h => h
  | f :: r, acc, h => by rw [collK]; exact collK_rise (putK_rise h)
theorem rounds_rise {l : List Ft} : ∀ {n : Nat} {on : List (List UInt8)}, riseT on = true → riseT (rounds l n on) = true
  | 0, on, h => h
  | n + 1, on, h => by rw [rounds]; exact rounds_rise (collK_rise h)
theorem asks_mem : ∀ {r acc : List (List UInt8)} {x : List UInt8}, x ∈ r.foldl putT acc ↔ x ∈ acc ∨ x ∈ r
  | [], acc, x => by simp
  | s :: r, acc, x => by
    rw [List.foldl_cons, asks_mem, put_mem, List.mem_cons]
    constructor
    · rintro ((h | h) | h)
      · exact .inr (.inl h)
      · exact .inl h
      · exact .inr (.inr h)
    · rintro (h | h | h)
      · exact .inl (.inr h)
      · exact .inl (.inl h)
      · exact .inr h
theorem asks_rise : ∀ {r acc : List (List UInt8)}, riseT acc = true → riseT (r.foldl putT acc) = true
  | [], acc, h => h
  | s :: r, acc, h => by rw [List.foldl_cons]; exact asks_rise (put_rise h)
/-- Nothing comes on that need not. -/
theorem rounds_on {l : List Ft} {asked : List (List UInt8)} : ∀ {n : Nat} {on : List (List UInt8)}, (∀ x ∈ on, On l asked x) → ∀ x ∈ rounds l n on, On l asked x
  | 0, on, h, x, hx => h x hx
  | n + 1, on, h, x, hx => by
    rw [rounds] at hx
    refine rounds_on (n := n) (on := roundT l on on) (fun y hy => ?_) x hx
    rcases collK_mem.1 hy with hy | ⟨f, hf, s, hs, hk, rfl⟩
    · exact h y hy
    · exact .of (h f hf) hs hk
theorem rounds_more {l : List Ft} : ∀ {n : Nat} {on : List (List UInt8)}, ∀ x ∈ on, x ∈ rounds l n on
  | 0, on, x, hx => hx
  | n + 1, on, x, hx => by rw [rounds]; exact rounds_more x (collK_mem.2 (.inl hx))
/-! ### Enough rounds -/
theorem rise_len : ∀ {y x : List (List UInt8)}, riseT x = true → riseT y = true → (∀ z ∈ x, z ∈ y) → x.length ≤ y.length ∧ (x.length = y.length → x = y)
  | [], x, _, _, h => by
    have : x = [] := List.eq_nil_iff_forall_not_mem.2 fun z hz => by have := h z hz; cases this
    subst this; exact ⟨Nat.le_refl _, fun _ => rfl⟩
  | b :: y, [], _, _, _ => ⟨Nat.zero_le _, fun e => by cases e⟩
  | b :: y, a :: x, hx, hy, h => by
    have ax := rise_all hx
    have yb := rise_all hy
    rcases List.mem_cons.1 (h a (List.mem_cons_self ..)) with e | e
    · subst e
      have := rise_len (riseT_tail hx) (riseT_tail hy) fun z hz => by
        rcases List.mem_cons.1 (h z (List.mem_cons_of_mem _ hz)) with e | e
        · have q := ax z hz; rw [e, lt_irr] at q; cases q
        · exact e
      exact ⟨Nat.succ_le_succ this.1, fun e => by rw [this.2 (Nat.succ.inj e)]⟩
    · have hb := yb a e
      have := rise_len hx (riseT_tail hy) fun z hz => by
        rcases List.mem_cons.1 (h z hz) with e2 | e2
        · rcases List.mem_cons.1 hz with e3 | e3
          · exact e3 ▸ e
          · have q := lt_tra _ _ _ hb (ax z e3); rw [e2, lt_irr] at q; cases q
        · exact e2
      have h1 := this.1
      exact ⟨Nat.le_succ_of_le h1, fun e => by rw [List.length_cons (a := b)] at e; omega⟩
theorem put_len : ∀ {l : List (List UInt8)} {s : List UInt8}, (putT l s).length ≤ l.length + 1
  | [], s => Nat.le_refl _
  | a :: r, s => by
    rw [putT]
    split
    · have := put_len (l := r) (s := s); simp only [List.length_cons]; omega
    · split <;> simp
theorem rounds_fix {l : List Ft} {on : List (List UInt8)} (h : roundT l on on = on) : ∀ n, rounds l n on = on
  | 0 => rfl
  | n + 1 => by rw [rounds, h]; exact rounds_fix h n
theorem rounds_len {l : List Ft} : ∀ (n : Nat) (on : List (List UInt8)), riseT on = true → roundT l (rounds l n on) (rounds l n on) = rounds l n on ∨ on.length + n ≤ (rounds l n on).length
  | 0, on, h => .inr (Nat.le_refl _)
  | n + 1, on, h => by
    by_cases e : roundT l on on = on
    · rw [rounds_fix e]; exact .inl e
    · have hr : riseT (roundT l on on) = true := collK_rise h
      have hl := rise_len h hr fun z hz => collK_mem.2 (.inl hz)
      have hlt : on.length < (roundT l on on).length := Nat.lt_of_le_of_ne hl.1 fun q => e (hl.2 q).symm
      rcases rounds_len n (roundT l on on) hr with q | q
      · exact .inl q
      · right; rw [rounds]; omega
theorem findT_mem {l : List Ft} {n : List UInt8} (h : (findT l n).isSome = true) : n ∈ l.map Ft.name := by
  unfold findT at h
  rw [List.findIdx?_isSome, List.any_eq_true] at h
  obtain ⟨f, hf, e⟩ := h
  exact List.mem_map.2 ⟨f, hf, of_decide_eq_true e⟩
theorem ofT_mem {l : List Ft} {n s : List UInt8} (h : s ∈ ofT l n) : ∃ f ∈ l, s ∈ f.of := by
  unfold ofT at h
  split at h
  · rename_i f hf; exact ⟨f, List.mem_of_find?_eq_some hf, h⟩
  · cases h
/-- Where each is a feature: what the rounds give is what is on. -/
theorem rounds_is {l : List Ft} {asked : List (List UInt8)} (hm : mayF l = true) (ha : ∀ a ∈ asked, isT l a = true) (x : List UInt8) : x ∈ rounds l (l.length + 1) (asksT asked) ↔ On l asked x := by
  have h0 : riseT (asksT asked) = true := asks_rise rfl
  have hon : ∀ x ∈ rounds l (l.length + 1) (asksT asked), On l asked x := rounds_on fun x hx => by
    rcases asks_mem.1 hx with h | h
    · cases h
    · exact .ask h
  refine ⟨hon x, fun h => ?_⟩
  unfold mayF at hm
  simp only [Bool.and_eq_true, decide_eq_true_eq] at hm
  obtain ⟨⟨⟨h8, hw⟩, hri⟩, hit⟩ := hm
  have hU : riseT (putT (l.map Ft.name) dfl) = true := put_rise hri
  have his : ∀ y, isT l y = true → y ∈ putT (l.map Ft.name) dfl := fun y hy => by
    unfold isT at hy
    rw [Bool.or_eq_true, decide_eq_true_eq] at hy
    rcases hy with rfl | hy
    · exact put_mem.2 (.inl rfl)
    · exact put_mem.2 (.inr (findT_mem hy))
  have hsub : ∀ y, On l asked y → y ∈ putT (l.map Ft.name) dfl := fun y hy => by
    cases hy with
    | ask h => exact his y (ha y h)
    | of hf hs hk =>
      obtain ⟨f, hfl, hsf⟩ := ofT_mem hs
      have h1 := List.all_eq_true.1 hit f hfl
      unfold itemsT at h1
      simp only [Bool.and_eq_true, decide_eq_true_eq] at h1
      have h2 := List.all_eq_true.1 h1.2 _ hsf
      unfold okItem at h2
      simp [hk] at h2
      exact his _ h2
  have hfix : roundT l (rounds l (l.length + 1) (asksT asked)) (rounds l (l.length + 1) (asksT asked)) = rounds l (l.length + 1) (asksT asked) := by
    rcases rounds_len (l := l) (l.length + 1) (asksT asked) h0 with q | q
    · exact q
    · have h1 := (rise_len (rounds_rise h0) hU fun z hz => hsub z (hon z hz)).1
      have h2 := put_len (l := l.map Ft.name) (s := dfl)
      rw [List.length_map] at h2
      have h3 : asksT asked = [] := List.eq_nil_of_length_eq_zero (by omega)
      rw [h3, rounds_fix (on := []) rfl]; rfl
  induction h with
  | ask h => exact rounds_more _ (asks_mem.2 (.inr h))
  | of hf hs hk ih => rw [← hfix]; exact collK_mem.2 (.inr ⟨_, ih, _, hs, hk, rfl⟩)
/-! ### What is closed -/
def onT (l : List Ft) (asked : List (List UInt8)) : List (List UInt8) := rounds l (l.length + 1) (asksT asked)
def optsT (l : List Ft) (on : List (List UInt8)) : List (List UInt8) := collK 2 wordOf l [] on
def pullsT (l : List Ft) (on : List (List UInt8)) : List (List UInt8) := collK 3 id l [] on
def errF (l : List Ft) (asked : List (List UInt8)) : Int := if mayF l then (if asked.all (isT l) then 0 else 11) else 1
theorem onT_rise (l : List Ft) (asked : List (List UInt8)) : riseT (onT l asked) = true := rounds_rise (asks_rise rfl)
/-- They are THE rising lists that hold what is on, and its options and pulls. -/
theorem on_is {l : List Ft} {asked r : List (List UInt8)} (hm : mayF l = true) (ha : ∀ a ∈ asked, isT l a = true) (hr : riseT r = true) (h : ∀ x, x ∈ r ↔ On l asked x) : r = onT l asked :=
  rise_ext hr (onT_rise l asked) fun x => (h x).trans (rounds_is hm ha x).symm
theorem opts_is {l : List Ft} {on r : List (List UInt8)} (hr : riseT r = true) (h : ∀ x, x ∈ r ↔ ∃ f ∈ on, ∃ s ∈ ofT l f, (kindT s).1 = 2 ∧ x = wordOf s) : r = optsT l on :=
  rise_ext hr (collK_rise rfl) fun x => by rw [h]; unfold optsT; rw [collK_mem]; simp
theorem pulls_is {l : List Ft} {on r : List (List UInt8)} (hr : riseT r = true) (h : ∀ x, x ∈ r ↔ ∃ f ∈ on, ∃ s ∈ ofT l f, (kindT s).1 = 3 ∧ x = s) : r = pullsT l on :=
  rise_ext hr (collK_rise rfl) fun x => by rw [h]; unfold pullsT; rw [collK_mem]; simp
/-! ### Consequences -/
theorem on_mono {l : List Ft} {a b : List (List UInt8)} (h : ∀ x ∈ a, x ∈ b) {x : List UInt8} (hx : On l a x) : On l b x := by
  induction hx with
  | ask q => exact .ask (h _ q)
  | of _ hs hk ih => exact .of ih hs hk
theorem isT_on {l : List Ft} {asked : List (List UInt8)} (hm : mayF l = true) (ha : ∀ a ∈ asked, isT l a = true) {x : List UInt8} (hx : On l asked x) : isT l x = true := by
  cases hx with
  | ask h => exact ha _ h
  | of hf hs hk =>
    unfold mayF at hm
    simp only [Bool.and_eq_true, decide_eq_true_eq] at hm
    obtain ⟨f, hfl, hsf⟩ := ofT_mem hs
    have h1 := List.all_eq_true.1 hm.2 f hfl
    unfold itemsT at h1
    simp only [Bool.and_eq_true, decide_eq_true_eq] at h1
    have h2 := List.all_eq_true.1 h1.2 _ hsf
    unfold okItem at h2
    simp [hk] at h2
    exact h2
theorem onT_is {l : List Ft} {asked : List (List UInt8)} (hm : mayF l = true) (ha : ∀ a ∈ asked, isT l a = true) : ∀ x ∈ onT l asked, isT l x = true := fun x hx => isT_on hm ha ((rounds_is hm ha x).1 hx)
theorem onT_twice {l : List Ft} {asked : List (List UInt8)} (hm : mayF l = true) (ha : ∀ a ∈ asked, isT l a = true) : onT l (onT l asked) = onT l asked := by
  refine (on_is hm (onT_is hm ha) (onT_rise l asked) fun x => ⟨.ask, fun h => ?_⟩).symm
  refine (rounds_is hm ha x).2 ?_
  induction h with
  | ask h => exact (rounds_is hm ha _).1 h
  | of _ hs hk ih => exact .of ih hs hk
theorem onT_asked {l : List Ft} {asked : List (List UInt8)} (hm : mayF l = true) (ha : ∀ a ∈ asked, isT l a = true) : ∀ x ∈ asked, x ∈ onT l asked := fun x hx => (rounds_is hm ha x).2 (.ask hx)
theorem onT_mono {l : List Ft} {a b : List (List UInt8)} (hm : mayF l = true) (ha : ∀ x ∈ a, isT l x = true) (hb : ∀ x ∈ b, isT l x = true) (h : ∀ x ∈ a, x ∈ b) : ∀ x ∈ onT l a, x ∈ onT l b := fun x hx => (rounds_is hm hb x).2 (on_mono h ((rounds_is hm ha x).1 hx))
theorem onT_same {l : List Ft} {a b : List (List UInt8)} (hm : mayF l = true) (ha : ∀ x ∈ a, isT l x = true) (hb : ∀ x ∈ b, isT l x = true) (h : ∀ x, x ∈ a ↔ x ∈ b) : onT l a = onT l b :=
  rise_ext (onT_rise l a) (onT_rise l b) fun x => ⟨onT_mono hm ha hb (fun x hx => (h x).1 hx) x, onT_mono hm hb ha (fun x hx => (h x).2 hx) x⟩
theorem collK_mono {k : Int} {val : List UInt8 → List UInt8} {l : List Ft} {a b : List (List UInt8)} (h : ∀ x ∈ a, x ∈ b) : ∀ x ∈ collK k val l [] a, x ∈ collK k val l [] b := fun x hx => by
  rcases collK_mem.1 hx with q | ⟨f, hf, s, hs, hk, e⟩
  · cases q
  · exact collK_mem.2 (.inr ⟨f, h f hf, s, hs, hk, e⟩)
theorem kind_one {s : List UInt8} (h : (kindT s).1 = 1) : wordOf s = s := by
  unfold wordOf
  unfold kindT at h ⊢
  split
  · rfl
  · rename_i h1
    rw [if_neg h1] at h
    split at h
    · cases h
    · split at h
      · split at h <;> cases h
      · cases h
theorem kind_two {s : List UInt8} (h : (kindT s).1 = 2) : s = 63 :: wordOf s := by
  unfold wordOf
  unfold kindT at h ⊢
  split at h
  · cases h
  · rename_i h1
    rw [if_neg h1]
    split at h
    · rename_i h2
      rw [if_pos h2]
      rw [Bool.and_eq_true, decide_eq_true_eq] at h2
      cases s with
      | nil => cases h2.1
      | cons c r => have := h2.1; simp at this; rw [this]; rfl
    · split at h
      · split at h <;> cases h
      · cases h
/-- An item of one that is on is an item of a feature with a name that is on. -/
theorem of_named {l : List Ft} {f s : List UInt8} (h : s ∈ ofT l f) : ∃ g ∈ l, g.name = f ∧ s ∈ g.of := by
  unfold ofT at h
  split at h
  · rename_i g hg
    exact ⟨g, List.mem_of_find?_eq_some hg, by have := List.find?_some hg; exact of_decide_eq_true this, h⟩
  · cases h
theorem on_least {l : List Ft} {asked : List (List UInt8)} (hm : mayF l = true) (ha : ∀ a ∈ asked, isT l a = true) : ∀ x ∈ onT l asked, x ∈ asked ∨ ∃ g ∈ l, g.name ∈ onT l asked ∧ x ∈ g.of := fun x hx => by
  have h := (rounds_is hm ha x).1 hx
  cases h with
  | ask h => exact .inl h
  | @of f s hf hs hk =>
    obtain ⟨g, hg, e, hs2⟩ := of_named hs
    exact .inr ⟨g, hg, by rw [e]; exact (rounds_is hm ha f).2 hf, by rw [show (kindT s).2.1 = s from kind_one hk]; exact hs2⟩
theorem opts_least {l : List Ft} {on : List (List UInt8)} : ∀ x ∈ optsT l on, ∃ g ∈ l, g.name ∈ on ∧ (63 :: x) ∈ g.of := fun x hx => by
  rcases collK_mem.1 hx with q | ⟨f, hf, s, hs, hk, rfl⟩
  · cases q
  · obtain ⟨g, hg, e, hs2⟩ := of_named hs
    exact ⟨g, hg, by rw [e]; exact hf, by rw [← kind_two hk]; exact hs2⟩
theorem pulls_least {l : List Ft} {on : List (List UInt8)} : ∀ x ∈ pullsT l on, ∃ g ∈ l, g.name ∈ on ∧ x ∈ g.of := fun x hx => by
  rcases collK_mem.1 hx with q | ⟨f, hf, s, hs, hk, rfl⟩
  · cases q
  · obtain ⟨g, hg, e, hs2⟩ := of_named hs
    exact ⟨g, hg, by rw [e]; exact hf, hs2⟩
/-! ### What Close answers -/
def onF (l : List Ft) (asked : List (List UInt8)) : List (List UInt8) := if errF l asked = 0 then onT l asked else []
def optF (l : List Ft) (asked : List (List UInt8)) : List (List UInt8) := if errF l asked = 0 then optsT l (onT l asked) else []
def pullF (l : List Ft) (asked : List (List UInt8)) : List (List UInt8) := if errF l asked = 0 then pullsT l (onT l asked) else []
theorem clo_no {l : List Ft} {asked : List (List UInt8)} (h : ¬ errF l asked = 0) : onF l asked = [] ∧ optF l asked = [] ∧ pullF l asked = [] := ⟨if_neg h, if_neg h, if_neg h⟩
theorem clo_yes {l : List Ft} {asked : List (List UInt8)} (h : errF l asked = 0) : onF l asked = onT l asked ∧ optF l asked = optsT l (onT l asked) ∧ pullF l asked = pullsT l (onT l asked) := ⟨if_pos h, if_pos h, if_pos h⟩
theorem errF_yes {l : List Ft} {asked : List (List UInt8)} (hm : mayF l = true) (ha : ∀ a ∈ asked, isT l a = true) : errF l asked = 0 := by unfold errF; rw [if_pos hm, if_pos (List.all_eq_true.2 ha)]
end Go.Proofs.Ytglbfknmeojfkaa
end

section
/-
  A drawn region's list of blocks in another order. No condition of its own.
-/
namespace Go.Proofs.Ytglbfknmeojfkaa
open Go.RowKit
set_option linter.unusedVariables false
section
variable {M : List Nat} {P : Program} {n : Nat} {ops : Array Oper} {W : World} {L0 : List Blk} {Q : Exit → Act → World → Prop} {fuel : Nat} {listed : Array Bool} {L : List Blk} {f : Nat → Value}
end
end Go.Proofs.Ytglbfknmeojfkaa
end

section
/-
  s[:j], s[i:], s[i] of a string; s[:j], s[:j:m] of a slice that was made. No condition of their own.
-/
namespace Go.Proofs.Ytglbfknmeojfkaa
open Go.RowKit
set_option maxRecDepth 100000
set_option linter.unusedVariables false
set_option linter.unusedSimpArgs false
theorem mk_drop (s : List UInt8) (j : Nat) : (mkS s).extract j (mkS s).size = mkS (s.drop j) := by
  rw [extract_mk, mk_data, mkS_sz]
  congr 1
  exact List.take_of_length_le (by rw [List.length_drop]; omega)
theorem run_strlo {P : Program} {ρ : Operand → Value} {o : Oper} {t : TypeId} {x y : Operand} {s : List UInt8} {k : IntKind} {j : Int} (ho : o.op = .slice t x (some y) none none) (hx : ρ x = .string (mkS s)) (hy : ρ y = .int k j)
    (hu : P.underlying t = some .string) (h0 : 0 ≤ j) (h1 : j ≤ s.length) (w : World) : (execOp ρ o).run P w = .ok (.value (.string (mkS (s.drop j.toNat)))) w := by
  unfold execOp
  have h2 : j ≤ ((mkS s).size : Int) := by rw [mkS_sz]; exact h1
  simp [ho, hx, hy, Instr.sliceAt, Instr.slice, Instr.sliceBounds, Instr.sliceBound, Sem.run_bind, asIntOf, run_underlying hu, h0, h2, mk_drop]
theorem mk_get (s : List UInt8) (k : Nat) (h : k < s.length) : (mkS s)[k]? = some s[k] := by
  have h2 : k < (mkS s).size := by rw [mkS_sz]; exact h
  rw [getElem?_pos (mkS s) k h2]
  congr 1
theorem run_stridx {P : Program} {ρ : Operand → Value} {o : Oper} {t : TypeId} {x y : Operand} {s : List UInt8} {k : IntKind} {j : Int} (ho : o.op = .index t x y) (hx : ρ x = .string (mkS s)) (hy : ρ y = .int k j)
    (hu : P.underlying t = some .string) (h0 : 0 ≤ j) (h1 : j.toNat < s.length) (w : World) : (execOp ρ o).run P w = .ok (.value (.int .u8 (s[j.toNat].toNat : Int))) w := by
  unfold execOp
  have e := mk_get s j.toNat h1
  simp [ho, hx, hy, Instr.index, Sem.run_bind, asIntOf, run_underlying hu, h0, e]
theorem run_slhm {P : Program} {ρ : Operand → Value} {o : Oper} {t e : TypeId} {x z y : Operand} {b n c sz : Nat} {k q : IntKind} {j m : Int} (ho : o.op = .slice t x none (some z) (some y)) (hx : ρ x = .slice (some ⟨b, 0, none⟩) n c) (hz : ρ z = .int k j) (hy : ρ y = .int q m)
    (hu : P.underlying t = some (.slice e)) (hs : (P.info? e).map (·.size) = some sz) (h0 : 0 ≤ j) (h1 : j ≤ m) (h2 : m ≤ c) (w : World) : (execOp ρ o).run P w = .ok (.value (.slice (some ⟨b, 0, none⟩) j.toNat m.toNat)) w := by
  cases he : P.info? e with
  | none => rw [he] at hs; cases hs
  | some i =>
    rw [he] at hs
    obtain rfl := Option.some.inj hs
    have h3 : 0 ≤ m := Int.le_trans h0 h1
    unfold execOp
    simp [ho, hx, hz, hy, Instr.sliceAt, Instr.slice, Instr.sliceBounds, Instr.sliceBound, Sem.run_bind, asIntOf, run_underlying hu, h0, h1, h2, h3, sizeOf, typeInfo, he, add_off]
    try (first | omega | (rw [if_pos (by omega)]; simp [add_off]))
theorem run_stradd {P : Program} {ρ : Operand → Value} {o : Oper} {t t' : TypeId} {x y : Operand} {a b : List UInt8} (ho : o.op = .binOp .add t x y t') (hx : ρ x = .string (mkS a)) (hy : ρ y = .string (mkS b)) (hb : a.length + b.length ≤ 4000000000) (w : World) : (execOp ρ o).run P w = .ok (.value (.string (mkS (a ++ b)))) w := by
  unfold execOp
  have h1 : ¬ (9223372036854775807 : Int) < ((mkS a).size : Int) + ((mkS b).size : Int) := by rw [mkS_sz, mkS_sz]; omega
  simp [ho, hx, hy, Sem.run_bind, eqGuard, binOp, Op.stringOp, mkS_append, h1]
section
variable {M : List Nat} {P : Program} {n0 : Nat} {ops : Array Oper} {W : World} {Q : Exit → Act → World → Prop} {rest : List Oper} {o : Oper} {L : List Blk} {f : Nat → Value}
/-- append to a slice that has no room: a new block. -/
theorem s_appendF {t T : TypeId} {s x : Operand} {i : TypeInfo} {z : Value} {sz : Nat} (hw : want ops n0 f o = true) (ho : o.op = .call { callee := .builtin .append, args := #[s, x], argTypes := #[t, t] })
    (ht : P.underlying t = some (.slice T)) (hi : P.info? T = some i) (hz : i.zero = some z) (hsz : i.size = sz) (hzs : z.cells.size = sz)
    {b : Addr} {n cap : Nat} {xs : List Value} (hs : ev n0 f s = .slice (some b) n cap) (hxl : xs.length = n * sz) (hxs : ∀ w, Own M W w L → ∀ j u, xs[j]? = some u → w.cell? (b.add j) = some u)
    {a : Addr} {m c : Nat} {news : List Value} (hx : ev n0 f x = .slice (some a) m c) (hl : news.length = m * sz) (hnews : ∀ w, Own M W w L → ∀ j u, news[j]? = some u → w.cell? (a.add j) = some u)
    (hroom : cap < n + m) (h63 : n + m ≤ maxLen) (hbytes : (n + m) * i.bytes ≤ 140737488355328)
    (h : ∀ v' ob', Sl T sz v' (n + m) (xs ++ news) ob' → Seg M P n0 ops W Q rest (ob' ++ L) (upd f o.dst v')) : Seg M P n0 ops W Q (o :: rest) L f :=
  s_step hw fun w hO => by
    subst hsz
    have hsmall : n + m ≤ 9223372036854775807 := by simp only [maxLen] at h63; omega
    have hlen : (xs ++ news).length = (n + m) * i.size := by rw [List.length_append, hxl, hl, Nat.add_mul]
    have hr := run_append_grow (P := P) w t o.type T i z ht hi hz b n cap xs hxl (hxs w hO) a m c news hl (hnews w hO) (by omega) (by omega) (growslice_fits (by omega) hbytes)
    have hge := grownCap_ge w (n + m) cap T
    have hcm := grownCap_le_maxLen w (n + m) cap T h63
    refine wp_val _ (w' := _) ?_ ((h _ [⟨w.heap.size, xs.toArray ++ news.toArray ++ Builtin.zeroCells z.cells (grownCap w (n + m) cap T - (n + m)), T⟩] ⟨hlen, .inr ⟨w.heap.size, grownCap w (n + m) cap T, _, rfl, rfl, hge, hcm, ?_, ?_⟩⟩).go _ ((drew_own hO).alloc (xs.toArray ++ news.toArray ++ Builtin.zeroCells z.cells (grownCap w (n + m) cap T - (n + m))) T))
    · unfold execOp
      simp only [ho, resolve, invoke, builtin, Sem.run_bind, Sem.run_pure, Result.andThen_ok, List.map_toArray, List.map_cons, List.map_nil, hs, hx, hr]
    · simp only [Array.size_append, List.size_toArray, size_zeroCells, hzs, hxl, hl, ← Nat.add_mul]
      congr 1
      omega
    · simp only [Array.toList_append, List.append_assoc]
      rw [← List.append_assoc, ← hlen]
      exact List.take_left
end
section
variable {M : List Nat} {P : Program} {n : Nat} {ops : Array Oper} {W : World} {L0 : List Blk} {Q : Exit → Act → World → Prop} {fuel : Nat} {listed : Array Bool} {f : Nat → Value}
end

end Go.Proofs.Ytglbfknmeojfkaa
end

section
/-
  Steps: a test for inequality that is decided, in a region in each order. No condition of its own.
-/
namespace Go.Proofs.Ytglbfknmeojfkaa
open Go.RowKit
set_option linter.unusedVariables false
section
variable {M : List Nat} {P : Program} {n : Nat} {ops : Array Oper} {W : World} {L0 : List Blk} {Q : Exit → Act → World → Prop} {fuel : Nat} {listed : Array Bool} {f : Nat → Value}
end

end Go.Proofs.Ytglbfknmeojfkaa
end

section
/-
  s[i:j] of a string. No condition of its own.
-/
namespace Go.Proofs.Ytglbfknmeojfkaa
open Go.RowKit
set_option maxRecDepth 100000
set_option linter.unusedVariables false
set_option linter.unusedSimpArgs false
end Go.Proofs.Ytglbfknmeojfkaa
end

section
/-
  Steps: a region in each order whose list of blocks is written otherwise; lists of blocks that hold the same blocks. No condition of its own.
-/
namespace Go.Proofs.Ytglbfknmeojfkaa
open Go.RowKit
set_option linter.unusedVariables false
section
variable {M : List Nat} {P : Program} {n : Nat} {ops : Array Oper} {W : World} {L0 : List Blk} {Q : Exit → Act → World → Prop} {fuel : Nat} {listed : Array Bool} {f : Nat → Value}
theorem hs_cast {i : Nat} {L L' : List Blk} (e : L = L') (h : HStep M P n ops W L0 Q fuel listed i L' f) : HStep M P n ops W L0 Q fuel listed i L f := by subst e; exact h
end

end Go.Proofs.Ytglbfknmeojfkaa
end

section
/-
  Features as they lie: a name and a slice of items; a list of features that came in. No condition of its own.
-/
namespace Go.Proofs.Ytglbfknmeojfkaa
open Go.RowKit
set_option maxRecDepth 100000
set_option linter.unusedVariables false
set_option linter.unusedSimpArgs false

/-- One feature as it lies: its name, where its items lie, they, its cap. -/
structure Fv where
  name : List UInt8
  A : Option Addr
  of : List (List UInt8)
  cap : Nat
def fvC (x : Fv) : List Value := [.string (mkS x.name), .slice x.A x.of.length x.cap]
theorem fvC_len (x : Fv) : (fvC x).length = 2 := rfl
def fvV (x : Fv) : Value := .agg #[.string (mkS x.name), .slice x.A x.of.length x.cap]
def Fv.ft (x : Fv) : Ft := ⟨x.name, x.of⟩
def ftOf (xs : List Fv) : List Ft := xs.map Fv.ft
theorem ftOf_len (xs : List Fv) : (ftOf xs).length = xs.length := List.length_map ..
theorem ftOf_take (xs : List Fv) (k : Nat) : ftOf (xs.take k) = (ftOf xs).take k := by unfold ftOf; rw [List.map_take]
theorem ftOf_get {xs : List Fv} {i : Nat} (hi : i < xs.length) {x : Fv} (h : xs[i] = x) : (ftOf xs)[i]'(by rw [ftOf_len]; exact hi) = x.ft := by
  unfold ftOf; rw [List.getElem_map, h]
/-- Features that can be read; bounds. -/
structure FtIn (w : World) (B : Nat) (A : Option Addr) (xs : List Fv) : Prop where
  top : Reads fvC w B A xs
  each : ∀ x ∈ xs, Reads strC w B x.A x.of
  n : xs.length ≤ 1000
  m : ∀ x ∈ xs, x.of.length ≤ 1000
  name : ∀ x ∈ xs, x.name.length ≤ 1000000
  text : ∀ x ∈ xs, ∀ s ∈ x.of, s.length ≤ 1000000
theorem FtIn.on {w w' : World} {B B' : Nat} {A : Option Addr} {xs : List Fv} (h : FtIn w B A xs) (hb : Below B w w') (hB : B ≤ B') : FtIn w' B' A xs := ⟨h.top.on hb hB, fun x hx => (h.each x hx).on hb hB, h.n, h.m, h.name, h.text⟩
/-- Where a name stands, as a number. -/
def findI (l : List Ft) (n : List UInt8) : Int := match findT l n with
  | some i => (i : Int)
  | none => -1
theorem findI_at {l : List Ft} {n : List UInt8} {i : Nat} (hi : i < l.length) (h : l[i].name = n) (h0 : ∀ f ∈ l.take i, ¬ f.name = n) : findT l n = some i := by
  unfold findT
  rw [List.findIdx?_eq_some_iff_getElem]
  refine ⟨hi, decide_eq_true h, fun j hj => ?_⟩
  simpa using h0 l[j] (List.mem_take_iff_getElem.2 ⟨j, by omega, rfl⟩)
theorem findI_none {l : List Ft} {n : List UInt8} (h0 : ∀ f ∈ l, ¬ f.name = n) : findT l n = none := by
  unfold findT
  rw [List.findIdx?_eq_none_iff]
  exact fun x hx => decide_eq_false (h0 x hx)
theorem findI_isT {l : List Ft} {n : List UInt8} : isT l n = (decide (n = dfl) || decide (0 ≤ findI l n)) := by
  unfold isT findI
  cases findT l n <;> simp
theorem ofT_at {l : List Ft} {n : List UInt8} {i : Nat} (h : findT l n = some i) : ∃ hi : i < l.length, ofT l n = l[i].of := by
  unfold findT at h
  rw [List.findIdx?_eq_some_iff_getElem] at h
  obtain ⟨hi, h1, h2⟩ := h
  refine ⟨hi, ?_⟩
  unfold ofT
  have : l.find? (fun f => decide (f.name = n)) = some l[i] := by
    rw [List.find?_eq_some_iff_getElem]
    exact ⟨h1, i, hi, rfl, fun j hj => by simpa using h2 j hj⟩
  rw [this]
theorem ofT_none {l : List Ft} {n : List UInt8} (h : findT l n = none) : ofT l n = [] := by
  unfold findT at h
  rw [List.findIdx?_eq_none_iff] at h
  unfold ofT
  have : l.find? (fun f => decide (f.name = n)) = none := by
    rw [List.find?_eq_none]; intro x hx; simpa using h x hx
  rw [this]
/-- '<' on strings of bytes. -/
theorem run_strlss {P : Program} {ρ : Operand → Value} {o : Oper} {t t' : TypeId} {x y : Operand} {a b : List UInt8} {r : Bool} (ho : o.op = .binOp .lss t x y t') (hx : ρ x = .string (mkS a)) (hy : ρ y = .string (mkS b)) (h : Op.bytesLess a b = r) (w : World) : (execOp ρ o).run P w = .ok (.value (.bool r)) w := by
  have e : binOp .lss t (.string (mkS a)) (.string (mkS b)) = pure (.bool (Op.bytesLess a b)) := by
    have : binOp .lss t (.string (mkS a)) (.string (mkS b)) = pure (.bool (Op.bytesLess (mkS a).toList (mkS b).toList)) := by simp [binOp, Op.stringOp]
    rw [this, Lib.toList_data, Lib.toList_data, mk_data, mk_data]
  unfold execOp
  simp only [ho, hx, hy, Sem.run_bind, guard_str, Result.andThen_ok, e, Sem.run_pure, h]
theorem run_strgeq {P : Program} {ρ : Operand → Value} {o : Oper} {t t' : TypeId} {x y : Operand} {a b : List UInt8} {r : Bool} (ho : o.op = .binOp .geq t x y t') (hx : ρ x = .string (mkS a)) (hy : ρ y = .string (mkS b)) (h : Op.bytesLess a b = r) (w : World) : (execOp ρ o).run P w = .ok (.value (.bool (!r))) w := by
  have e : binOp .geq t (.string (mkS a)) (.string (mkS b)) = pure (.bool (!Op.bytesLess a b)) := by
    have : binOp .geq t (.string (mkS a)) (.string (mkS b)) = pure (.bool (!Op.bytesLess (mkS a).toList (mkS b).toList)) := by simp [binOp, Op.stringOp]
    rw [this, Lib.toList_data, Lib.toList_data, mk_data, mk_data]
  unfold execOp
  simp only [ho, hx, hy, Sem.run_bind, guard_str, Result.andThen_ok, e, Sem.run_pure, h]
end Go.Proofs.Ytglbfknmeojfkaa
end

section
/-
  linchpinlaw0.Place: what it returns; nothing is changed.
-/
namespace Go.Proofs.Ytglbfknmeojfkaa
open Go.RowKit

/-- The place of any number among n. -/
def plc (v n : Int) : Int := if v.tmod n < 0 then v.tmod n + n else v.tmod n
theorem tmod_in (v n : Int) (hn : 0 < n) : -n < v.tmod n ∧ v.tmod n < n := by
  rcases Int.lt_or_le v 0 with h | h
  · have h3 := Int.tmod_lt_of_pos (-v) hn
    have h4 := Int.tmod_nonneg n (show 0 ≤ -v by omega)
    rw [Int.neg_tmod] at h3 h4; omega
  · have h3 := Int.tmod_lt_of_pos v hn
    have h4 := Int.tmod_nonneg n h
    omega
theorem plc_in (v n : Int) (hn : 0 < n) : 0 ≤ plc v n ∧ plc v n < n := by
  obtain ⟨h1, h2⟩ := tmod_in v n hn
  unfold plc
  split <;> omega

theorem place_any (v n : Int) (w : World) (hn : 0 < n) (hn2 : n ≤ 1000000) :
    Calls Try.prog 58 #[.int .i64 v, .int .i64 n] w fun e w' => e = .returned (.int .i64 (plc v n)) ∧ w = w' := by
  obtain ⟨h1, h2⟩ := tmod_in v n hn
  have HP : Hid (plc v n = if v.tmod n < 0 then v.tmod n + n else v.tmod n) := rfl
  have hn0 : (n == 0) = false := by simp; omega
  have hw : IntKind.i64.wrap (v.tmod n) = v.tmod n := IntWalk.i64_in _ (by omega)
  obtain ⟨m, hm⟩ : ∃ m, v.tmod n = m := ⟨_, rfl⟩
  rw [hm] at h1 h2 HP hw
  by_cases h0 : m < 0
  · have hs : 0 ≤ m + n := by omega
    have hs2 : m + n ≤ 1000000 := by omega
    go_enter Try.func58, Try.ntmps58
    go_wp2
    go_ret
    exact ⟨ret_int (by rw [HP.out, if_pos h0]), rfl⟩
  · go_enter Try.func58, Try.ntmps58
    go_wp2
    go_ret
    exact ⟨ret_int (by rw [HP.out, if_neg (by omega)]), rfl⟩
end Go.Proofs.Ytglbfknmeojfkaa
end

section
/-
  linchpinlaw0: At, From: what they return for every list of numbers; nothing that was there is changed.
-/
namespace Go.Proofs.Ytglbfknmeojfkaa
open Go.RowKit

/-- A slice that reads as a list of ints. -/
def ReadsI (w : World) (B : Nat) (v : Value) (l : List Int) : Prop :=
  ∃ A cap, v = .slice A l.length cap ∧ (0 < l.length → ∃ ad : Addr, A = some ad ∧ ad.block < B ∧ ∀ j (h : j < l.length), w.cell? (ad.add j) = some (.int .i64 l[j]))
theorem add_block (a : Addr) (n : Nat) : (a.add n).block = a.block := by unfold Addr.add; split <;> rfl
theorem ReadsI.below {w w' : World} {B : Nat} {v : Value} {l : List Int} (h : ReadsI w B v l) (hb : Below B w w') : ReadsI w' B v l := by
  obtain ⟨A, cap, hv, hc⟩ := h
  exact ⟨A, cap, hv, fun hpos => by
    obtain ⟨ad, hA, hlt, hcc⟩ := hc hpos
    exact ⟨ad, hA, hlt, fun j hj => (hb.cell (by rw [add_block]; exact hlt)).trans (hcc j hj)⟩⟩
theorem ReadsI.more {w : World} {B B' : Nat} {v : Value} {l : List Int} (h : ReadsI w B v l) (hB : B ≤ B') : ReadsI w B' v l := by
  obtain ⟨A, cap, hv, hc⟩ := h
  exact ⟨A, cap, hv, fun hpos => by
    obtain ⟨ad, hA, hlt, hcc⟩ := hc hpos
    exact ⟨ad, hA, Nat.lt_of_lt_of_le hlt hB, hcc⟩⟩
def atL (l : List Int) (i : Nat) : Int := (l[i]?).getD 0
theorem at_any (v : Value) (l : List Int) (i : Nat) (w : World) (hv : ReadsI w w.heap.size v l) (hl : l.length ≤ 9223372036854775807) (hi : i ≤ 1000000) :
    Calls Try.prog 59 #[v, .int .i64 i] w fun e w' => e = .returned (.int .i64 (atL l i)) ∧ w = w' := by
  obtain ⟨A, cap, rfl, hc⟩ := hv
  by_cases h : i < l.length
  · obtain ⟨ad, rfl, hlt, hcc⟩ := hc (by omega)
    have hcell := hcc i h
    have hi1 : (i : Int) < l.length := by omega
    have hi2 : ¬ (l.length : Int) ≤ i := by omega
    have HA : Hid (atL l i = l[i]) := by show _ = _; unfold atL; rw [List.getElem?_eq_getElem h]; rfl
    clear hc hcc
    go_enter Try.func59, Try.ntmps59
    go_wp2
    go_ret
    exact ⟨ret_int HA.out.symm, rfl⟩
  · have hi1 : (l.length : Int) ≤ i := by omega
    have HA : Hid (atL l i = 0) := by show _ = _; unfold atL; rw [List.getElem?_eq_none (by omega)]; rfl
    clear hc
    go_enter Try.func59, Try.ntmps59
    go_wp2
    go_ret
    exact ⟨ret_int HA.out.symm, rfl⟩
def i64in (n : Int) : Prop := -9223372036854775808 ≤ n ∧ n ≤ 9223372036854775807
theorem from_any (v : Value) (l : List Int) (i : Nat) (n : Int) (w : World) (hv : ReadsI w w.heap.size v l) (hl : l.length ≤ 9223372036854775807) (hi : i ≤ 1000000) (hn : 0 < n) (hn2 : n ≤ 1000000) :
    Calls Try.prog 45 #[v, .int .i64 i, .int .i64 n] w fun e w' => e = .returned (.int .i64 (plc (atL l i) n)) ∧ w = w' := by
  have cA := at_any v l i w hv hl hi
  obtain ⟨A, cap, rfl, hc⟩ := hv
  clear hc
  go_enter Try.func45, Try.ntmps45
  go_wp2_with fail
  refine cA.mono ?_
  rintro e w1 ⟨rfl, rfl⟩
  go_wp2_with fail
  refine (place_any _ n _ hn hn2).mono ?_
  rintro e w1 ⟨rfl, rfl⟩
  go_wp2
  go_ret
  exact ⟨rfl, rfl⟩
theorem from_in {W : World} {v : Value} {l : List Int} (hv : ReadsI W W.heap.size v l) (hl : l.length ≤ 9223372036854775807) (i : Nat) (n : Int) (hi : i ≤ 1000000) (hn : 0 < n) (hn2 : n ≤ 1000000) {k : Int} (hk : plc (atL l i) n = k) :
    ∀ w, Below W.heap.size W w → Calls Try.prog 45 #[v, .int .i64 i, .int .i64 n] w fun e w' => e = .returned (.int .i64 k) ∧ Below w.heap.size w w' := fun w hb => by
  have h := from_any v l i n w ((hv.below hb).more hb.size) hl hi hn hn2
  rw [hk] at h
  exact h.mono fun _ _ ⟨e1, e2⟩ => ⟨e1, e2 ▸ Below.refl _ _⟩
theorem plc_nat' (v : Int) (n : Nat) (hn : 0 < n) : ∃ k : Nat, plc v n = (k : Int) ∧ k < n := by
  have h := plc_in v n (by omega)
  exact ⟨(plc v n).toNat, (Int.toNat_of_nonneg h.1).symm, by omega⟩
end Go.Proofs.Ytglbfknmeojfkaa
end

section
/-
  linchpinlaw0: word, Name, of any number: what they return; nothing that was there is changed. Condition: a number of 64 bits.
-/
namespace Go.Proofs.Ytglbfknmeojfkaa
open Go.RowKit
set_option maxRecDepth 100000
set_option linter.unusedVariables false
set_option linter.unusedSimpArgs false
set_option linter.unnecessarySimpa false
set_option maxHeartbeats 2000000

/-- A string out of a constant array of strings. -/
theorem run_idxg {P : Program} {ρ : Operand → Value} {o : Oper} {t e : TypeId} {x y : Operand} {n k : Nat} {vals : Array Value} (g : Nat → List UInt8) (hk : k < n) (ho : o.op = .index t x y) (hx : ρ x = .agg vals) (hy : ρ y = .int .i64 (k : Int))
    (hu : P.underlying t = some (.array n e)) (hp : ∀ i, i < n → ∀ w, (part e vals i).run P w = .ok (.string (mkS (g i))) w) (hs : (P.info? e).map (·.size) = some 1) (w : World) : (execOp ρ o).run P w = .ok (.value (.string (mkS (g k)))) w := by
  cases he : P.info? e with
  | none => rw [he] at hs; cases hs
  | some i =>
    rw [he] at hs
    have hs1 : i.size = 1 := Option.some.inj hs
    unfold execOp
    have h2 := hp k hk
    have hkn : ¬ n ≤ k := by omega
    simp [ho, hx, hy, Instr.index, Sem.run_bind, asIntOf, run_underlying hu, sizeOf, typeInfo, he, hs1, h2, hk, hkn]
def wordT (k : Nat) : List UInt8 := if k = 0 then [120] else if k = 1 then [121] else if k = 2 then [122] else [119, 95, 49]
def nameT (k : Nat) : List UInt8 := if k = 0 then [97, 112, 112] else if k = 1 then [98] else if k = 2 then [99] else if k = 3 then [100] else [101, 45, 50]
theorem wordT_part : ∀ (i : Nat), i < 4 → ∀ w, (part 9 #[.string ⟨#[120]⟩, .string ⟨#[121]⟩, .string ⟨#[122]⟩, .string ⟨#[119, 95, 49]⟩] i).run Try.prog w = .ok (.string (mkS (wordT i))) w
  | 0, _, w => by kernel_rfl
  | 1, _, w => by kernel_rfl
  | 2, _, w => by kernel_rfl
  | 3, _, w => by kernel_rfl
theorem wordT_any (z : Int) : ∃ k, k < 4 ∧ ∀ W : World, Calls Try.prog 61 #[.int .i64 z] W fun e w' => e = .returned (.string (mkS (wordT k))) ∧ Below W.heap.size W w' := by
  obtain ⟨k, hkz, hk⟩ := plc_nat' z 4 (by decide)
  refine ⟨k, hk, fun W => ?_⟩
  refine calls_ok (n := 7) Try.func61 rfl (by kernel_rfl) (by kernel_rfl) ?_
  refine ok_seq ?_
  refine ok_region ?_
  refine s_val (.string ⟨#[]⟩) (by kernel_rfl) (fun _ => by kernel_rfl) ?_
  refine s_nil ?_
  refine fin_seq ?_
  refine ok_seq ?_
  refine ok_region ?_
  refine s_val (.agg #[.string ⟨#[120]⟩, .string ⟨#[121]⟩, .string ⟨#[122]⟩, .string ⟨#[119, 95, 49]⟩]) (by kernel_rfl) (fun _ => by kernel_rfl) ?_
  refine s_val (.int .i64 z) (by kernel_rfl) (fun _ => by kernel_rfl) ?_
  refine s_call (k := 58) (args := #[.int .i64 z, .int .i64 4]) (.int .i64 (k : Int)) (by kernel_rfl) (fun _ => by kernel_rfl) (fun w _ => (place_any z 4 w (by decide) (by decide)).mono fun _ _ ⟨e1, e2⟩ => ⟨by rw [e1, show plc z 4 = (k : Int) from hkz], e2 ▸ Below.refl _ _⟩) ?_
  refine s_val (.string (mkS (wordT k))) (by kernel_rfl) (run_idxg wordT hk rfl (by kernel_rfl) (by kernel_rfl) Try.underlying95 (fun i hi w => wordT_part i hi w) (by kernel_rfl)) ?_
  refine s_val (.string (mkS (wordT k))) (by kernel_rfl) (fun _ => by kernel_rfl) ?_
  refine s_nil ?_
  refine fin_seq ?_
  refine ok_ret ?_
  refine fin_ret (.string (mkS (wordT k))) Try.results61 (by kernel_rfl) ?_
  exact fun w hO => ⟨rfl, hO.below⟩
end Go.Proofs.Ytglbfknmeojfkaa
end
