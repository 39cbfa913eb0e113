/-
  What the statement's proof leans on: the ways of walking, qX mathematics, and what the program's functions return; each theorem says on what conditions.
-/
import Derived.WalkKit
import Derived.Below
import Derived.Deep.Draws
import Derived.Sort.Grow
import Derived.Laws.AppendOwn
import Derived.Deep.Quiet
import Derived.BigQuiet
import Derived.Lib.Hide
import Derived.Laws.CopyRow
import Derived.Laws.Rows
import Derived.Deep.RegionHeld3
import Derived.Laws.Slices
import Derived.Laws.MakeOwn
import Derived.Lib.BufferWrite
import Derived.Lib.UnsafeStr
import Derived.Tactics
import Derived.Lib.AppendZerosOnto
import Derived.Test.YthanpjfmlipdnaaDoorProg
import Derived.Lib.MapLaws
import Derived.Lib.TrimUEq
import Derived.Laws.StructEq
set_option maxRecDepth 1000000
set_option maxHeartbeats 8000000
set_option linter.unusedVariables false
set_option linter.unusedSimpArgs false
namespace Go.Proofs.YthanpjfmlipdnaaDoor
open Go.RowKit

section
structure Below (B : Nat) (w w' : World) : Prop where
  os : w'.os = w.os
  tape : w'.tape = w.tape
  output : w'.output = w.output
  size : w.heap.size ≤ w'.heap.size
  drawn : w.drawn ≤ w'.drawn
  block : ∀ k, k < B → w'.heap[k]? = w.heap[k]?
theorem Below.old {B : Nat} {w w' : World} (h : Below B w w') : Go.RowKit.Below B w w' := ⟨h.os, h.tape, h.output, h.size, h.block⟩
theorem Below.refl (B : Nat) (w : World) : Below B w w := ⟨rfl, rfl, rfl, Nat.le_refl _, Nat.le_refl _, fun _ _ => rfl⟩
theorem Below.trans {B : Nat} {a b c : World} (h : Below B a b) (k : Below B b c) : Below B a c :=
  ⟨k.os.trans h.os, k.tape.trans h.tape, k.output.trans h.output, Nat.le_trans h.size k.size, Nat.le_trans h.drawn k.drawn, fun i hi => (k.block i hi).trans (h.block i hi)⟩
theorem Below.mono {B B' : Nat} {w w' : World} (h : Below B w w') (hB : B' ≤ B) : Below B' w w' := ⟨h.os, h.tape, h.output, h.size, h.drawn, fun k hk => h.block k (Nat.lt_of_lt_of_le hk hB)⟩
theorem Below.heap_alloc (w : World) (o : Obj) (k : Nat) (h : k < w.heap.size) : (w.alloc o).heap[k]? = w.heap[k]? := Go.RowKit.Below.heap_alloc w o k h
theorem Below.heap_setCell (w : World) (a : Addr) (u : Value) (k : Nat) (h : k ≠ a.block) : (w.setCell a u).heap[k]? = w.heap[k]? := Go.RowKit.Below.heap_setCell w a u k h
theorem Below.alloc {B : Nat} {a w : World} (h : Below B a w) (hB : B ≤ w.heap.size) (o : Obj) : Below B a (w.alloc o) :=
  h.trans ⟨rfl, rfl, rfl, by simp, Nat.le_refl _, fun k hk => Below.heap_alloc _ _ _ (by omega)⟩
theorem Below.setCell {B : Nat} {a w : World} (h : Below B a w) {p : Addr} (hp : B ≤ p.block) (u : Value) : Below B a (w.setCell p u) :=
  h.trans ⟨rfl, rfl, rfl, by simp [World.setCell], Nat.le_refl _, fun k hk => Below.heap_setCell _ _ _ _ (by omega)⟩
theorem Below.cell {B : Nat} {w w' : World} (h : Below B w w') {p : Addr} (hp : p.block < B) : w'.cell? p = w.cell? p := h.old.cell hp
theorem Below.frame {W w' : World} (h : Below W.heap.size W w') (may : MemPlace → Prop) : W.keptBut w' may := h.old.frame may
theorem hH {α : Type} : ∀ (k : Ask α) (w : World), w.drawn ≤ (w.ask k).2.drawn
  | .done a, w => Nat.le_refl _
  | .ask what range k, w => by
    unfold World.ask
    dsimp only
    split
    · exact hH (k 0) w
    · exact Nat.le_trans (Nat.le_succ _) (hH (k ((Question.extern what range).cut (w.tape w.drawn (Question.extern what range)))) { w with drawn := w.drawn + 1 })
theorem sys_drawn (w : World) (c : Sys) : w.drawn ≤ (w.sys c).2.drawn := by
  unfold World.sys
  have h := hH (Kernel.perform c w.os) w
  split
  · exact Nat.le_refl _
  · rename_i r os w1 heq
    rw [heq] at h; exact h
theorem nB {p : Program} {w w1 : World} {a : Addr} {v : Value} {b : Bool} {l : List Addr} (h : w.farStore p a v b = .ok (w1, l)) : w1.drawn = w.drawn := by
  unfold World.farStore at h
  split at h
  · split at h
    · rename_i r hr
      obtain rfl := Except.ok.inj h
      unfold World.viewStore at hr
      simp only [bind, Except.bind, pure, Except.pure] at hr
      repeat' (first | (cases hr; done) | (cases hr; rfl) | split at hr)
    · cases h
  · cases h
theorem p4 {α : Type} (p : Program) (s : Sem α) : ∀ (w : World) {a : α} {w' : World}, s.run p w = .ok a w' → w.drawn ≤ w'.drawn := by
  induction s with
  | pure a => intro w _ _ h; cases h; exact Nat.le_refl _
  | load m a k ih =>
    intro w a' w' h
    rw [Sem.run] at h
    split at h
    · exact ih _ _ h
    · split at h
      · exact ih _ _ h
      · cases h
  | store m a v k ih =>
    intro w a' w' h
    have h : (match w.cell? a with
      | some _ => if w.frozen? a then Result.halt (.unsupported (.unsafePointer "a write to bytes that a string shares")) w else k.run p (w.setCell a v)
      | none => match World.farStore p w a v (m == Mode.atomic) with
        | .ok (w, _) => k.run p w
        | .error h => Result.halt h w) = .ok a' w' := by cases v <;> first | exact h | cases h
    split at h
    · split at h
      · cases h
      · exact ih (w.setCell a v) h
    · split at h
      · rename_i w1 l hf
        have := ih w1 h
        rw [nB hf] at this; exact this
      · cases h
  | new o k ih => intro w a' w' h; exact ih w.heap.size { w with heap := w.heap.push o } h
  | shape r k ih => intro w a' w' h; exact ih _ _ h
  | freeze a n k ih =>
    intro w a' w' h
    have := ih (w.freeze a n) h
    unfold World.freeze at this
    split at this <;> exact this
  | frozen a k ih => intro w a' w' h; exact ih _ _ h
  | getObj r k ih =>
    intro w a' w' h
    rw [Sem.run] at h
    split at h
    · cases h
    · exact ih _ _ h
    · cases h
  | setObj r o k ih =>
    intro w a' w' h
    have h : (match w.heap[r]? with | some (.cells ..) => Result.halt (.stuck "setObj: a row of cells") w | some _ => k.run p { w with heap := w.heap.setIfInBounds r o } | none => Result.halt (.stuck "setObj: no such block") w) = .ok a' w' := h
    split at h
    · cases h
    · exact ih { w with heap := w.heap.setIfInBounds r o } h
    · cases h
  | choose q k ih =>
    intro w a' w' h
    have h : (if q.forced then (k 0).run p w else (k (q.cut (w.tape w.drawn q))).run p { w with drawn := w.drawn + 1 }) = .ok a' w' := h
    split at h
    · exact ih _ _ h
    · exact Nat.le_trans (Nat.le_succ _) (ih _ { w with drawn := w.drawn + 1 } h)
  | sys c k ih => intro w a' w' h; exact Nat.le_trans (sys_drawn w c) (ih _ _ h)
  | program k ih => intro w a' w' h; exact ih _ _ h
  | mark m k ih => intro w a' w' h; exact ih _ h
  | halt e => intro w a' w' h; cases h
structure GrownD (w w' : World) (row : Option Nat) : Prop where
  old : w.grownBy w' row
  drawn : w.drawn ≤ w'.drawn
theorem Below.grown {B : Nat} {a w w' : World} {row : Option Nat} (h : Below B a w) (hg : GrownD w w' row) (hB : B ≤ w.heap.size) (hr : ∀ k, row = some k → B ≤ k) : Below B a w' :=
  have h2 := h.old.grown hg.old hB hr
  ⟨h2.os, h2.tape, h2.output, h2.size, Nat.le_trans h.drawn hg.drawn, h2.block⟩
theorem kO {P : Program} (w : World) {ops : Array Oper} {rest : List Oper} {o : Oper} {a : Act} {Q : Exit → Act → World → Prop} (hgd : o.guard = none) (s x : Operand) (t : TypeId)
    (ho : o.op = .call { callee := .builtin .append, args := #[s, x], argTypes := #[t, t] })
    (base : Nat) (e : TypeId) (i : TypeInfo) (z : Value) (size bytes : Nat) (ht : P.underlying t = some (.slice e)) (hi : P.info? e = some i) (hz : i.zero = some z)
    (hsize : i.size = size) (hby : i.bytes = bytes) (hzs : z.cells.size = size) (hsz : 0 < size)
    (v : Value) (n : Nat) (xs : List Value) (hs : a.eval s = v) (hown : w.ownsRow base e size v n xs)
    (ad : Addr) (m c : Nat) (news : List Value) (hx : a.eval x = .slice (some ad) m c) (hl : news.length = m * size) (hnews : ∀ j u, news[j]? = some u → w.cell? (ad.add j) = some u) (h1 : ∀ u ∈ news, u.oneCell' = true)
    (h63 : n + m ≤ maxLen) (hbytes : (n + m) * bytes ≤ 140737488355328) (hbase : base ≤ w.heap.size)
    (h : ∀ v' w', w'.ownsRow base e size v' (n + m) (xs ++ news) → GrownD w w' v.ownBlock → (v' = .slice none 0 0 ↔ v = .slice none 0 0 ∧ m = 0) → wpList P ops Q rest (a.put o.dst v') w') : wpList P ops Q (o :: rest) a w := by
  refine wpList_plain hgd fun K hK => ?_
  obtain ⟨v', w', hr, h2, h3, h4⟩ := run_append_own (P := P) w base t o.type e i z size bytes ht hi hz hsize hby hzs hsz v n xs hown ad m c news hl hnews h1 h63 hbytes hbase
  have hd := p4 P _ _ hr
  unfold Oper.wp execOp
  simp only [ho, resolve, invoke, builtin, Sem.run_bind, Sem.run_pure, Result.andThen_ok, List.map_toArray, List.map_cons, List.map_nil, hs, hx, hr]
  exact hK _ _ (h v' w' h2 ⟨h3, hd⟩ h4)
end
section
structure Blk where
  b : Nat
  cs : Array Value
  ty : TypeId
structure Own (M : List Nat) (W w : World) (L : List Blk) : Prop where
  os : w.os = W.os
  tape : w.tape = W.tape
  output : w.output = W.output
  size : W.heap.size ≤ w.heap.size
  drawn : W.drawn ≤ w.drawn
  kept : ∀ k, k < W.heap.size → k ∉ M → w.heap[k]? = W.heap[k]?
  held : ∀ x ∈ L, w.heap[x.b]? = some (.cells x.cs x.ty)
  base : ∀ x ∈ L, W.heap.size ≤ x.b ∨ x.b ∈ M
  apart : (L.map Blk.b).Nodup
theorem Own.below {W w : World} {L : List Blk} (h : Own [] W w L) : Below W.heap.size W w := ⟨h.os, h.tape, h.output, h.size, h.drawn, fun k hk => h.kept k hk (by simp)⟩
theorem Own.start (M : List Nat) (W : World) : Own M W W [] := ⟨rfl, rfl, rfl, Nat.le_refl _, Nat.le_refl _, fun _ _ _ => rfl, by simp, by simp, by simp⟩
theorem Own.lt {M : List Nat} {W w : World} {L : List Blk} (h : Own M W w L) {x : Blk} (hx : x ∈ L) : x.b < w.heap.size := (Array.getElem?_eq_some_iff.1 (h.held x hx)).1
theorem Own.on {M : List Nat} {W w w' : World} {L : List Blk} (h : Own M W w L) (hb : Below w.heap.size w w') : Own M W w' L :=
  ⟨hb.os.trans h.os, hb.tape.trans h.tape, hb.output.trans h.output, Nat.le_trans h.size hb.size, Nat.le_trans h.drawn hb.drawn, fun k hk hm => (hb.block k (Nat.lt_of_lt_of_le hk h.size)).trans (h.kept k hk hm), fun x hx => (hb.block x.b (h.lt hx)).trans (h.held x hx), h.base, h.apart⟩
theorem Own.drew {M : List Nat} {W w : World} {L : List Blk} (h : Own M W w L) : Own M W { w with drawn := w.drawn + 1 } L := ⟨h.os, h.tape, h.output, h.size, Nat.le_succ_of_le h.drawn, h.kept, h.held, h.base, h.apart⟩
theorem Own.get {M : List Nat} {W w : World} {L : List Blk} (h : Own M W w L) {i : Nat} {x : Blk} (hi : L[i]? = some x) : w.heap[x.b]? = some (.cells x.cs x.ty) := h.held x (List.mem_of_getElem? hi)
theorem Own.alloc {M : List Nat} {W w : World} {L : List Blk} (h : Own M W w L) (cs : Array Value) (T : TypeId) : Own M W (w.alloc (.cells cs T)) (⟨w.heap.size, cs, T⟩ :: L) := by
  refine ⟨h.os, h.tape, h.output, Nat.le_trans h.size (by simp), h.drawn, fun k hk hm => ?_, fun x hx => ?_, fun x hx => ?_, ?_⟩
  · rw [Below.heap_alloc w _ k (Nat.lt_of_lt_of_le hk h.size)]; exact h.kept k hk hm
  · rcases List.mem_cons.1 hx with rfl | hx
    · exact heap_alloc_new w _
    · exact (Below.heap_alloc w _ x.b (h.lt hx)).trans (h.held x hx)
  · rcases List.mem_cons.1 hx with rfl | hx
    · exact .inl h.size
    · exact h.base x hx
  · rw [List.map_cons, List.nodup_cons]
    refine ⟨fun hm => ?_, h.apart⟩
    obtain ⟨y, hy, he⟩ := List.mem_map.1 hm
    have := h.lt hy
    rw [he] at this
    exact absurd this (Nat.lt_irrefl _)
theorem map_set_b (L : List Blk) (i : Nat) (x y : Blk) (hi : L[i]? = some x) (hb : y.b = x.b) : (L.set i y).map Blk.b = L.map Blk.b := by
  rw [List.map_set, hb]
  have : (L.map Blk.b)[i]? = some x.b := by rw [List.getElem?_map, hi]; rfl
  obtain ⟨hlt, he⟩ := List.getElem?_eq_some_iff.1 this
  rw [← he, List.set_getElem_self]
theorem nodup_at {α : Type} {l : List α} (h : l.Nodup) {i j : Nat} {x : α} (hi : l[i]? = some x) (hj : l[j]? = some x) : i = j := by
  obtain ⟨a, ha⟩ := List.getElem?_eq_some_iff.1 hi
  obtain ⟨b, hb⟩ := List.getElem?_eq_some_iff.1 hj
  exact (List.getElem_inj h).1 (ha.trans hb.symm)
theorem Own.put {M : List Nat} {W w : World} {L : List Blk} (h : Own M W w L) {i : Nat} {x : Blk} (hi : L[i]? = some x) (cs : Array Value) : Own M W (w.setRow x.b cs) (L.set i ⟨x.b, cs, x.ty⟩) := by
  have hx := List.mem_of_getElem? hi
  have hm := map_set_b L i x ⟨x.b, cs, x.ty⟩ hi rfl
  have hsz : (w.setRow x.b cs).heap.size = w.heap.size := size_setRow w x.b cs
  refine ⟨h.os, h.tape, h.output, by rw [hsz]; exact h.size, h.drawn, fun k hk hkm => ?_, fun y hy => ?_, fun y hy => ?_, by rw [hm]; exact h.apart⟩
  · rw [setRow_other w x.b k cs (fun e => by
      rcases h.base x hx with h1 | h1
      · omega
      · exact hkm (e ▸ h1))]
    exact h.kept k hk hkm
  · obtain ⟨j, hj⟩ := List.mem_iff_getElem?.1 hy
    rw [List.getElem?_set] at hj
    split at hj
    · rename_i hij
      split at hj
      · obtain rfl := Option.some.inj hj
        exact setRow_heap w x.b x.cs cs x.ty _ (h.held x hx)
      · cases hj
    · rename_i hij
      have hyL := List.mem_of_getElem? hj
      have hne : y.b ≠ x.b := fun e => hij (by
        have h1 : (L.map Blk.b)[i]? = some x.b := by rw [List.getElem?_map, hi]; rfl
        have h2 : (L.map Blk.b)[j]? = some x.b := by rw [List.getElem?_map, hj, ← e]; rfl
        exact nodup_at h.apart h1 h2)
      rw [setRow_other w x.b y.b cs hne]
      exact h.held y hyL
  · have : y.b ∈ (L.set i ⟨x.b, cs, x.ty⟩).map Blk.b := List.mem_map.2 ⟨y, hy, rfl⟩
    rw [hm] at this
    obtain ⟨z, hz, he⟩ := List.mem_map.1 this
    rw [← he]; exact h.base z hz
def upd (f : Nat → Value) : Option Tmp → Value → Nat → Value
  | some d, v => fun t => bif Nat.beq t d then v else f t
  | none, _ => f
def Fr (n : Nat) (f : Nat → Value) : Act := { tmps := Array.ofFn (n := n) fun i => f i.val, defers := [] }
def ev (n : Nat) (f : Nat → Value) : Operand → Value
  | .tmp t => bif Nat.blt t n then f t else undef
  | .const v => v
  | .global g => .pointer (some ⟨g, 0, none⟩)
  | .func g => .func (.func g) #[] #[]
theorem blt_t {t n : Nat} (h : t < n) : Nat.blt t n = true := Nat.ble_eq_true_of_le h
theorem blt_f {t n : Nat} (h : ¬ t < n) : Nat.blt t n = false := Bool.eq_false_iff.2 fun e => h (Nat.le_of_ble_eq_true e)
theorem jZ (n : Nat) (f : Nat → Value) (t : Nat) : (Array.ofFn (n := n) fun i => f i.val).getD t undef = bif Nat.blt t n then f t else undef := by
  rw [Array.getD_eq_getD_getElem?, Array.getElem?_ofFn]
  by_cases h : t < n
  · rw [dif_pos h, blt_t h]; rfl
  · rw [dif_neg h, blt_f h]; rfl
theorem vL (n : Nat) (f : Nat → Value) : (Fr n f).eval = ev n f := by
  funext x
  cases x with
  | tmp t => exact jZ n f t
  | _ => rfl
theorem jQ (n : Nat) (f : Nat → Value) (d : Option Tmp) (v : Value) : (Fr n f).put d v = Fr n (upd f d v) := by
  cases d with
  | none => rfl
  | some d =>
    show ({ tmps := (Array.ofFn (n := n) fun i => f i.val).setIfInBounds d v, defers := [] } : Act) = { tmps := Array.ofFn (n := n) fun i => upd f (some d) v i.val, defers := [] }
    have key : (Array.ofFn (n := n) fun i => f i.val).setIfInBounds d v = Array.ofFn (n := n) fun i => upd f (some d) v i.val := by
     apply Array.ext_getElem?
     intro i
     rw [Array.getElem?_setIfInBounds, Array.getElem?_ofFn, Array.getElem?_ofFn]
     by_cases h : i < n
     · rw [dif_pos h, dif_pos h]
       by_cases hd : d = i
       · subst hd
         simp [upd, h]
       · have : Nat.beq i d = false := by rw [Bool.eq_false_iff]; intro e; exact hd (Nat.eq_of_beq_eq_true e).symm
         rw [if_neg hd]; simp [upd, this]
     · rw [dif_neg h, dif_neg h]
       by_cases hd : d = i
       · subst hd; simp [h]
       · rw [if_neg hd]
    rw [key]
def asB : Value → Option Bool
  | .bool b => some b
  | _ => none
def yl (ops : Array Oper) (n : Nat) (f : Nat → Value) (j : Nat) : Option Bool :=
  match (ops[j]?).bind (·.dst) with
  | some d => bif Nat.blt d n then asB (f d) else none
  | none => none
theorem Fr_yielded (ops : Array Oper) (n : Nat) (f : Nat → Value) : yielded ops (Fr n f).tmps = yl ops n f := by
  funext j
  unfold yielded yl
  cases h : (ops[j]?).bind (·.dst) with
  | none => rfl
  | some d =>
    show (match (Array.ofFn (n := n) fun i => f i.val)[d]? with | some (.bool b) => some b | _ => none) = _
    rw [Array.getElem?_ofFn]
    by_cases hd : d < n
    · rw [dif_pos hd]
      dsimp only
      rw [blt_t hd]
      cases f d <;> rfl
    · rw [dif_neg hd]
      dsimp only
      rw [blt_f hd]; rfl
def xG (ops : Array Oper) (n : Nat) (f : Nat → Value) (o : Oper) : Bool := Region.wanted o (yl ops n f)
section
variable {M : List Nat} {P : Program} {n : Nat} {ops : Array Oper} {W : World} {Q : Exit → Act → World → Prop} {rest : List Oper} {o : Oper} {L : List Blk} {f : Nat → Value}
structure Seg (M : List Nat) (P : Program) (n : Nat) (ops : Array Oper) (W : World) (Q : Exit → Act → World → Prop) (rest : List Oper) (L : List Blk) (f : Nat → Value) : Prop where
  go : ∀ w, Own M W w L → wpList P ops Q rest (Fr n f) w
structure Fin (M : List Nat) (n : Nat) (W : World) (Q : Exit → Act → World → Prop) (e : Exit) (L : List Blk) (f : Nat → Value) : Prop where
  go : ∀ w, Own M W w L → Q e (Fr n f) w
structure Ok (M : List Nat) (P : Program) (n : Nat) (W : World) (Q : Exit → Act → World → Prop) (c : Code) (L : List Blk) (f : Nat → Value) : Prop where
  go : ∀ w, Own M W w L → c.wp P Q (Fr n f) w
structure qB (M : List Nat) (P : Program) (n : Nat) (ops : Array Oper) (W : World) (Qe : List Blk → (Nat → Value) → Prop) (rest : List Oper) (L : List Blk) (f : Nat → Value) : Prop where
  go : wpQuiet P ops (fun w => Own M W w L) (fun a => ∃ f', a = Fr n f' ∧ Qe L f') rest (Fr n f)
theorem jF (ops : Array Oper) (n : Nat) (f : Nat → Value) (o : Oper) : Region.wanted o (yielded ops (Fr n f).tmps) = xG ops n f o := by rw [Fr_yielded]; rfl
theorem zK (h : Fin M n W Q .normal L f) : Seg M P n ops W Q [] L f := ⟨h.go⟩
theorem s_skip (hw : xG ops n f o = false) (h : Seg M P n ops W Q rest L (upd f o.dst undef)) : Seg M P n ops W Q (o :: rest) L f := ⟨fun w hO => by
  have := h.go w hO
  unfold wpList
  rw [jF, hw, if_neg Bool.false_ne_true, jQ]
  exact this⟩
theorem Zk (h : Seg M P n ops W Q rest L (upd f o.dst undef)) (hw : xG ops n f o = false := by kernel_rfl) : Seg M P n ops W Q (o :: rest) L f := s_skip hw h
theorem vY (hw : xG ops n f o = true) (h : ∀ w, Own M W w L → o.wp P (Fr n f) w (wpList P ops Q rest) Q) : Seg M P n ops W Q (o :: rest) L f := ⟨fun w hO => by
  unfold wpList
  rw [jF, hw, if_pos rfl]
  exact .inl (h w hO)⟩
theorem v7 {K : Act → World → Prop} {w w' : World} (v : Value) (hr : (execOp (ev n f) o).run P w = .ok (.value v) w') (h : K (Fr n (upd f o.dst v)) w') : o.wp P (Fr n f) w K Q := by
  unfold Oper.wp
  rw [vL, hr]
  show K ((Fr n f).put o.dst v) w'
  rw [jQ]; exact h
theorem zM (v : Value) (hw : xG ops n f o = true) (hr : ∀ w, (execOp (ev n f) o).run P w = .ok (.value v) w) (h : Seg M P n ops W Q rest L (upd f o.dst v)) : Seg M P n ops W Q (o :: rest) L f :=
  vY hw fun w hO => v7 v (hr w) (h.go w hO)
theorem Zv (v : Value) (h : Seg M P n ops W Q rest L (upd f o.dst v)) (hw : xG ops n f o = true := by kernel_rfl) (hr : ∀ w, (execOp (ev n f) o).run P w = .ok (.value v) w := by intro _; kernel_rfl) : Seg M P n ops W Q (o :: rest) L f := zM v hw hr h
theorem s_read (v : Value) (hw : xG ops n f o = true) (hr : ∀ w, Own M W w L → (execOp (ev n f) o).run P w = .ok (.value v) w) (h : Seg M P n ops W Q rest L (upd f o.dst v)) : Seg M P n ops W Q (o :: rest) L f :=
  vY hw fun w hO => v7 v (hr w hO) (h.go w hO)
theorem dO {K : Act → World → Prop} {w : World} {k : FuncId} {args : Array Value} (he : (execOp (ev n f) o).run P w = .ok (.enter k args) w)
    (hc : Calls P k args w fun e w' => ∃ v, e = .returned v ∧ K (Fr n (upd f o.dst v)) w') : o.wp P (Fr n f) w K Q := by
  unfold Oper.wp
  rw [vL, he]
  show Calls P k args w _
  refine hc.mono fun e w' ⟨v, e1, e2⟩ => ?_
  subst e1
  show K ((Fr n f).put o.dst v) w'
  rw [jQ]; exact e2
theorem s_call {k : FuncId} {args : Array Value} (v : Value) (hw : xG ops n f o = true) (he : ∀ w, (execOp (ev n f) o).run P w = .ok (.enter k args) w)
    (hc : ∀ w, Own M W w L → Calls P k args w fun e w' => e = .returned v ∧ Below w.heap.size w w') (h : Seg M P n ops W Q rest L (upd f o.dst v)) : Seg M P n ops W Q (o :: rest) L f :=
  vY hw fun w hO => dO (he w) ((hc w hO).mono fun e w' ⟨e1, e2⟩ => ⟨v, e1, h.go w' (hO.on e2)⟩)
theorem Zc {k : FuncId} {args : Array Value} (v : Value) (hc : ∀ w, Own M W w L → Calls P k args w fun e w' => e = .returned v ∧ Below w.heap.size w w') (h : Seg M P n ops W Q rest L (upd f o.dst v)) (hw : xG ops n f o = true := by kernel_rfl) (he : ∀ w, (execOp (ev n f) o).run P w = .ok (.enter k args) w := by intro _; kernel_rfl) : Seg M P n ops W Q (o :: rest) L f := s_call v hw he hc h
def nI : TypeDesc → Bool
  | .struct _ | .array _ _ => true
  | _ => false
def xQ (P : Program) (ty : TypeId) (cs : Array Value) (off : Nat) : Option Value :=
  match P.underlying ty, P.info? ty with
  | some (.struct _), some i => if off + i.size ≤ cs.size then some (.agg (cs.toList.drop off |>.take i.size).toArray) else none
  | some (.array _ _), some i => if off + i.size ≤ cs.size then some (.agg (cs.toList.drop off |>.take i.size).toArray) else none
  | some _, some _ => cs[off]?
  | _, _ => none
theorem y5 (b o j : Nat) : (⟨b, o, none⟩ : Addr).add j = ⟨b, o + j, none⟩ := by unfold Addr.add; split <;> simp_all
theorem run_agg_at {ty : TypeId} {d : TypeDesc} {i : TypeInfo} {cs : Array Value} {w : World} {b off : Nat} {T : TypeId} (hu : P.underlying ty = some d) (hd : nI d = true) (hi : P.info? ty = some i)
    (hg : w.heap[b]? = some (.cells cs T)) (hle : off + i.size ≤ cs.size) : (loadVar ty ⟨b, off, none⟩).run P w = .ok (.agg (cs.toList.drop off |>.take i.size).toArray) w := by
  have hlen : ((cs.toList.drop off).take i.size).length = i.size := by simp; omega
  have hl := run_loadCells_list (P := P) w ⟨b, off, none⟩ ((cs.toList.drop off).take i.size) (fun j v hv => by
    rw [y5, cell_of_row w b (off + j) cs T _ hg]
    have hj : j < i.size := by have := (List.getElem?_eq_some_iff.1 hv).1; rw [hlen] at this; exact this
    rw [List.getElem?_take, if_pos hj, List.getElem?_drop] at hv
    simpa using hv)
  rw [hlen] at hl
  have hagg : (isAgg ty).run P w = .ok true w := by
    unfold isAgg
    rw [Sem.run_bind, run_underlying hu w]
    cases d <;> simp_all [nI]
  simp [loadVar, Sem.run_bind, hagg, sizeOf, typeInfo, hi, hl]
theorem yO {ty : TypeId} {cs : Array Value} {off : Nat} {v : Value} (h : xQ P ty cs off = some v) {w : World} {b : Nat} {T : TypeId} (hg : w.heap[b]? = some (.cells cs T)) :
    (loadVar ty ⟨b, off, none⟩).run P w = .ok v w := by
  unfold xQ at h
  cases hu : P.underlying ty with
  | none => rw [hu] at h; simp at h
  | some d =>
    cases hi : P.info? ty with
    | none => rw [hu, hi] at h; cases d <;> simp at h
    | some i =>
      rw [hu, hi] at h
      by_cases hd : nI d = true
      · have h2 : (if off + i.size ≤ cs.size then some (Value.agg (cs.toList.drop off |>.take i.size).toArray) else none) = some v := by
          cases d <;> first | exact h | (simp [nI] at hd)
        split at h2
        · rename_i hle
          obtain rfl := Option.some.inj h2
          exact run_agg_at hu hd hi hg hle
        · cases h2
      · have h2 : cs[off]? = some v := by cases d <;> first | exact h | (simp [nI] at hd)
        have hagg : (isAgg ty).run P w = .ok false w := by
          unfold isAgg
          rw [Sem.run_bind, run_underlying hu w]
          cases d <;> simp_all [nI]
        have hc : w.cell? ⟨b, off, none⟩ = some v := (cell_of_row w b off cs T _ hg).trans h2
        simp [loadVar, Sem.run_bind, hagg, run_load, hc, Result.andThen]
theorem yF {ty : TypeId} {x : Operand} {a : Addr} {v : Value} {w : World} (ho : o.op = .load ty x) (hx : ev n f x = .pointer (some a)) (hl : (loadVar ty a).run P w = .ok v w) : (execOp (ev n f) o).run P w = .ok (.value v) w := by
  unfold execOp
  simp only [ho, hx, Instr.loadAt, Instr.sureAddr, Sem.run_bind, Sem.run_pure, Result.andThen_ok, hl]
theorem qH (i : Nat) (x : Blk) {ty : TypeId} {p : Operand} {off : Nat} (v : Value) (hw : xG ops n f o = true) (ho : o.op = .load ty p) (hL : L[i]? = some x) (hp : ev n f p = .pointer (some ⟨x.b, off, none⟩)) (hv : xQ P ty x.cs off = some v)
    (h : Seg M P n ops W Q rest L (upd f o.dst v)) : Seg M P n ops W Q (o :: rest) L f :=
  s_read v hw (fun _ hO => yF ho hp (yO hv (hO.get hL))) h
theorem Zl (i : Nat) (x : Blk) {ty : TypeId} {p : Operand} {off : Nat} (v : Value) (h : Seg M P n ops W Q rest L (upd f o.dst v)) (ho : o.op = .load ty p := by rfl) (hw : xG ops n f o = true := by kernel_rfl) (hL : L[i]? = some x := by rfl) (hp : ev n f p = .pointer (some ⟨x.b, off, none⟩) := by kernel_rfl) (hv : xQ P ty x.cs off = some v := by kernel_rfl) : Seg M P n ops W Q (o :: rest) L f := qH i x v hw ho hL hp hv h
theorem s_old {ty : TypeId} {p : Operand} {a : Addr} (v : Value) (hw : xG ops n f o = true) (ho : o.op = .load ty p) (hp : ev n f p = .pointer (some a)) (hv : ∀ w, Own M W w L → (loadVar ty a).run P w = .ok v w)
    (h : Seg M P n ops W Q rest L (upd f o.dst v)) : Seg M P n ops W Q (o :: rest) L f :=
  s_read v hw (fun w hO => yF ho hp (hv w hO)) h
theorem Zo {ty : TypeId} {p : Operand} {a : Addr} (v : Value) (hv : ∀ w, Own M W w L → (loadVar ty a).run P w = .ok v w) (h : Seg M P n ops W Q rest L (upd f o.dst v)) (ho : o.op = .load ty p := by rfl) (hw : xG ops n f o = true := by kernel_rfl) (hp : ev n f p = .pointer (some a) := by kernel_rfl) : Seg M P n ops W Q (o :: rest) L f := s_old v hw ho hp hv h
theorem s_alloc {T : TypeId} {i : TypeInfo} (z : Value) (hw : xG ops n f o = true) (ho : o.op = .alloc T) (hi : P.info? T = some i) (hz : i.zero = some z)
    (h : ∀ b, Seg M P n ops W Q rest (⟨b, z.cells, T⟩ :: L) (upd f o.dst (.pointer (some ⟨b, 0, none⟩)))) : Seg M P n ops W Q (o :: rest) L f :=
  vY hw fun w hO => by
    refine v7 (.pointer (some ⟨w.heap.size, 0, none⟩)) (w' := w.alloc (.cells z.cells T)) ?_ ((h w.heap.size).go _ (hO.alloc _ _))
    unfold execOp
    simp [ho, Instr.alloc, zeroValue, typeInfo, hi, hz, newVar, newRow, Sem.run_bind]
theorem s_box {T : TypeId} {x : Operand} (v : Value) (hw : xG ops n f o = true) (ho : o.op = .box T x) (hx : ev n f x = v)
    (h : ∀ b, Seg M P n ops W Q rest (⟨b, v.cells, T⟩ :: L) (upd f o.dst (.pointer (some ⟨b, 0, none⟩)))) : Seg M P n ops W Q (o :: rest) L f :=
  vY hw fun w hO => by
    refine v7 (.pointer (some ⟨w.heap.size, 0, none⟩)) (w' := w.alloc (.cells v.cells T)) ?_ ((h w.heap.size).go _ (hO.alloc _ _))
    unfold execOp
    simp [ho, hx, Instr.box, newVar, newRow, Sem.run_bind]
theorem Zb {T : TypeId} {x : Operand} (v : Value) (h : ∀ b, Seg M P n ops W Q rest (⟨b, v.cells, T⟩ :: L) (upd f o.dst (.pointer (some ⟨b, 0, none⟩)))) (ho : o.op = .box T x := by rfl) (hw : xG ops n f o = true := by kernel_rfl) (hx : ev n f x = v := by kernel_rfl) : Seg M P n ops W Q (o :: rest) L f := s_box v hw ho hx h
def xX (cs : Array Value) (off : Nat) (vs : Array Value) : Array Value := (cs.toList.take off ++ vs.toList ++ cs.toList.drop (off + vs.size)).toArray
theorem s_store (i : Nat) (x : Blk) {T : TypeId} {t : TypeInfo} {p q : Operand} {off : Nat} (v : Value) (hw : xG ops n f o = true) (ho : o.op = .store T p q) (hd : o.dst = none) (hL : L[i]? = some x)
    (hp : ev n f p = .pointer (some ⟨x.b, off, none⟩)) (hq : ev n f q = v) (hi : P.info? T = some t) (hs : v.cells.size = t.size) (hle : off + t.size ≤ x.cs.size) (h1 : ∀ u ∈ v.cells.toList, u.oneCell' = true)
    (h : Seg M P n ops W Q rest (L.set i ⟨x.b, xX x.cs off v.cells, x.ty⟩) f) : Seg M P n ops W Q (o :: rest) L f :=
  vY hw fun w hO => by
    have hst := run_storeCells_at (P := P) x.b off x.ty v.cells.toList 0 x.cs w (hO.get hL) (by simp; omega) h1
    unfold Oper.wp
    rw [vL]
    have hr : (execOp (ev n f) o).run P w = .ok .skip (w.setRow x.b (xX x.cs off v.cells)) := by
      unfold execOp
      simp only [ho, hp, hq, Instr.storeAt, Instr.sureAddr, Sem.run_bind, Sem.run_pure, Result.andThen_ok, storeVar, sizeOf, typeInfo, hi, hs, run_program]
      simp only [ne_eq, not_true_eq_false, if_false]
      have : (storeCells ⟨x.b, off, none⟩ v.cells.toList).run P w = .ok () (w.setRow x.b (xX x.cs off v.cells)) := by
        rw [hst]; unfold xX; simp
      simp [this]
    rw [hr]
    show wpList P ops Q rest ((Fr n f).put o.dst undef) _
    rw [jQ, hd]
    exact h.go _ (hO.put hL _)
theorem yU {Qe : List Blk → (Nat → Value) → Prop} (h : Qe L f) : qB M P n ops W Qe [] L f := ⟨⟨f, rfl, h⟩⟩
theorem q_skip {Qe : List Blk → (Nat → Value) → Prop} (hw : xG ops n f o = false) (h : qB M P n ops W Qe rest L (upd f o.dst undef)) : qB M P n ops W Qe (o :: rest) L f := by
  refine ⟨?_⟩
  replace h := h.go
  refine BigFrame.wpQuiet_skip (by rw [jF]; exact hw) ?_
  rw [jQ]; exact h
theorem Zj {Qe : List Blk → (Nat → Value) → Prop} (h : qB M P n ops W Qe rest L (upd f o.dst undef)) (hw : xG ops n f o = false := by kernel_rfl) : qB M P n ops W Qe (o :: rest) L f := q_skip hw h
theorem pT {Qe : List Blk → (Nat → Value) → Prop} (v : Value) (hw : xG ops n f o = true) (hr : ∀ w, Own M W w L → (execOp (ev n f) o).run P w = .ok (.value v) w) (h : qB M P n ops W Qe rest L (upd f o.dst v)) : qB M P n ops W Qe (o :: rest) L f := by
  refine ⟨?_⟩
  replace h := h.go
  refine BigFrame.wpQuiet_want (by rw [jF]; exact hw) fun K hK => ⟨v, fun w hO => ?_, hK _ ?_⟩
  · unfold Oper.quietAt
    rw [vL, hr w hO]
    exact ⟨rfl, rfl⟩
  · rw [jQ]; exact h
theorem yQ {Qe : List Blk → (Nat → Value) → Prop} (v : Value) (hw : xG ops n f o = true) (hr : ∀ w, (execOp (ev n f) o).run P w = .ok (.value v) w) (h : qB M P n ops W Qe rest L (upd f o.dst v)) : qB M P n ops W Qe (o :: rest) L f :=
  pT v hw (fun w _ => hr w) h
theorem Zw {Qe : List Blk → (Nat → Value) → Prop} (v : Value) (h : qB M P n ops W Qe rest L (upd f o.dst v)) (hw : xG ops n f o = true := by kernel_rfl) (hr : ∀ w, (execOp (ev n f) o).run P w = .ok (.value v) w := by intro _; kernel_rfl) : qB M P n ops W Qe (o :: rest) L f := yQ v hw hr h
theorem q_call {Qe : List Blk → (Nat → Value) → Prop} {k : FuncId} {args : Array Value} (v : Value) (hw : xG ops n f o = true) (he : ∀ w, (execOp (ev n f) o).run P w = .ok (.enter k args) w)
    (hc : ∀ w, Own M W w L → Calls P k args w fun e w' => e = .returned v ∧ Below w.heap.size w w') (h : qB M P n ops W Qe rest L (upd f o.dst v)) : qB M P n ops W Qe (o :: rest) L f := by
  refine ⟨?_⟩
  replace h := h.go
  refine BigFrame.wpQuiet_want (by rw [jF]; exact hw) fun K hK => ⟨v, fun w hO => ?_, hK _ ?_⟩
  · unfold Oper.quietAt
    rw [vL, he w]
    exact ⟨rfl, (hc w hO).mono fun e w' ⟨e1, e2⟩ => ⟨e1, hO.on e2⟩⟩
  · rw [jQ]; exact h
theorem Zq {Qe : List Blk → (Nat → Value) → Prop} {k : FuncId} {args : Array Value} (v : Value) (hc : ∀ w, Own M W w L → Calls P k args w fun e w' => e = .returned v ∧ Below w.heap.size w w') (h : qB M P n ops W Qe rest L (upd f o.dst v)) (hw : xG ops n f o = true := by kernel_rfl) (he : ∀ w, (execOp (ev n f) o).run P w = .ok (.enter k args) w := by intro _; kernel_rfl) : qB M P n ops W Qe (o :: rest) L f := q_call v hw he hc h
theorem j8 {Qe : List Blk → (Nat → Value) → Prop} (i : Nat) (x : Blk) {ty : TypeId} {p : Operand} {off : Nat} (v : Value) (hw : xG ops n f o = true) (ho : o.op = .load ty p) (hL : L[i]? = some x) (hp : ev n f p = .pointer (some ⟨x.b, off, none⟩)) (hv : xQ P ty x.cs off = some v)
    (h : qB M P n ops W Qe rest L (upd f o.dst v)) : qB M P n ops W Qe (o :: rest) L f :=
  pT v hw (fun _ hO => yF ho hp (yO hv (hO.get hL))) h
theorem Zm {Qe : List Blk → (Nat → Value) → Prop} (i : Nat) (x : Blk) {ty : TypeId} {p : Operand} {off : Nat} (v : Value) (h : qB M P n ops W Qe rest L (upd f o.dst v)) (ho : o.op = .load ty p := by rfl) (hw : xG ops n f o = true := by kernel_rfl) (hL : L[i]? = some x := by kernel_rfl) (hp : ev n f p = .pointer (some ⟨x.b, off, none⟩) := by kernel_rfl) (hv : xQ P ty x.cs off = some v := by kernel_rfl) : qB M P n ops W Qe (o :: rest) L f := j8 i x v hw ho hL hp hv h
theorem qW {Qe : List Blk → (Nat → Value) → Prop} {ty : TypeId} {p : Operand} {a : Addr} (v : Value) (hw : xG ops n f o = true) (ho : o.op = .load ty p) (hp : ev n f p = .pointer (some a)) (hv : ∀ w, Own M W w L → (loadVar ty a).run P w = .ok v w)
    (h : qB M P n ops W Qe rest L (upd f o.dst v)) : qB M P n ops W Qe (o :: rest) L f :=
  pT v hw (fun w hO => yF ho hp (hv w hO)) h
theorem zF {x y : Code} (h : Ok M P n W (Exit.then (Code.wp P y Q) Q) x L f) : Ok M P n W Q (.seq x y) L f := ⟨fun w hO => wp_seq (h.go w hO)⟩
theorem z7 {id : Nat} {l : List Oper} (h : Seg M P n l.toArray W Q l L f) : Ok M P n W Q (.region id l.toArray false) L f := ⟨fun w hO => wp_region_lit (h.go w hO)⟩
theorem xU {id : Nat} {l : List Oper} (hm : P.follows .mixedOrders = true) (hB : Region.lexB .any l.toArray = true) (h : qB M P n l.toArray W (Fin M n W Q .normal) l L f) : Ok M P n W Q (.region id l.toArray true) L f := ⟨fun w hO =>
  wp_region_quiet (C := fun w => Own M W w L) hm hB hO.drew (by
    have e : l.toArray.toList = l := by simp
    rw [e]
    have key : ∀ (r : List Oper) (a : Act), wpQuiet P l.toArray (fun w => Own M W w L) (fun a => ∃ f', a = Fr n f' ∧ Fin M n W Q .normal L f') r a → wpQuiet P l.toArray (fun w => Own M W w L) (fun a' => ∀ w', Own M W w' L → Q .normal a' w') r a := by
      intro r
      induction r with
      | nil => rintro a ⟨f', rfl, h⟩; exact h.go
      | cons o r ih =>
        intro a h
        unfold wpQuiet at h ⊢
        split
        · rename_i hw; rw [if_pos hw] at h; exact Oper.quiet_mono ih h
        · rename_i hw; rw [if_neg hw] at h; exact ih _ h
    exact key l _ h.go)⟩
theorem ok_true {c : Operand} {x y : Code} (hc : ev n f c = .bool true) (h : Ok M P n W Q x L f) : Ok M P n W Q (.cond c x y) L f := ⟨fun w hO => wp_cond_true (by rw [vL]; exact hc) (h.go w hO)⟩
theorem Zt {c : Operand} {x y : Code} (h : Ok M P n W Q x L f) (hc : ev n f c = .bool true := by kernel_rfl) : Ok M P n W Q (.cond c x y) L f := ok_true hc h
theorem tV {c : Operand} {x y : Code} (hc : ev n f c = .bool false) (h : Ok M P n W Q y L f) : Ok M P n W Q (.cond c x y) L f := ⟨fun w hO => wp_cond_false (by rw [vL]; exact hc) (h.go w hO)⟩
theorem Zf {c : Operand} {x y : Code} (h : Ok M P n W Q y L f) (hc : ev n f c = .bool false := by kernel_rfl) : Ok M P n W Q (.cond c x y) L f := tV hc h
theorem zP {id : Nat} {c : Code} (h : Ok M P n W (Exit.inBlock id Q) c L f) : Ok M P n W Q (.block id c) L f := ⟨fun w hO => wp_block (h.go w hO)⟩
theorem xN {id : Nat} (h : Fin M n W Q (.exit id) L f) : Ok M P n W Q (.exit id) L f := ⟨fun w hO => wp_exit (h.go w hO)⟩
theorem x6 (h : Fin M n W Q .normal L f) : Ok M P n W Q .skip L f := ⟨fun w hO => wp_skip (h.go w hO)⟩
theorem zG (h : Fin M n W Q .ret L f) : Ok M P n W Q .ret L f := ⟨fun w hO => wp_ret (h.go w hO)⟩
theorem z8 {y : Code} (h : Ok M P n W Q y L f) : Fin M n W (Exit.then (Code.wp P y Q) Q) .normal L f := ⟨h.go⟩
theorem ZN {y : Code} (h : Ok M P n W Q y L f) : Seg M P n ops W (Exit.then (Code.wp P y Q) Q) [] L f := zK (z8 h)
theorem ZO {y : Code} {id : Nat} {l : List Oper} (h : Seg M P n l.toArray W (Exit.then (Code.wp P y Q) Q) l L f) : Ok M P n W Q (.seq (.region id l.toArray false) y) L f := zF (z7 h)
theorem ZR {y : Code} {id : Nat} {l : List Oper} (h : Seg M P n l.toArray W (Exit.then (Code.wp P y Q) Q) l L f) : Seg M P n ops W (Exit.then (Code.wp P (.seq (.region id l.toArray false) y) Q) Q) [] L f := ZN (ZO h)
theorem ZY {c : Operand} {x y : Code} (h : Ok M P n W Q x L f) (hc : ev n f c = .bool true := by kernel_rfl) : Seg M P n ops W (Exit.then (Code.wp P (.cond c x y) Q) Q) [] L f := ZN (ok_true hc h)
theorem ZX {c : Operand} {x y : Code} (h : Ok M P n W Q y L f) (hc : ev n f c = .bool false := by kernel_rfl) : Seg M P n ops W (Exit.then (Code.wp P (.cond c x y) Q) Q) [] L f := ZN (tV hc h)
theorem ZB {y : Code} (h : Ok M P n W Q y L f) : Ok M P n W (Exit.then (Code.wp P y Q) Q) .skip L f := x6 (z8 h)
theorem z5 {K : Act → World → Prop} (h : Fin M n W Q .ret L f) : Fin M n W (Exit.then K Q) .ret L f := ⟨h.go⟩
theorem yG {K : Act → World → Prop} {id : Nat} (h : Fin M n W Q (.exit id) L f) : Fin M n W (Exit.then K Q) (.exit id) L f := ⟨h.go⟩
theorem zJ {id : Nat} (h : Fin M n W Q .normal L f) : Fin M n W (Exit.inBlock id Q) .normal L f := ⟨h.go⟩
theorem zD {id : Nat} (h : Fin M n W Q .ret L f) : Fin M n W (Exit.inBlock id Q) .ret L f := ⟨h.go⟩
theorem zZ {id : Nat} (h : Fin M n W Q .normal L f) : Fin M n W (Exit.inBlock id Q) (.exit id) L f := ⟨fun w hO => by
  show if id = id then _ else _
  rw [if_pos rfl]; exact h.go w hO⟩
def Round (M : List Nat) (n : Nat) (W : World) (Inv : List Blk → (Nat → Value) → Nat → Prop) (m : Nat) (Q : Exit → Act → World → Prop) : Exit → Act → World → Prop :=
  Exit.then (fun a w => ∃ L f m', m' < m ∧ Inv L f m' ∧ Own M W w L ∧ a = Fr n f) Q
theorem xT {c : Code} (Inv : List Blk → (Nat → Value) → Nat → Prop) (m : Nat) (h0 : Inv L f m) (h : ∀ L f m, Inv L f m → Ok M P n W (Round M n W Inv m Q) c L f) : Ok M P n W Q (.loop c) L f := ⟨fun w hO => by
  intro b k cs
  have run : ∀ (m : Nat) (L : List Blk) (f : Nat → Value) (w : World), Inv L f m → Own M W w L → ∃ e a' w', Q e a' w' ∧ Arrives P (lone (b.at (Fr n f) (.code c :: .inLoop c :: k)) cs w) b k cs e a' w' := by
    intro m
    induction m using Nat.strongRecOn with
    | _ m ih =>
      intro L f w hI hO
      obtain ⟨e, a₁, w₁, hq, harr⟩ := (h L f m hI).go w hO b (.inLoop c :: k) cs
      cases e with
      | normal =>
        obtain ⟨L', f', m', hlt, hI', hO', rfl⟩ := hq
        obtain ⟨e₂, a₂, w₂, hq₂, harr₂⟩ := ih m' hlt L' f' w₁ hI' hO'
        exact ⟨e₂, a₂, w₂, hq₂, .of_steps (Steps.trans harr (.one step_inLoop)) harr₂⟩
      | exit id => exact ⟨_, a₁, w₁, hq, .pass (x := .inLoop c) rfl (fun _ _ => .inl (by simp)) harr⟩
      | goto l => exact ⟨_, a₁, w₁, hq, .pass (x := .inLoop c) rfl (fun _ _ => .inl (by simp)) harr⟩
      | ret => exact ⟨_, a₁, w₁, hq, .pass (x := .inLoop c) rfl (fun _ _ => .inl (by simp)) harr⟩
      | panic ch => exact ⟨_, a₁, w₁, hq, .pass (x := .inLoop c) rfl (fun _ _ => .inl (by simp)) harr⟩
      | outgrown => exact ⟨_, a₁, w₁, hq, .pass (x := .inLoop c) rfl (fun _ _ => .inl (by simp)) harr⟩
  obtain ⟨e, a', w', hq, harr⟩ := run m L f w h0 hO
  exact ⟨e, a', w', hq, .of_steps (.one step_loop) harr⟩⟩
theorem zS {Inv : List Blk → (Nat → Value) → Nat → Prop} {m m' : Nat} (hlt : m' < m) (hI : Inv L f m') : Fin M n W (Round M n W Inv m Q) .normal L f := ⟨fun w hO => ⟨L, f, m', hlt, hI, hO, rfl⟩⟩
theorem yE {Inv : List Blk → (Nat → Value) → Nat → Prop} {m : Nat} (h : Fin M n W Q .ret L f) : Fin M n W (Round M n W Inv m Q) .ret L f := ⟨h.go⟩
theorem zY {Inv : List Blk → (Nat → Value) → Nat → Prop} {m id : Nat} (h : Fin M n W Q (.exit id) L f) : Fin M n W (Round M n W Inv m Q) (.exit id) L f := ⟨h.go⟩
theorem upd_self {f : Nat → Value} {d : Nat} {v : Value} (h : f d = v) : f = upd f (some d) v := by
  funext t
  show f t = bif Nat.beq t d then v else f t
  by_cases e : t = d
  · subst e
    have : Nat.beq t t = true := Nat.beq_refl t
    rw [this]; exact h
  · have : Nat.beq t d = false := by rw [Bool.eq_false_iff]; intro h2; exact e (Nat.eq_of_beq_eq_true h2)
    rw [this]; rfl
theorem pG (M : List Nat) {k : FuncId} {fn : Func} {c : Code} {args : Array Value} {R : Ending → World → Prop} (hf : P.funcs[k]? = some fn) (hb : fn.body = some c) (hn : fn.ntmps = n) (hle : Nat.ble args.size n = true)
    (h : Ok M P n W (bodyPost P fn R) c [] (fun t => args.getD t undef)) : Calls P k args W R := by
  refine calls_of_wp hf hb ?_
  have hle' : args.size ≤ n := Nat.le_of_ble_eq_true hle
  have e : ({ tmps := args ++ Array.replicate (fn.ntmps - args.size) undef, defers := [] } : Act) = Fr n (fun t => args.getD t undef) := by
    unfold Fr
    congr 1
    rw [hn]
    apply Array.ext_getElem?
    intro i
    rw [Array.getElem?_ofFn, Array.getElem?_append, Array.getElem?_replicate]
    by_cases hi : i < args.size
    · rw [if_pos hi, dif_pos (by omega), Array.getElem?_eq_getElem hi]
      simp [Array.getD, hi]
    · rw [if_neg hi]
      by_cases hin : i < n
      · rw [if_pos (by omega), dif_pos hin]
        simp [Array.getD, hi]
      · rw [if_neg (by omega), dif_neg hin]
  rw [e]
  exact h.go W (Own.start _ W)
theorem zU {k : FuncId} {fn : Func} {c : Code} {args : Array Value} {R : Ending → World → Prop} (hf : P.funcs[k]? = some fn) (hb : fn.body = some c) (hn : fn.ntmps = n) (hle : Nat.ble args.size n = true)
    (h : Ok [] P n W (bodyPost P fn R) c [] (fun t => args.getD t undef)) : Calls P k args W R := pG [] hf hb hn hle h
theorem fin_ret {fn : Func} {R : Ending → World → Prop} {t : Tmp} (v : Value) (hres : fn.results = #[.tmp t]) (hv : ev n f (.tmp t) = v) (hR : ∀ w, Own M W w L → R (.returned v) w) : Fin M n W (bodyPost P fn R) .ret L f := ⟨fun w hO => by
  refine bodyPost_ret (v := v) ?_ rfl (hR w hO)
  rw [results_tmp hres]
  have : (Fr n f).tmps.getD t undef = v := (jZ n f t).trans hv
  rw [this]⟩
theorem ZF {fn : Func} {R : Ending → World → Prop} {t : Tmp} (v : Value) (hres : fn.results = #[.tmp t]) (hR : ∀ w, Own M W w L → R (.returned v) w) (hv : ev n f (.tmp t) = v := by kernel_rfl) : Fin M n W (bodyPost P fn R) .ret L f := fin_ret v hres hv hR
def resAt (P : Program) (n : Nat) (f : Nat → Value) (L : List Blk) : ResultVar → Nat → Option Value
  | .tmp t, _ => some (ev n f (.tmp t))
  | .cell p ty, i =>
    match L[i]?, ev n f (.tmp p) with
    | some x, .pointer (some ⟨b, off, none⟩) => bif Nat.beq b x.b then xQ P ty x.cs off else none
    | _, _ => none
theorem fin_cell {fn : Func} {R : Ending → World → Prop} {p : Tmp} {ty : TypeId} (i : Nat) (x : Blk) {off : Nat} (v : Value) (hres : fn.results = #[.cell p ty]) (hL : L[i]? = some x) (hp : ev n f (.tmp p) = .pointer (some ⟨x.b, off, none⟩)) (hv : xQ P ty x.cs off = some v)
    (hR : ∀ w, Own M W w L → R (.returned v) w) : Fin M n W (bodyPost P fn R) .ret L f := ⟨fun w hO => by
  refine bodyPost_ret (v := v) ?_ rfl (hR w hO)
  have e : (Fr n f).tmps.getD p undef = .pointer (some ⟨x.b, off, none⟩) := (jZ n f p).trans hp
  have hr := yO hv (hO.get hL)
  have e' : (Fr n f).tmps[p]?.getD undef = .pointer (some ⟨x.b, off, none⟩) := by simpa using e
  simp [results, hres, e', asAddr, hr]⟩
theorem ZC {fn : Func} {R : Ending → World → Prop} {p : Tmp} {ty : TypeId} (i : Nat) (x : Blk) {off : Nat} (v : Value) (hres : fn.results = #[.cell p ty]) (hR : ∀ w, Own M W w L → R (.returned v) w) (hL : L[i]? = some x := by kernel_rfl) (hp : ev n f (.tmp p) = .pointer (some ⟨x.b, off, none⟩) := by kernel_rfl) (hv : xQ P ty x.cs off = some v := by kernel_rfl) : Fin M n W (bodyPost P fn R) .ret L f := fin_cell i x v hres hL hp hv hR
theorem fin_cell2 {fn : Func} {R : Ending → World → Prop} {p u : Tmp} {ty : TypeId} (i : Nat) (x : Blk) {off : Nat} (v v' : Value) (hres : fn.results = #[.cell p ty, .tmp u]) (hL : L[i]? = some x) (hp : ev n f (.tmp p) = .pointer (some ⟨x.b, off, none⟩)) (hv : xQ P ty x.cs off = some v) (hv' : ev n f (.tmp u) = v')
    (hR : ∀ w, Own M W w L → R (.returned (.tuple #[v, v'])) w) : Fin M n W (bodyPost P fn R) .ret L f := ⟨fun w hO => by
  refine bodyPost_ret (v := .tuple #[v, v']) ?_ rfl (hR w hO)
  have e : (Fr n f).tmps.getD p undef = .pointer (some ⟨x.b, off, none⟩) := (jZ n f p).trans hp
  have hr := yO hv (hO.get hL)
  have e' : (Fr n f).tmps[p]?.getD undef = .pointer (some ⟨x.b, off, none⟩) := by simpa using e
  have e2 : (Fr n f).tmps.getD u undef = v' := (jZ n f u).trans hv'
  have e2' : (Fr n f).tmps[u]?.getD undef = v' := by simpa using e2
  simp [results, hres, e', e2', asAddr, hr]⟩
theorem ZD {fn : Func} {R : Ending → World → Prop} {p u : Tmp} {ty : TypeId} (i : Nat) (x : Blk) {off : Nat} (v v' : Value) (hres : fn.results = #[.cell p ty, .tmp u]) (hR : ∀ w, Own M W w L → R (.returned (.tuple #[v, v'])) w) (hL : L[i]? = some x := by kernel_rfl) (hp : ev n f (.tmp p) = .pointer (some ⟨x.b, off, none⟩) := by kernel_rfl) (hv : xQ P ty x.cs off = some v := by kernel_rfl) (hv' : ev n f (.tmp u) = v' := by kernel_rfl) : Fin M n W (bodyPost P fn R) .ret L f := fin_cell2 i x v v' hres hL hp hv hv' hR
end
section
variable {M : List Nat} {P : Program} {n : Nat} {ops : Array Oper} {W : World} {Q : Exit → Act → World → Prop} {rest : List Oper} {o : Oper} {L : List Blk} {f : Nat → Value} {Qe : List Blk → (Nat → Value) → Prop}
theorem x8 {p : Prop} [Decidable p] (t : Bool) (hw : xG ops n f o = true) (hr : ∀ w, (execOp (ev n f) o).run P w = .ok (.value (.bool (decide p))) w) (hp : decide p = t) (h : Seg M P n ops W Q rest L (upd f o.dst (.bool t))) : Seg M P n ops W Q (o :: rest) L f := zM (.bool t) hw (fun w => hp ▸ hr w) h
theorem Zd {p : Prop} [Decidable p] (t : Bool) (hp : decide p = t) (h : Seg M P n ops W Q rest L (upd f o.dst (.bool t))) (hw : xG ops n f o = true := by kernel_rfl) (hr : ∀ w, (execOp (ev n f) o).run P w = .ok (.value (.bool (decide p))) w := by intro _; kernel_rfl) : Seg M P n ops W Q (o :: rest) L f := x8 t hw hr hp h
theorem j0 {p : Prop} [Decidable p] (t : Bool) (hw : xG ops n f o = true) (hr : ∀ w, (execOp (ev n f) o).run P w = .ok (.value (.bool (decide p))) w) (hp : decide p = t) (h : qB M P n ops W Qe rest L (upd f o.dst (.bool t))) : qB M P n ops W Qe (o :: rest) L f := yQ (.bool t) hw (fun w => hp ▸ hr w) h
theorem Ze {p : Prop} [Decidable p] (t : Bool) (hp : decide p = t) (h : qB M P n ops W Qe rest L (upd f o.dst (.bool t))) (hw : xG ops n f o = true := by kernel_rfl) (hr : ∀ w, (execOp (ev n f) o).run P w = .ok (.value (.bool (decide p))) w := by intro _; kernel_rfl) : qB M P n ops W Qe (o :: rest) L f := j0 t hw hr hp h
theorem dE {p : Prop} [Decidable p] (t : Bool) (hw : xG ops n f o = true) (hr : ∀ w, (execOp (ev n f) o).run P w = .ok (.value (.bool (!decide p))) w) (hp : decide p = t) (h : Seg M P n ops W Q rest L (upd f o.dst (.bool (!t)))) : Seg M P n ops W Q (o :: rest) L f := zM (.bool (!t)) hw (fun w => hp ▸ hr w) h
theorem Zn {p : Prop} [Decidable p] (t : Bool) (hp : decide p = t) (h : Seg M P n ops W Q rest L (upd f o.dst (.bool (!t)))) (hw : xG ops n f o = true := by kernel_rfl) (hr : ∀ w, (execOp (ev n f) o).run P w = .ok (.value (.bool (!decide p))) w := by intro _; kernel_rfl) : Seg M P n ops W Q (o :: rest) L f := dE t hw hr hp h
theorem q_ndec {p : Prop} [Decidable p] (t : Bool) (hw : xG ops n f o = true) (hr : ∀ w, (execOp (ev n f) o).run P w = .ok (.value (.bool (!decide p))) w) (hp : decide p = t) (h : qB M P n ops W Qe rest L (upd f o.dst (.bool (!t)))) : qB M P n ops W Qe (o :: rest) L f := yQ (.bool (!t)) hw (fun w => hp ▸ hr w) h
theorem s_sum {k : IntKind} (z : Int) (hw : xG ops n f o = true) (hr : ∀ w, (execOp (ev n f) o).run P w = .ok (.value (.int k (k.wrap z))) w) (hz : k.wrap z = z) (h : Seg M P n ops W Q rest L (upd f o.dst (.int k z))) : Seg M P n ops W Q (o :: rest) L f := zM (.int k z) hw (fun w => by rw [hr w, hz]) h
theorem Zu {k : IntKind} (z : Int) (hz : k.wrap z = z) (h : Seg M P n ops W Q rest L (upd f o.dst (.int k z))) (hw : xG ops n f o = true := by kernel_rfl) (hr : ∀ w, (execOp (ev n f) o).run P w = .ok (.value (.int k (k.wrap z))) w := by intro _; kernel_rfl) : Seg M P n ops W Q (o :: rest) L f := s_sum z hw hr hz h
theorem j7 {k : IntKind} (z : Int) (hw : xG ops n f o = true) (hr : ∀ w, (execOp (ev n f) o).run P w = .ok (.value (.int k (k.wrap z))) w) (hz : k.wrap z = z) (h : qB M P n ops W Qe rest L (upd f o.dst (.int k z))) : qB M P n ops W Qe (o :: rest) L f := yQ (.int k z) hw (fun w => by rw [hr w, hz]) h
theorem s_alloc_at {T : TypeId} (z : Value) (hw : xG ops n f o = true) (ho : o.op = .alloc T) (hi : (P.info? T).map (·.zero) = some (some z))
    (h : ∀ b, Seg M P n ops W Q rest (⟨b, z.cells, T⟩ :: L) (upd f o.dst (.pointer (some ⟨b, 0, none⟩)))) : Seg M P n ops W Q (o :: rest) L f := by
  cases hq : P.info? T with
  | none => rw [hq] at hi; cases hi
  | some i => rw [hq] at hi; exact s_alloc z hw ho hq (Option.some.inj hi) h
theorem Za {T : TypeId} (z : Value) (h : ∀ b, Seg M P n ops W Q rest (⟨b, z.cells, T⟩ :: L) (upd f o.dst (.pointer (some ⟨b, 0, none⟩)))) (ho : o.op = .alloc T := by rfl) (hw : xG ops n f o = true := by kernel_rfl) (hi : (P.info? T).map (·.zero) = some (some z) := by kernel_rfl) : Seg M P n ops W Q (o :: rest) L f := s_alloc_at z hw ho hi h
theorem vC (i : Nat) (x : Blk) {T : TypeId} {p q : Operand} {off : Nat} (v : Value) (hw : xG ops n f o = true) (ho : o.op = .store T p q) (hd : o.dst = none) (hL : L[i]? = some x)
    (hp : ev n f p = .pointer (some ⟨x.b, off, none⟩)) (hq : ev n f q = v) (hi : ((P.info? T).map fun t => Nat.beq v.cells.size t.size && Nat.ble (off + t.size) x.cs.size) = some true) (h1 : (v.cells.toList.all fun u => u.oneCell') = true)
    (h : Seg M P n ops W Q rest (L.set i ⟨x.b, xX x.cs off v.cells, x.ty⟩) f) : Seg M P n ops W Q (o :: rest) L f := by
  cases hz : P.info? T with
  | none => rw [hz] at hi; cases hi
  | some t =>
    rw [hz] at hi
    have e : (Nat.beq v.cells.size t.size && Nat.ble (off + t.size) x.cs.size) = true := Option.some.inj hi
    rw [Bool.and_eq_true] at e
    exact s_store i x v hw ho hd hL hp hq hz (Nat.eq_of_beq_eq_true e.1) (Nat.le_of_ble_eq_true e.2) (List.all_eq_true.1 h1) h
theorem Zs (i : Nat) (x : Blk) {T : TypeId} {p q : Operand} {off : Nat} (v : Value) (h : Seg M P n ops W Q rest (L.set i ⟨x.b, xX x.cs off v.cells, x.ty⟩) f) (ho : o.op = .store T p q := by rfl) (hd : o.dst = none := by rfl) (hw : xG ops n f o = true := by kernel_rfl) (hL : L[i]? = some x := by kernel_rfl) (hp : ev n f p = .pointer (some ⟨x.b, off, none⟩) := by kernel_rfl) (hq : ev n f q = v := by kernel_rfl) (hi : ((P.info? T).map fun t => Nat.beq v.cells.size t.size && Nat.ble (off + t.size) x.cs.size) = some true := by kernel_rfl) (h1 : (v.cells.toList.all fun u => u.oneCell') = true := by kernel_rfl) : Seg M P n ops W Q (o :: rest) L f := vC i x v hw ho hd hL hp hq hi h1 h
end
end
section
def backB (md : Region.Mode) (l : List Oper) (i : Nat) : Bool :=
  match l[i]? with
  | some o => o.after.all fun e => !(Region.binds md e) || decide (e.on < i)
  | none => false
def waitB (md : Region.Mode) (l : List Oper) (t i : Nat) : Bool :=
  match l[t]? with
  | some o => o.after.any fun e => Region.binds md e && e.on == i
  | none => false
def inB (l : List Oper) (m i : Nat) : Bool :=
  match l[i]? with
  | some o => match o.guard with | some (g, _) => decide (g < m) | none => true
  | none => false
def preB (md : Region.Mode) (l : List Oper) (m : Nat) : Bool :=
  decide (m ≤ l.length) && (List.range l.length).all (fun i => backB md l i) && (List.range m).all (fun i => inB l m i && (decide (l.length ≤ m) || waitB md l m i)) && (List.range l.length).all fun t => decide (t ≤ m) || waitB md l t (t - 1)
section
variable {P : Program} {md : Region.Mode} {l : List Oper} {m : Nat}
structure m3 (md : Region.Mode) (l : List Oper) (m : Nat) : Prop where
  le : m ≤ l.length
  back : ∀ i o, l[i]? = some o → ∀ e ∈ o.after, Region.binds md e = true → e.on < i
  inn : ∀ i o g b, i < m → l[i]? = some o → o.guard = some (g, b) → g < m
  first : ∀ i o, i < m → l[m]? = some o → ∃ e ∈ o.after, Region.binds md e = true ∧ e.on = i
  chain : ∀ t o, m < t → l[t]? = some o → ∃ e ∈ o.after, Region.binds md e = true ∧ e.on = t - 1
theorem mG {t i : Nat} {o : Oper} (ho : l[t]? = some o) (h : waitB md l t i = true) : ∃ e ∈ o.after, Region.binds md e = true ∧ e.on = i := by
  unfold waitB at h
  rw [ho] at h
  obtain ⟨e, he, hb⟩ := Array.any_eq_true'.1 h
  simp only [Bool.and_eq_true, beq_iff_eq] at hb
  exact ⟨e, he, hb.1, hb.2⟩
theorem preB_ok (h : preB md l m = true) : m3 md l m := by
  unfold preB at h
  simp only [Bool.and_eq_true, decide_eq_true_eq, List.all_eq_true, List.mem_range, Bool.or_eq_true] at h
  obtain ⟨⟨⟨h1, h2⟩, h3⟩, h4⟩ := h
  refine ⟨h1, fun i o ho e he hb => ?_, fun i o g b hi ho hg => ?_, fun i o hi ho => ?_, fun t o ht ho => ?_⟩
  · have hi := (List.getElem?_eq_some_iff.1 ho).1
    have := h2 i hi
    unfold backB at this
    rw [ho] at this
    have := Array.all_eq_true_iff_forall_mem.1 this e he
    rw [hb] at this
    simpa using this
  · have := (h3 i hi).1
    unfold inB at this
    rw [ho] at this
    dsimp only at this
    rw [hg] at this
    simpa using this
  · have hm := (List.getElem?_eq_some_iff.1 ho).1
    rcases (h3 i hi).2 with h | h
    · omega
    · exact mG ho h
  · have hl := (List.getElem?_eq_some_iff.1 ho).1
    rcases h4 t hl with h | h
    · omega
    · exact mG ho h
def Upto (n k : Nat) (listed : Array Bool) : Prop := listed.size = n ∧ ∀ i, i < n → listed[i]? = some (decide (i < k))
theorem Upto.set {n k : Nat} {listed : Array Bool} (h : Upto n k listed) : Upto n (k + 1) (listed.setIfInBounds k true) := by
  refine ⟨by rw [Array.size_setIfInBounds]; exact h.1, fun i hi => ?_⟩
  rw [Array.getElem?_setIfInBounds]
  by_cases e : k = i
  · subst e
    rw [if_pos rfl, if_pos (by rw [h.1]; exact hi)]
    simp
  · rw [if_neg e, h.2 i hi]
    congr 1
    exact decide_eq_decide.2 (by omega)
theorem fK {a : Array Bool} {i : Nat} {b d : Bool} (h : a[i]? = some b) : a.getD i d = b := by rw [Array.getD_eq_getD_getElem?, h]; rfl
theorem dG (hp : m3 md l m) {k : Nat} {listed : Array Bool} (hk : m ≤ k) (h : Upto l.length k listed) : ∀ i, i ∈ Region.ready md l.toArray listed ↔ (i = k ∧ k < l.length) := by
  intro i
  rw [mem_ready]
  constructor
  · rintro ⟨h1, o, ho, h2⟩
    have ho' : l[i]? = some o := by simpa using ho
    have hi := (List.getElem?_eq_some_iff.1 ho').1
    have hki : ¬ i < k := fun hlt => by
      rw [fK (h.2 i hi)] at h1
      simp [hlt] at h1
    refine ⟨?_, by omega⟩
    rcases Nat.lt_or_ge k i with hlt | hge
    · obtain ⟨e, he, hb, hon⟩ := hp.chain i o (by omega) ho'
      have := h2 e he hb
      rw [hon, fK (h.2 (i - 1) (by omega))] at this
      simp at this
      omega
    · omega
  · rintro ⟨rfl, hlt⟩
    refine ⟨by rw [fK (h.2 i hlt)]; simp, l[i], by simp, fun e he hb => ?_⟩
    have := hp.back i l[i] (List.getElem?_eq_getElem hlt) e he hb
    rw [fK (h.2 e.on (by omega))]
    simpa using this
theorem any_tail (hp : m3 md l m) {Q : Exit → Act → World → Prop} : ∀ (d k fuel : Nat) (listed : Array Bool) (a : Act) (w : World), d = l.length - k → m ≤ k → k ≤ l.length → d ≤ fuel → Upto l.length k listed → wpList P l.toArray Q (l.drop k) a w → wpAny P md l.toArray Q fuel listed a w := by
  intro d
  induction d with
  | zero =>
    intro k fuel listed a w hd hk hkl _ hu h
    have hkn : k = l.length := by omega
    have hr : Region.ready md l.toArray listed = [] := by
      apply List.eq_nil_iff_forall_not_mem.2
      intro i hi
      have := (dG hp hk hu i).1 hi
      omega
    have hq : Q .normal a w := by
      rw [hkn, List.drop_length] at h; exact h
    cases fuel with
    | zero => exact ⟨hr, hq⟩
    | succ f => exact ⟨fun _ => hq, fun i hi => by rw [hr] at hi; cases hi⟩
  | succ d ih =>
    intro k fuel listed a w hd hk hkl hf hu h
    have hlt : k < l.length := by omega
    obtain ⟨f, rfl⟩ : ∃ f, fuel = f + 1 := ⟨fuel - 1, by omega⟩
    refine ⟨fun hr => ?_, fun i hi => ?_⟩
    · have := (dG hp hk hu k).2 ⟨rfl, hlt⟩
      rw [hr] at this; cases this
    · obtain ⟨rfl, _⟩ := (dG hp hk hu i).1 hi
      have ho : l.toArray[i]? = some l[i] := by simp
      rw [List.drop_eq_getElem_cons hlt] at h
      have hw : wpOp P l.toArray Q i (wpList P l.toArray Q (l.drop (i + 1))) a w := by unfold wpOp; simp only [ho]; exact h
      exact wpOp_mono (fun a' w' h' => ih (i + 1) f _ a' w' (by omega) (by omega) (by omega) (by omega) hu.set h') hw
structure Part (n m : Nat) (listed' listed : Array Bool) : Prop where
  size' : listed'.size = m
  size : listed.size = n
  same : ∀ i, i < m → listed[i]? = listed'[i]?
  rest : ∀ t, m ≤ t → t < n → listed[t]? = some false
theorem Part.get {n m : Nat} {listed' listed : Array Bool} (h : Part n m listed' listed) {i : Nat} (hi : i < m) : ∃ b, listed'[i]? = some b := ⟨_, Array.getElem?_eq_getElem (by rw [h.size']; exact hi)⟩
theorem Part.set {n m i : Nat} {listed' listed : Array Bool} (h : Part n m listed' listed) (hi : i < m) : Part n m (listed'.setIfInBounds i true) (listed.setIfInBounds i true) := by
  refine ⟨by rw [Array.size_setIfInBounds]; exact h.size', by rw [Array.size_setIfInBounds]; exact h.size, fun j hj => ?_, fun t ht htn => ?_⟩
  · rw [Array.getElem?_setIfInBounds, Array.getElem?_setIfInBounds]
    by_cases e : i = j
    · subst e
      rw [if_pos rfl, if_pos rfl, h.size']
      by_cases hin : i < listed.size
      · rw [if_pos hin, if_pos hi]
      · have h1 := h.same i hi
        rw [Array.getElem?_eq_none (by omega)] at h1
        obtain ⟨b, hb⟩ := h.get hi
        rw [← h1] at hb; cases hb
    · rw [if_neg e, if_neg e]; exact h.same j hj
  · rw [Array.getElem?_setIfInBounds, if_neg (by omega)]; exact h.rest t ht htn
theorem least_false (b : Nat → Bool) : ∀ m, (∃ i, i < m ∧ b i = false) → ∃ k, k < m ∧ b k = false ∧ ∀ j, j < k → b j = true := by
  intro m
  induction m with
  | zero => rintro ⟨i, hi, _⟩; omega
  | succ m ih =>
    rintro ⟨i, hi, hb⟩
    by_cases h : ∃ i, i < m ∧ b i = false
    · obtain ⟨k, h1, h2, h3⟩ := ih h
      exact ⟨k, by omega, h2, h3⟩
    · have : i = m := by
        rcases Nat.lt_or_ge i m with h4 | h4
        · exact absurd ⟨i, h4, hb⟩ h
        · omega
      subst this
      refine ⟨i, by omega, hb, fun j hj => ?_⟩
      cases hj2 : b j with
      | true => rfl
      | false => exact absurd ⟨j, hj, hj2⟩ h
theorem m5 {i : Nat} (hi : i < m) : (l.take m).toArray[i]? = l.toArray[i]? := by simp [List.getElem?_take, hi]
theorem part_in (hp : m3 md l m) {listed' listed : Array Bool} (h : Part l.length m listed' listed) (hun : ∃ i, i < m ∧ listed'.getD i true = false) : ∀ i ∈ Region.ready md l.toArray listed, i < m := by
  intro i hi
  rw [mem_ready] at hi
  obtain ⟨h1, o, ho, h2⟩ := hi
  have ho' : l[i]? = some o := by simpa using ho
  have hil := (List.getElem?_eq_some_iff.1 ho').1
  rcases Nat.lt_trichotomy i m with hlt | rfl | hgt
  · exact hlt
  · obtain ⟨j, hj, hjf⟩ := hun
    obtain ⟨e, he, hb, hon⟩ := hp.first j o hj ho'
    have h3 := h2 e he hb
    obtain ⟨b, hj'⟩ := h.get hj
    rw [hon, Array.getD_eq_getD_getElem?, h.same j hj, hj'] at h3
    rw [Array.getD_eq_getD_getElem?, hj'] at hjf
    simp at h3 hjf
    rw [h3] at hjf; cases hjf
  · obtain ⟨e, he, hb, hon⟩ := hp.chain i o hgt ho'
    have h3 := h2 e he hb
    rw [hon, fK (h.rest (i - 1) (by omega) (by omega))] at h3
    cases h3
theorem dK (hp : m3 md l m) {listed' listed : Array Bool} (h : Part l.length m listed' listed) {i : Nat} (hi : i < m) : i ∈ Region.ready md l.toArray listed ↔ i ∈ Region.ready md (l.take m).toArray listed' := by
  rw [mem_ready, mem_ready, m5 hi]
  have e1 : ∀ j d, j < m → listed.getD j d = listed'.getD j d := fun j d hj => by rw [Array.getD_eq_getD_getElem?, Array.getD_eq_getD_getElem?, h.same j hj]
  rw [e1 i true hi]
  constructor
  · rintro ⟨h1, o, ho, h2⟩
    have ho' : l[i]? = some o := by simpa using ho
    exact ⟨h1, o, ho, fun e he hb => by have := hp.back i o ho' e he hb; rw [← e1 _ _ (by omega)]; exact h2 e he hb⟩
  · rintro ⟨h1, o, ho, h2⟩
    have ho' : l[i]? = some o := by simpa using ho
    exact ⟨h1, o, ho, fun e he hb => by have := hp.back i o ho' e he hb; rw [e1 _ _ (by omega)]; exact h2 e he hb⟩
theorem want_take (hp : m3 md l m) {i : Nat} (hi : i < m) {o : Oper} (ho : l[i]? = some o) (tmps : Array Value) : Region.wanted o (yielded (l.take m).toArray tmps) = Region.wanted o (yielded l.toArray tmps) := by
  unfold Region.wanted
  cases hg : o.guard with
  | none => rfl
  | some x =>
    obtain ⟨g, b⟩ := x
    have := hp.inn i o g b hi ho hg
    dsimp only
    unfold yielded
    rw [m5 this]
theorem qOp_take (hp : m3 md l m) {C : World → Prop} {i : Nat} (hi : i < m) {K : Act → Prop} {a : Act} (h : qOp P (l.take m).toArray C i K a) : qOp P l.toArray C i K a := by
  unfold qOp at h ⊢
  rw [m5 hi] at h
  cases ho : l.toArray[i]? with
  | none => rw [ho] at h; exact h
  | some o =>
    rw [ho] at h
    have ho' : l[i]? = some o := by simpa using ho
    dsimp only at h ⊢
    rw [want_take hp hi ho'] at h
    exact h
theorem any_pre (hp : m3 md l m) {C : World → Prop} {Q : Exit → Act → World → Prop} {Qq : Act → Prop} {g : Nat} (H : ∀ (fuel : Nat) (listed : Array Bool) (a : Act) (w : World), g ≤ fuel → Upto l.length m listed → C w → Qq a → wpAny P md l.toArray Q fuel listed a w) :
    ∀ (fuel : Nat) (listed' listed : Array Bool) (a : Act) (w : World), Part l.length m listed' listed → C w → wpAnyQ P md (l.take m).toArray C Qq fuel listed' a → wpAny P md l.toArray Q (fuel + g) listed a w := by
  have full : ∀ (listed' listed : Array Bool), Part l.length m listed' listed → (¬ ∃ i, i < m ∧ listed'.getD i true = false) → Upto l.length m listed := by
    intro listed' listed h hno
    refine ⟨h.size, fun i hi => ?_⟩
    by_cases him : i < m
    · rw [h.same i him, decide_eq_true him]
      obtain ⟨b, e⟩ := h.get him
      rw [e]
      cases b with
      | true => rfl
      | false => exact absurd ⟨i, him, by rw [Array.getD_eq_getD_getElem?, e]; rfl⟩ hno
    · rw [decide_eq_false him]; exact h.rest i (by omega) hi
  have some_ready : ∀ (listed' listed : Array Bool), Part l.length m listed' listed → (∃ i, i < m ∧ listed'.getD i true = false) → ∃ k, k < m ∧ k ∈ Region.ready md l.toArray listed := by
    intro listed' listed h hun
    obtain ⟨k, hk, hf, hall⟩ := least_false (fun i => listed'.getD i true) m hun
    refine ⟨k, hk, (dK hp h hk).2 (mem_ready.2 ⟨hf, l[k]'(by have := hp.le; omega), ?_, fun e he hb => ?_⟩)⟩
    · rw [m5 hk]; simp
    · have := hp.back k _ (List.getElem?_eq_getElem (by have := hp.le; omega)) e he hb
      have h2 := hall e.on this
      obtain ⟨b, e2⟩ := h.get (i := e.on) (by omega)
      rw [Array.getD_eq_getD_getElem?, e2] at h2 ⊢
      simpa using h2
  intro fuel
  induction fuel with
  | zero =>
    intro listed' listed a w h hw hq
    have hno : ¬ ∃ i, i < m ∧ listed'.getD i true = false := fun hun => by
      obtain ⟨k, hk, hr⟩ := some_ready _ _ h hun
      have := (dK hp h hk).1 hr
      rw [hq.1] at this; cases this
    exact H _ listed a w (by omega) (full _ _ h hno) hw hq.2
  | succ f ih =>
    intro listed' listed a w h hw hq
    by_cases hun : ∃ i, i < m ∧ listed'.getD i true = false
    · rw [show f + 1 + g = (f + g) + 1 from by omega]
      refine ⟨fun hr => ?_, fun i hi => ?_⟩
      · obtain ⟨k, hk, hr2⟩ := some_ready _ _ h hun
        rw [hr] at hr2; cases hr2
      · have him := part_in hp h hun i hi
        have h1 := hq.2 i ((dK hp h him).1 hi)
        exact wpOp_of_qOp hw (fun a' w' hw' hk => ih _ _ a' w' (h.set him) hw' hk) (qOp_take hp him h1)
    · have hr : Region.ready md (l.take m).toArray listed' = [] := by
        apply List.eq_nil_iff_forall_not_mem.2
        intro i hi
        have h1 := (mem_ready.1 hi).1
        obtain ⟨_, o, ho, _⟩ := mem_ready.1 hi
        have : i < m := by
          have := (Array.getElem?_eq_some_iff.1 ho).1
          simp at this; omega
        exact hun ⟨i, this, h1⟩
      exact H _ listed a w (by omega) (full _ _ h hun) hw (hq.1 hr)
end
section
variable {M : List Nat} {P : Program} {n : Nat} {W : World} {Q : Exit → Act → World → Prop} {L : List Blk} {f : Nat → Value}
theorem mZ {id : Nat} {l : List Oper} (m : Nat) (hm : P.follows .mixedOrders = true) (hB : Region.lexB .any (l.take m).toArray = true) (hP : preB .any l m = true)
    (h : qB M P n (l.take m).toArray W (fun L f => Seg M P n l.toArray W Q (l.drop m) L f) (l.take m) L f) : Ok M P n W Q (.region id l.toArray true) L f := ⟨fun w hO => by
  have hp := preB_ok hP
  simp only [Region.lexB, Bool.and_eq_true] at hB
  have hle : (l.take m).length = m := by rw [List.length_take]; have := hp.le; omega
  have hq := wpAnyQ_lex (md := .any) (C := fun w => Own M W w L) hB.1 (l.take m) 0 (Array.replicate (l.take m).toArray.size false) (Fr n f) (by simp) (by simpa using hB.2) h.go
  refine wp_region_any hm ?_
  have hres := any_pre (P := P) (md := .any) hp (C := fun w => Own M W w L) (Q := Q) (g := l.length - m) (fun fuel listed a w hf hu hw ⟨f', ha, hs⟩ => by
    subst ha
    exact any_tail hp (l.length - m) m fuel listed _ w rfl (Nat.le_refl _) hp.le hf hu (hs.go w hw)) (l.take m).length (Array.replicate (l.take m).toArray.size false) (Array.replicate l.toArray.size false) (Fr n f) { w with drawn := w.drawn + 1 }
    ⟨by simp [hp.le], by simp, fun i hi => by
      have := hp.le
      rw [Array.getElem?_replicate, Array.getElem?_replicate, if_pos (by simp; omega), if_pos (by simp; omega)], fun t _ ht => by rw [Array.getElem?_replicate, if_pos (by simpa using ht)]⟩ hO.drew hq
  rw [hle, show m + (l.length - m) = l.toArray.size from by have := hp.le; simp; omega] at hres
  exact hres⟩
end
theorem xK {P : Program} {ρ : Operand → Value} {o : Oper} {t e : TypeId} {x ix : Operand} {b off off' n sz : Nat} {k : IntKind} {j : Int} (ho : o.op = .indexAddr t x ix) (hx : ρ x = .pointer (some ⟨b, off, none⟩)) (hi : ρ ix = .int k j)
    (hu : P.underlying t = some (.array n e)) (hs : (P.info? e).map (·.size) = some sz) (h0 : 0 ≤ j) (h1 : j < n) (hoff : off + j.toNat * sz = off') (w : World) : (execOp ρ o).run P w = .ok (.value (.pointer (some ⟨b, off', none⟩))) w := by
  subst hoff
  cases he : P.info? e with
  | none => rw [he] at hs; cases hs
  | some i =>
    rw [he] at hs
    obtain rfl := Option.some.inj hs
    unfold execOp
    simp [ho, hx, hi, Instr.indexAt, Sem.run_bind, asIntOf, run_underlying hu, Instr.sureAddr, h0, h1, sizeOf, typeInfo, he, y5]
theorem hZ {P : Program} {k : FuncId} {args : Array Value} {w : World} {a b : Bool} (h : a = b) (hc : Calls P k args w fun e w' => e = .returned (.bool a) ∧ Below w.heap.size w w') : Calls P k args w fun e w' => e = .returned (.bool b) ∧ Below w.heap.size w w' := by subst h; exact hc
end
section
theorem Own.sub {M : List Nat} {W w : World} {L0 : List Blk} : ∀ (E : List Blk), Own M W w (E ++ L0) → Own M W w L0
  | [], h => h
  | e :: E, h => Own.sub E ⟨h.os, h.tape, h.output, h.size, h.drawn, h.kept, fun x hx => h.held x (List.mem_cons_of_mem _ hx), fun x hx => h.base x (List.mem_cons_of_mem _ hx), by
      have := h.apart
      rw [List.cons_append, List.map_cons, List.nodup_cons] at this
      exact this.2⟩
section
variable {M : List Nat} {P : Program} {n : Nat} {ops : Array Oper} {W : World} {Q : Exit → Act → World → Prop} {L0 L : List Blk} {f : Nat → Value} {fuel : Nat} {listed : Array Bool}
def PQ (Q : Exit → Act → World → Prop) : Prop := ∀ c (a : Act) d v w, Q (.panic c) (a.put d v) w → Q (.panic c) a w
theorem zA {K : Act → World → Prop} (h : PQ Q) : PQ (Exit.then K Q) := fun c a d v w h2 => h c a d v w h2
theorem zE {id : Nat} (h : PQ Q) : PQ (Exit.inBlock id Q) := fun c a d v w h2 => h c a d v w h2
theorem zR {Inv : List Blk → (Nat → Value) → Nat → Prop} {m : Nat} (h : PQ Q) : PQ (Round M n W Inv m Q) := fun c a d v w h2 => h c a d v w h2
theorem zB {fn : Func} {R : Ending → World → Prop} : PQ (bodyPost P fn R) := fun c a d v w h2 => by cases d <;> exact h2
structure qM (M : List Nat) (P : Program) (n : Nat) (ops : Array Oper) (W : World) (L0 : List Blk) (Q : Exit → Act → World → Prop) (fuel : Nat) (listed : Array Bool) (L : List Blk) (f : Nat → Value) : Prop where
  go : ∀ w, Own M W w L → wpAnyH P .any ops Q (fun w => Own M W w L0) fuel listed (Fr n f) w
structure j1 (M : List Nat) (P : Program) (n : Nat) (ops : Array Oper) (W : World) (L0 : List Blk) (Q : Exit → Act → World → Prop) (fuel : Nat) (listed : Array Bool) (i : Nat) (L : List Blk) (f : Nat → Value) : Prop where
  go : ∀ w, Own M W w L → wpOp P ops Q i (fun a' w' => Own M W w' L0 ∧ wpAnyH P .any ops Q (fun w => Own M W w L0) fuel (listed.setIfInBounds i true) a' w') (Fr n f) w
theorem m7 {id : Nat} {l : List Oper} (hm : P.follows .mixedOrders = true) (h : qM M P n l.toArray W L Q l.length (Array.replicate l.length false) L f) : Ok M P n W Q (.region id l.toArray true) L f := ⟨fun w hO => by
  have := wp_region_held (id := id) (S := fun w => Own M W w L) hm (ops := l.toArray) (Q := Q) (a := Fr n f) (w := w) (by simpa using h.go _ hO.drew)
  exact this⟩
theorem xR (hr : Region.ready .any ops listed = []) (h : Fin M n W Q .normal L f) : qM M P n ops W L0 Q fuel listed L f := ⟨fun w hO => wpAnyH_done hr (h.go w hO) fuel⟩
theorem gU (i : Nat) (E : List Blk) (oi : Oper) (v : Value) (hi : ops[i]? = some oi) (hs : Region.noSelect ops = true) (hf : Region.free .any ops listed i = true) (hr : (Region.ready .any ops listed).contains i = true)
    (hQ : PQ Q) (hw : xG ops n f oi = true) (hv : ∀ w, Own M W w L0 → (execOp (ev n f) oi).run P w = .ok (.value v) w)
    (h : qM M P n ops W L0 Q fuel (listed.setIfInBounds i true) (E ++ L0) (upd f oi.dst v)) : qM M P n ops W L0 Q (fuel + 1) listed (E ++ L0) f := ⟨fun w hO => by
  refine wpAnyH_take hi hs hf hr (fun c a w h => hQ c a _ _ w h) (Or.inl ⟨by rw [jF]; exact hw, fun w hw' => by rw [vL]; exact hv w hw'⟩) (hO.sub E) ?_
  rw [jQ]
  exact h.go w hO⟩
theorem ZT (i : Nat) (E : List Blk) (oi : Oper) (v : Value) (hQ : PQ Q) (hi : ops[i]? = some oi) (h : qM M P n ops W L0 Q fuel (listed.setIfInBounds i true) (E ++ L0) (upd f oi.dst v)) (hs : Region.noSelect ops = true := by kernel_rfl) (hf : Region.free .any ops listed i = true := by kernel_rfl) (hr : (Region.ready .any ops listed).contains i = true := by kernel_rfl) (hw : xG ops n f oi = true := by kernel_rfl) (hv : ∀ w, Own M W w L0 → (execOp (ev n f) oi).run P w = .ok (.value v) w := by intro _ _; kernel_rfl) : qM M P n ops W L0 Q (fuel + 1) listed (E ++ L0) f := gU i E oi v hi hs hf hr hQ hw hv h
theorem h_load (i : Nat) (E : List Blk) (oi : Oper) (k : Nat) (x : Blk) {ty : TypeId} {p : Operand} {off : Nat} (v : Value) (hi : ops[i]? = some oi) (hs : Region.noSelect ops = true) (hf : Region.free .any ops listed i = true) (hr : (Region.ready .any ops listed).contains i = true)
    (hQ : PQ Q) (hw : xG ops n f oi = true) (ho : oi.op = .load ty p) (hL : L0[k]? = some x) (hp : ev n f p = .pointer (some ⟨x.b, off, none⟩)) (hv : xQ P ty x.cs off = some v)
    (h : qM M P n ops W L0 Q fuel (listed.setIfInBounds i true) (E ++ L0) (upd f oi.dst v)) : qM M P n ops W L0 Q (fuel + 1) listed (E ++ L0) f :=
  gU i E oi v hi hs hf hr hQ hw (fun _ hO => yF ho hp (yO hv (hO.get hL))) h
theorem ZL (i : Nat) (E : List Blk) (oi : Oper) (k : Nat) (x : Blk) {ty : TypeId} {p : Operand} {off : Nat} (v : Value) (hQ : PQ Q) (hi : ops[i]? = some oi) (ho : oi.op = .load ty p) (h : qM M P n ops W L0 Q fuel (listed.setIfInBounds i true) (E ++ L0) (upd f oi.dst v)) (hs : Region.noSelect ops = true := by kernel_rfl) (hf : Region.free .any ops listed i = true := by kernel_rfl) (hr : (Region.ready .any ops listed).contains i = true := by kernel_rfl) (hw : xG ops n f oi = true := by kernel_rfl) (hL : L0[k]? = some x := by kernel_rfl) (hp : ev n f p = .pointer (some ⟨x.b, off, none⟩) := by kernel_rfl) (hv : xQ P ty x.cs off = some v := by kernel_rfl) : qM M P n ops W L0 Q (fuel + 1) listed (E ++ L0) f := h_load i E oi k x v hi hs hf hr hQ hw ho hL hp hv h
theorem yK (i : Nat) (hr : Region.ready .any ops listed = [i]) (h : j1 M P n ops W L0 Q fuel listed i L f) : qM M P n ops W L0 Q (fuel + 1) listed L f := ⟨fun w hO =>
  wpAnyH_all hr (by simp) fun j hj => by
    obtain rfl : j = i := by simpa using hj
    exact h.go w hO⟩
theorem d5 (i j : Nat) (hr : Region.ready .any ops listed = [i, j]) (h : j1 M P n ops W L0 Q fuel listed i L f) (h' : j1 M P n ops W L0 Q fuel listed j L f) : qM M P n ops W L0 Q (fuel + 1) listed L f := ⟨fun w hO =>
  wpAnyH_all hr (by simp) fun k hk => by
    rcases List.mem_cons.1 hk with rfl | hk
    · exact h.go w hO
    · obtain rfl : k = j := by simpa using hk
      exact h'.go w hO⟩
theorem wN {i : Nat} {oi : Oper} (hi : ops[i]? = some oi) (hw : xG ops n f oi = true) (h : ∀ w, Own M W w L → oi.wp P (Fr n f) w (fun a' w' => Own M W w' L0 ∧ wpAnyH P .any ops Q (fun w => Own M W w L0) fuel (listed.setIfInBounds i true) a' w') Q) : j1 M P n ops W L0 Q fuel listed i L f := ⟨fun w hO => by
  unfold wpOp
  simp only [hi]
  rw [jF, hw, if_pos rfl]
  exact .inl (h w hO)⟩
theorem gO {i : Nat} (E : List Blk) (oi : Oper) (v : Value) (hi : ops[i]? = some oi) (hw : xG ops n f oi = true) (hv : ∀ w, Own M W w (E ++ L0) → (execOp (ev n f) oi).run P w = .ok (.value v) w)
    (h : qM M P n ops W L0 Q fuel (listed.setIfInBounds i true) (E ++ L0) (upd f oi.dst v)) : j1 M P n ops W L0 Q fuel listed i (E ++ L0) f :=
  wN hi hw fun w hO => v7 v (hv w hO) ⟨hO.sub E, h.go w hO⟩
theorem qZ {i : Nat} (E : List Blk) (oi : Oper) {k : FuncId} {args : Array Value} (v : Value) (hi : ops[i]? = some oi) (hw : xG ops n f oi = true) (he : ∀ w, (execOp (ev n f) oi).run P w = .ok (.enter k args) w)
    (hc : ∀ w, Own M W w (E ++ L0) → Calls P k args w fun e w' => e = .returned v ∧ Below w.heap.size w w') (h : qM M P n ops W L0 Q fuel (listed.setIfInBounds i true) (E ++ L0) (upd f oi.dst v)) : j1 M P n ops W L0 Q fuel listed i (E ++ L0) f :=
  wN hi hw fun w hO => dO (he w) ((hc w hO).mono fun e w' ⟨e1, e2⟩ => ⟨v, e1, (hO.on e2).sub E, h.go w' (hO.on e2)⟩)
theorem hs_alloc {i : Nat} (E : List Blk) (oi : Oper) {T : TypeId} (z : Value) (hi : ops[i]? = some oi) (hw : xG ops n f oi = true) (ho : oi.op = .alloc T) (hz : (P.info? T).map (·.zero) = some (some z))
    (h : ∀ b, qM M P n ops W L0 Q fuel (listed.setIfInBounds i true) ((⟨b, z.cells, T⟩ :: E) ++ L0) (upd f oi.dst (.pointer (some ⟨b, 0, none⟩)))) : j1 M P n ops W L0 Q fuel listed i (E ++ L0) f :=
  wN hi hw fun w hO => by
    cases hq : P.info? T with
    | none => rw [hq] at hz; cases hz
    | some t =>
      rw [hq] at hz
      have hz' : t.zero = some z := Option.some.inj hz
      have hO' := hO.alloc z.cells T
      refine v7 (.pointer (some ⟨w.heap.size, 0, none⟩)) (w' := w.alloc (.cells z.cells T)) ?_ ⟨Own.sub (⟨w.heap.size, z.cells, T⟩ :: E) hO', (h w.heap.size).go _ hO'⟩
      unfold execOp
      simp [ho, Instr.alloc, zeroValue, typeInfo, hq, hz', newVar, newRow, Sem.run_bind]
theorem hs_store {i : Nat} (E : List Blk) (oi : Oper) (k : Nat) (x : Blk) {T : TypeId} {p q : Operand} {off : Nat} (v : Value) (hi' : ops[i]? = some oi) (hw : xG ops n f oi = true) (ho : oi.op = .store T p q) (hd : oi.dst = none) (hL : E[k]? = some x)
    (hp : ev n f p = .pointer (some ⟨x.b, off, none⟩)) (hq : ev n f q = v) (hi : ((P.info? T).map fun t => Nat.beq v.cells.size t.size && Nat.ble (off + t.size) x.cs.size) = some true) (h1 : (v.cells.toList.all fun u => u.oneCell') = true)
    (h : qM M P n ops W L0 Q fuel (listed.setIfInBounds i true) (E.set k ⟨x.b, xX x.cs off v.cells, x.ty⟩ ++ L0) f) : j1 M P n ops W L0 Q fuel listed i (E ++ L0) f :=
  wN hi' hw fun w hO => by
    have hkE := (List.getElem?_eq_some_iff.1 hL).1
    have hL' : (E ++ L0)[k]? = some x := by rw [List.getElem?_append_left hkE]; exact hL
    have hset : (E ++ L0).set k ⟨x.b, xX x.cs off v.cells, x.ty⟩ = E.set k ⟨x.b, xX x.cs off v.cells, x.ty⟩ ++ L0 := List.set_append_left _ _ hkE
    cases hz : P.info? T with
    | none => rw [hz] at hi; cases hi
    | some t =>
      rw [hz] at hi
      have e : (Nat.beq v.cells.size t.size && Nat.ble (off + t.size) x.cs.size) = true := Option.some.inj hi
      rw [Bool.and_eq_true] at e
      have hs := Nat.eq_of_beq_eq_true e.1
      have hle := Nat.le_of_ble_eq_true e.2
      have hst := run_storeCells_at (P := P) x.b off x.ty v.cells.toList 0 x.cs w (hO.get hL') (by simp; omega) (List.all_eq_true.1 h1)
      have hO' := hO.put hL' (xX x.cs off v.cells)
      rw [hset] at hO'
      unfold Oper.wp
      rw [vL]
      have hr : (execOp (ev n f) oi).run P w = .ok .skip (w.setRow x.b (xX x.cs off v.cells)) := by
        unfold execOp
        simp only [ho, hp, hq, Instr.storeAt, Instr.sureAddr, Sem.run_bind, Sem.run_pure, Result.andThen_ok, storeVar, sizeOf, typeInfo, hz, hs, run_program]
        simp only [ne_eq, not_true_eq_false, if_false]
        have : (storeCells ⟨x.b, off, none⟩ v.cells.toList).run P w = .ok () (w.setRow x.b (xX x.cs off v.cells)) := by
          rw [hst]; unfold xX; simp
        simp [this]
      rw [hr]
      show Own M W _ L0 ∧ wpAnyH P .any ops Q (fun w => Own M W w L0) fuel (listed.setIfInBounds i true) ((Fr n f).put oi.dst undef) _
      rw [jQ, hd]
      exact ⟨Own.sub _ hO', h.go _ hO'⟩
theorem ZS {i : Nat} (E : List Blk) (oi : Oper) (k : Nat) (x : Blk) {T : TypeId} {p q : Operand} {off : Nat} (v : Value) (hi' : ops[i]? = some oi) (ho : oi.op = .store T p q) (h : qM M P n ops W L0 Q fuel (listed.setIfInBounds i true) (E.set k ⟨x.b, xX x.cs off v.cells, x.ty⟩ ++ L0) f) (hw : xG ops n f oi = true := by kernel_rfl) (hd : oi.dst = none := by rfl) (hL : E[k]? = some x := by kernel_rfl) (hp : ev n f p = .pointer (some ⟨x.b, off, none⟩) := by kernel_rfl) (hq : ev n f q = v := by kernel_rfl) (hi : ((P.info? T).map fun t => Nat.beq v.cells.size t.size && Nat.ble (off + t.size) x.cs.size) = some true := by kernel_rfl) (h1 : (v.cells.toList.all fun u => u.oneCell') = true := by kernel_rfl) : j1 M P n ops W L0 Q fuel listed i (E ++ L0) f := hs_store E oi k x v hi' hw ho hd hL hp hq hi h1 h
end
end
section
def Sl (T : TypeId) (sz : Nat) (v : Value) (n : Nat) (xs : List Value) (ob : List Blk) : Prop :=
  xs.length = n * sz ∧ ((v = .slice none 0 0 ∧ n = 0 ∧ ob = []) ∨
    ∃ g cap cur, v = .slice (some ⟨g, 0, none⟩) n cap ∧ ob = [⟨g, cur, T⟩] ∧ n ≤ cap ∧ cap ≤ maxLen ∧ cur.size = cap * sz ∧ cur.toList.take (n * sz) = xs)
theorem Sl.nil (T : TypeId) (sz : Nat) : Sl T sz (.slice none 0 0) 0 [] [] := ⟨by simp, .inl ⟨rfl, rfl, rfl⟩⟩
theorem Own.take {M : List Nat} {W w : World} {L L' : List Blk} (h : Own M W w L) (hs : ∀ x ∈ L', x ∈ L) (hn : (L'.map Blk.b).Nodup) : Own M W w L' :=
  ⟨h.os, h.tape, h.output, h.size, h.drawn, h.kept, fun x hx => h.held x (hs x hx), fun x hx => h.base x (hs x hx), hn⟩
theorem Own.move {M : List Nat} {W w : World} {E ob L0 : List Blk} {x : Blk} (h : Own M W w (x :: (E ++ ob ++ L0))) : Own M W w (E ++ [x] ++ L0) := by
  refine h.take (fun y hy => ?_) ?_
  · simp only [List.mem_append, List.mem_cons, List.not_mem_nil, or_false] at hy ⊢
    rcases hy with (hy | hy) | hy
    · exact .inr (.inl (.inl hy))
    · exact .inl hy
    · exact .inr (.inr hy)
  · have h1 := h.apart
    have h2 : ((x :: (E ++ L0)).map Blk.b).Nodup := by
      refine h1.sublist (List.Sublist.map _ (List.Sublist.cons_cons _ ?_))
      rw [List.append_assoc]
      exact List.Sublist.append (List.Sublist.refl E) (List.sublist_append_right ob L0)
    have hp : (E ++ [x] ++ L0).Perm (x :: (E ++ L0)) := by
      rw [List.append_assoc]; exact List.perm_middle
    exact (hp.map Blk.b).nodup_iff.2 h2
theorem drew_own {M : List Nat} {W w : World} {L : List Blk} (h : Own M W w L) : Own M W w.drew L := h.drew
section
variable {M : List Nat} {P : Program} {W w : World} {E ob L0 : List Blk}
theorem mY {t ty T : TypeId} {i : TypeInfo} {z : Value} {sz : Nat} (ht : P.underlying t = some (.slice T)) (hi : P.info? T = some i) (hz : i.zero = some z) (hsz : i.size = sz) (hzs : z.cells.size = sz)
    {v : Value} {n : Nat} {xs : List Value} (hv : Sl T sz v n xs ob) (hO : Own M W w (E ++ ob ++ L0))
    {a : Addr} {m c : Nat} {news : List Value} (hl : news.length = m * sz) (hnews : ∀ j u, news[j]? = some u → w.cell? (a.add j) = some u) (h1 : ∀ u ∈ news, u.oneCell' = true)
    (h63 : n + m ≤ maxLen) (hbytes : (n + m) * i.bytes ≤ 140737488355328) :
    ∃ v' w' ob', (Builtin.append_ #[t, t] ty #[v, .slice (some a) m c]).run P w = .ok v' w' ∧ Sl T sz v' (n + m) (xs ++ news) ob' ∧ Own M W w' (E ++ ob' ++ L0) := by
  subst hsz
  have hsmall : n + m ≤ 9223372036854775807 := by simp only [maxLen] at h63; omega
  have hlen : (xs ++ news).length = (n + m) * i.size := by rw [List.length_append, hv.1, hl, Nat.add_mul]
  rcases hv.2 with ⟨rfl, rfl, rfl⟩ | ⟨g, cap, cur, rfl, rfl, hnc, hcm, hcs, htake⟩
  · have hx : xs = [] := List.eq_nil_of_length_eq_zero (by simpa using hv.1)
    subst hx
    by_cases hm : m = 0
    · subst hm
      have hn : news = [] := List.eq_nil_of_length_eq_zero (by simpa using hl)
      subst hn
      refine ⟨.slice none 0 0, w, [], ?_, Sl.nil T i.size, hO⟩
      simp [Builtin.append_, run_underlying ht, sizeOf, typeInfo, hi, Builtin.lenOf, Builtin.firstCells, loadCells, loadCellsFrom]
    · have hr := run_append_nil (P := P) w t ty T i z ht hi hz a m c news hl hnews (by omega) (by omega) (by have hb := hbytes; simp only [Nat.zero_add] at hb; omega)
      have hge := grownCap_ge w m 0 T
      have hcm := grownCap_le_maxLen w m 0 T (by simpa using h63)
      refine ⟨_, _, [⟨w.heap.size, news.toArray ++ Builtin.zeroCells z.cells (grownCap w m 0 T - m), T⟩], hr, ⟨by simpa using hlen, .inr ⟨w.heap.size, _, _, by simp, rfl, by simpa using hge, hcm, ?_, ?_⟩⟩, ?_⟩
      · simp only [Array.size_append, List.size_toArray, size_zeroCells, hzs, hl, ← Nat.add_mul]
        congr 1
        omega
      · simp only [Array.toList_append, Nat.zero_add, List.nil_append]
        rw [← hl]
        exact List.take_left
      · have := (drew_own hO).alloc (news.toArray ++ Builtin.zeroCells z.cells (grownCap w m 0 T - m)) T
        exact Own.move (ob := []) this
  · by_cases hroom : n + m ≤ cap
    · have hfit : n * i.size + news.length ≤ cur.size := by rw [hl, hcs, ← Nat.add_mul]; exact Nat.mul_le_mul_right _ hroom
      have hk : (E ++ [Blk.mk g cur T] ++ L0)[E.length]? = some ⟨g, cur, T⟩ := by simp
      have hg := hO.get hk
      have hr := run_append_room (P := P) w t ty T i ht hi g n cap cur hg a m c news hl hnews h1 hroom hfit
      refine ⟨_, _, [⟨g, (cur.toList.take (n * i.size) ++ news ++ cur.toList.drop (n * i.size + news.length)).toArray, T⟩], hr, ⟨hlen, .inr ⟨g, cap, _, rfl, rfl, hroom, hcm, ?_, ?_⟩⟩, ?_⟩
      · simp only [List.size_toArray, List.length_append, List.length_take, List.length_drop, Array.length_toList]
        omega
      · rw [htake, ← hlen]
        exact List.take_left
      · have := hO.put hk (cur.toList.take (n * i.size) ++ news ++ cur.toList.drop (n * i.size + news.length)).toArray
        have e : (E ++ [Blk.mk g cur T] ++ L0).set E.length ⟨g, (cur.toList.take (n * i.size) ++ news ++ cur.toList.drop (n * i.size + news.length)).toArray, T⟩ = E ++ [⟨g, (cur.toList.take (n * i.size) ++ news ++ cur.toList.drop (n * i.size + news.length)).toArray, T⟩] ++ L0 := by simp
        rw [e] at this; exact this
    · have hk : (E ++ [Blk.mk g cur T] ++ L0)[E.length]? = some ⟨g, cur, T⟩ := by simp
      have hg := hO.get hk
      have holds : ∀ j u, xs[j]? = some u → w.cell? ((⟨g, 0, none⟩ : Addr).add j) = some u := fun j u hj => by
        rw [y5, cell_of_row w g (0 + j) cur T _ hg]
        rw [← htake, List.getElem?_take] at hj
        split at hj
        · simpa using hj
        · cases hj
      have hr := run_append_grow (P := P) w t ty T i z ht hi hz ⟨g, 0, none⟩ n cap xs hv.1 holds a m c news hl hnews (by omega) (by omega) (growslice_fits (by omega) hbytes)
      have hge := grownCap_ge w (n + m) cap T
      have hcm := grownCap_le_maxLen w (n + m) cap T h63
      refine ⟨_, _, [⟨w.heap.size, xs.toArray ++ news.toArray ++ Builtin.zeroCells z.cells (grownCap w (n + m) cap T - (n + m)), T⟩], hr, ⟨hlen, .inr ⟨w.heap.size, _, _, rfl, rfl, hge, hcm, ?_, ?_⟩⟩, ?_⟩
      · simp only [Array.size_append, List.size_toArray, size_zeroCells, hzs, hv.1, hl, ← Nat.add_mul]
        congr 1
        omega
      · simp only [Array.toList_append, List.append_assoc]
        rw [← List.append_assoc, ← hlen]
        exact List.take_left
      · exact Own.move ((drew_own hO).alloc (xs.toArray ++ news.toArray ++ Builtin.zeroCells z.cells (grownCap w (n + m) cap T - (n + m))) T)
end
section
variable {M : List Nat} {P : Program} {n0 : Nat} {ops : Array Oper} {W : World} {Q : Exit → Act → World → Prop} {rest : List Oper} {o : Oper} {E ob L0 : List Blk} {f : Nat → Value}
theorem x0 {t T : TypeId} {s x : Operand} {i : TypeInfo} {z : Value} {sz : Nat} (hw : xG ops n0 f o = true) (ho : o.op = .call { callee := .builtin .append, args := #[s, x], argTypes := #[t, t] })
    (ht : P.underlying t = some (.slice T)) (hi : P.info? T = some i) (hz : i.zero = some z) (hsz : i.size = sz) (hzs : z.cells.size = sz)
    {v : Value} {n : Nat} {xs : List Value} (hs : ev n0 f s = v) (hv : Sl T sz v n xs ob) {a : Addr} {m c : Nat} {news : List Value} (hx : ev n0 f x = .slice (some a) m c)
    (hl : news.length = m * sz) (hnews : ∀ w, Own M W w (E ++ ob ++ L0) → ∀ j u, news[j]? = some u → w.cell? (a.add j) = some u) (h1 : ∀ u ∈ news, u.oneCell' = true)
    (h63 : n + m ≤ maxLen) (hbytes : (n + m) * i.bytes ≤ 140737488355328)
    (h : ∀ v' ob', Sl T sz v' (n + m) (xs ++ news) ob' → Seg M P n0 ops W Q rest (E ++ ob' ++ L0) (upd f o.dst v')) : Seg M P n0 ops W Q (o :: rest) (E ++ ob ++ L0) f :=
  vY hw fun w hO => by
    obtain ⟨v', w', ob', hr, h2, h3⟩ := mY (P := P) (ty := o.type) (c := c) ht hi hz hsz hzs hv hO hl (hnews w hO) h1 h63 hbytes
    refine v7 v' (w' := w') ?_ ((h v' ob' h2).go w' h3)
    unfold execOp
    simp only [ho, resolve, invoke, builtin, Sem.run_bind, Sem.run_pure, Result.andThen_ok, List.map_toArray, List.map_cons, List.map_nil, hs, hx, hr]
theorem g0 {L : List Blk} {t : TypeId} {len : Nat} {parts : Array (Nat × Operand)} (T : TypeId) (cs : Array Value) (hw : xG ops n0 f o = true) (ho : o.op = .buildSlice t len parts)
    (hr : ∀ w, (execOp (ev n0 f) o).run P w = .ok (.value (.slice (some ⟨w.heap.size, 0, none⟩) len len)) (w.alloc (.cells cs T)))
    (h : ∀ b, Seg M P n0 ops W Q rest (⟨b, cs, T⟩ :: L) (upd f o.dst (.slice (some ⟨b, 0, none⟩) len len))) : Seg M P n0 ops W Q (o :: rest) L f :=
  vY hw fun w hO => v7 _ (hr w) ((h w.heap.size).go _ (hO.alloc _ _))
theorem tM {ρ : Operand → Value} {t e : TypeId} {x ix : Operand} {b off off' n c sz : Nat} {k : IntKind} {j : Int} (ho : o.op = .indexAddr t x ix) (hx : ρ x = .slice (some ⟨b, off, none⟩) n c) (hi : ρ ix = .int k j)
    (hu : P.underlying t = some (.slice e)) (hs : (P.info? e).map (·.size) = some sz) (h0 : 0 ≤ j) (h1 : j < n) (hoff : off + j.toNat * sz = off') (w : World) : (execOp ρ o).run P w = .ok (.value (.pointer (some ⟨b, off', none⟩))) w := by
  subst hoff
  cases he : P.info? e with
  | none => rw [he] at hs; cases hs
  | some i =>
    rw [he] at hs
    obtain rfl := Option.some.inj hs
    unfold execOp
    simp [ho, hx, hi, Instr.indexAt, Sem.run_bind, asIntOf, run_underlying hu, Instr.sureAddr, h0, h1, sizeOf, typeInfo, he, y5]
theorem ZV {ρ : Operand → Value} {t e : TypeId} {x ix : Operand} {b off off' n c sz : Nat} {k : IntKind} {j : Int} (ho : o.op = .indexAddr t x ix := by rfl) (hx : ρ x = .slice (some ⟨b, off, none⟩) n c := by kernel_rfl) (hi : ρ ix = .int k j := by kernel_rfl) (hu : P.underlying t = some (.slice e) := by kernel_rfl) (hs : (P.info? e).map (·.size) = some sz := by kernel_rfl) (h0 : 0 ≤ j := by omega) (h1 : j < n := by omega) (hoff : off + j.toNat * sz = off' := by omega) (w : World) : (execOp ρ o).run P w = .ok (.value (.pointer (some ⟨b, off', none⟩))) w := tM ho hx hi hu hs h0 h1 hoff w
end
section
variable {α : Type} {g : α → List Value} {sz : Nat}
theorem flat_len (hg : ∀ x, (g x).length = sz) (l : List α) : (l.flatMap g).length = l.length * sz := by
  induction l with
  | nil => simp
  | cons x l ih => rw [List.flatMap_cons, List.length_append, hg, ih, List.length_cons, Nat.succ_mul, Nat.add_comm]
theorem flat_at (hg : ∀ x, (g x).length = sz) (l : List α) : ∀ k (h : k < l.length), ((l.flatMap g).drop (k * sz)).take sz = g l[k] := by
  induction l with
  | nil => intro k h; simp at h
  | cons x l ih =>
    intro k h
    rw [List.flatMap_cons]
    cases k with
    | zero =>
      have := hg x
      rw [Nat.zero_mul, List.drop_zero, ← this, List.take_left]; rfl
    | succ k =>
      rw [Nat.succ_mul, Nat.add_comm, ← List.drop_drop]
      have hd : (g x ++ l.flatMap g).drop sz = l.flatMap g := by rw [← hg x]; exact List.drop_left
      rw [hd]
      exact ih k (by simpa using h)
end
end
section
def qT (f : Nat → Value) : List (Nat × Value) → Nat → Value
  | [] => f
  | p :: r => upd (qT f r) (some p.1) p.2
def Agrees (f : Nat → Value) : List (Nat × Value) → Prop
  | [] => True
  | p :: r => f p.1 = p.2 ∧ Agrees f r
theorem nW {f : Nat → Value} : ∀ (l : List (Nat × Value)), Agrees f l → f = qT f l
  | [], _ => rfl
  | p :: r, h => by
    have e := nW r h.2
    have h1 : qT f r p.1 = p.2 := by rw [← e]; exact h.1
    show f = upd (qT f r) (some p.1) p.2
    rw [← upd_self h1]; exact e
theorem ZU {f : Nat → Value} {l : List (Nat × Value)} (h : Agrees f l := by repeat (first | exact trivial | refine ⟨by kernel_rfl, ?_⟩)) : f = qT f l := nW l h
def Reads {α : Type} (g : α → List Value) (w : World) (B : Nat) (A : Option Addr) (l : List α) : Prop :=
  0 < l.length → ∃ b off, A = some ⟨b, off, none⟩ ∧ b < B ∧ ∀ k u, (l.flatMap g)[k]? = some u → w.cell? ⟨b, off + k, none⟩ = some u
theorem Reads.on {α : Type} {g : α → List Value} {w w' : World} {B B' : Nat} {A : Option Addr} {l : List α} (h : Reads g w B A l) (hb : Below B w w') (hB : B ≤ B') : Reads g w' B' A l := fun h0 => by
  obtain ⟨b, off, e, hlt, hc⟩ := h h0
  exact ⟨b, off, e, by omega, fun k u hk => (hb.cell (p := ⟨b, off + k, none⟩) hlt).trans (hc k u hk)⟩
theorem Sl.reads {α : Type} {g : α → List Value} {T sz n : Nat} {A : Option Addr} {cap : Nat} {l : List α} {ob : List Blk} {M : List Nat} {W w : World} {L : List Blk} (h : Sl T sz (.slice A n cap) n (l.flatMap g) ob) (hn : l.length = n) (hO : Own M W w L) (hs : ∀ x ∈ ob, x ∈ L) :
    Reads g w w.heap.size A l := fun h0 => by
  rcases h.2 with ⟨_, h2, _⟩ | ⟨b, c, cur, e, rfl, h3, h4, h5, h6⟩
  · omega
  · obtain ⟨rfl, _, rfl⟩ : A = some ⟨b, 0, none⟩ ∧ True ∧ cap = c := by
      simp only [Value.slice.injEq] at e; exact ⟨e.1, trivial, e.2.2⟩
    have hb := hs ⟨b, cur, T⟩ (by simp)
    refine ⟨b, 0, rfl, hO.lt hb, fun k u hk => ?_⟩
    rw [cell_of_row w b (0 + k) cur T _ (hO.held _ hb)]
    rw [← h6, List.getElem?_take] at hk
    split at hk
    · simpa using hk
    · cases hk
section
variable {P : Program}
theorem old_load {ty : TypeId} {w : World} {b o : Nat} (cs : List Value) (v : Value) (h : ∀ k u, cs[k]? = some u → w.cell? ⟨b, o + k, none⟩ = some u) (hr : xQ P ty cs.toArray 0 = some v) : (loadVar ty ⟨b, o, none⟩).run P w = .ok v w := by
  unfold xQ at hr
  cases hu : P.underlying ty with
  | none => rw [hu] at hr; simp at hr
  | some d =>
    cases hi : P.info? ty with
    | none => rw [hu, hi] at hr; cases d <;> simp at hr
    | some i =>
      rw [hu, hi] at hr
      by_cases hd : nI d = true
      · have h2 : (if 0 + i.size ≤ cs.toArray.size then some (Value.agg (cs.toArray.toList.drop 0 |>.take i.size).toArray) else none) = some v := by
          cases d <;> first | exact hr | (simp [nI] at hd)
        split at h2
        · rename_i hle
          obtain rfl := Option.some.inj h2
          have hlen : (cs.take i.size).length = i.size := by simp at hle ⊢; omega
          have hl := run_loadCells_list (P := P) w ⟨b, o, none⟩ (cs.take i.size) (fun j u hj => by
            rw [y5]
            rw [List.getElem?_take] at hj
            split at hj
            · exact h j u hj
            · cases hj)
          rw [hlen] at hl
          have hagg : (isAgg ty).run P w = .ok true w := by
            unfold isAgg
            rw [Sem.run_bind, run_underlying hu w]
            cases d <;> simp_all [nI]
          simp [loadVar, Sem.run_bind, hagg, sizeOf, typeInfo, hi, hl]
        · cases h2
      · have h2 : cs.toArray[0]? = some v := by cases d <;> first | exact hr | (simp [nI] at hd)
        have hagg : (isAgg ty).run P w = .ok false w := by
          unfold isAgg
          rw [Sem.run_bind, run_underlying hu w]
          cases d <;> simp_all [nI]
        have hc : w.cell? ⟨b, o, none⟩ = some v := by simpa using h 0 v (by simpa using h2)
        simp [loadVar, Sem.run_bind, hagg, run_load, hc, Result.andThen]
theorem elem_load {α : Type} {g : α → List Value} {sz : Nat} (hg : ∀ x, (g x).length = sz) {ty : TypeId} {w : World} {b off o : Nat} {l : List α} (hc : ∀ k u, (l.flatMap g)[k]? = some u → w.cell? ⟨b, off + k, none⟩ = some u) (k fo : Nat) (hk : k < l.length) (ho : o = off + k * sz + fo) (v : Value)
    (hr : xQ P ty ((g l[k]).drop fo).toArray 0 = some v) : (loadVar ty ⟨b, o, none⟩).run P w = .ok v w := by
  subst ho
  refine old_load ((g l[k]).drop fo) v (fun j u hj => ?_) hr
  have e : ((l.flatMap g)[k * sz + (fo + j)]?) = some u := by
    rw [List.getElem?_drop] at hj
    have := flat_at hg l k hk
    rw [← this, List.getElem?_take] at hj
    split at hj
    · rw [List.getElem?_drop] at hj; exact hj
    · cases hj
  have := hc _ u e
  rw [show off + (k * sz + (fo + j)) = off + k * sz + fo + j from by omega] at this
  exact this
theorem xY {ρ : Operand → Value} {o : Oper} {t e : TypeId} {x ix : Operand} {A : Option Addr} {b off off' n c sz : Nat} {k : IntKind} {j : Int} (ho : o.op = .indexAddr t x ix) (hx : ρ x = .slice A n c) (hA : A = some ⟨b, off, none⟩) (hi : ρ ix = .int k j)
    (hu : P.underlying t = some (.slice e)) (hs : (P.info? e).map (·.size) = some sz) (h0 : 0 ≤ j) (h1 : j < n) (hoff : off + j.toNat * sz = off') (w : World) : (execOp ρ o).run P w = .ok (.value (.pointer (some ⟨b, off', none⟩))) w := by
  subst hA
  exact tM ho hx hi hu hs h0 h1 hoff w
theorem ZA {ρ : Operand → Value} {o : Oper} {t e : TypeId} {x ix : Operand} {A : Option Addr} {b off off' n c sz : Nat} {k : IntKind} {j : Int} (hA : A = some ⟨b, off, none⟩) (ho : o.op = .indexAddr t x ix := by rfl) (hx : ρ x = .slice A n c := by kernel_rfl) (hi : ρ ix = .int k j := by kernel_rfl) (hu : P.underlying t = some (.slice e) := by kernel_rfl) (hs : (P.info? e).map (·.size) = some sz := by kernel_rfl) (h0 : 0 ≤ j := by omega) (h1 : j < n := by omega) (hoff : off + j.toNat * sz = off' := by omega) (w : World) : (execOp ρ o).run P w = .ok (.value (.pointer (some ⟨b, off', none⟩))) w := xY ho hx hA hi hu hs h0 h1 hoff w
end
end
section
section
variable {M : List Nat} {P : Program} {n : Nat} {ops : Array Oper} {W : World} {Q : Exit → Act → World → Prop} {L0 L : List Blk} {f : Nat → Value} {fuel : Nat} {listed : Array Bool} {rest : List Oper} {o : Oper}
theorem zH {L' : List Blk} (e : L = L') (h : Seg M P n ops W Q rest L' f) : Seg M P n ops W Q rest L f := by subst e; exact h
theorem yB {L' : List Blk} {c : Code} (e : L = L') (h : Ok M P n W Q c L' f) : Ok M P n W Q c L f := by subst e; exact h
theorem fE {L' : List Blk} {x : Exit} (e : L = L') (h : Fin M n W Q x L' f) : Fin M n W Q x L f := by subst e; exact h
theorem gB {L' : List Blk} {c : Code} (hs : ∀ w, Own M W w L → Own M W w L') (h : Ok M P n W Q c L' f) : Ok M P n W Q c L f := ⟨fun w hO => h.go w (hs w hO)⟩
theorem yI {L' : List Blk} (hs : ∀ w, Own M W w L → Own M W w L') (h : Seg M P n ops W Q rest L' f) : Seg M P n ops W Q rest L f := ⟨fun w hO => h.go w (hs w hO)⟩
theorem xF {L' : List Blk} {x : Exit} (hs : ∀ w, Own M W w L → Own M W w L') (h : Fin M n W Q x L' f) : Fin M n W Q x L f := ⟨fun w hO => h.go w (hs w hO)⟩
theorem yT {L' : List Blk} (e : L = L') (h : qM M P n ops W L0 Q fuel listed L' f) : qM M P n ops W L0 Q fuel listed L f := by subst e; exact h
theorem kQ {id : Nat} {l : List Oper} (L0 : List Blk) (hm : P.follows .mixedOrders = true) (hsub : ∀ w, Own M W w L → Own M W w L0) (h : qM M P n l.toArray W L0 Q l.length (Array.replicate l.length false) L f) : Ok M P n W Q (.region id l.toArray true) L f := ⟨fun w hO =>
  wp_region_held (id := id) (S := fun w => Own M W w L0) hm (ops := l.toArray) (Q := Q) (a := Fr n f) (w := w) (by simpa using h.go _ hO.drew)⟩
theorem hl_take (i : Nat) (oi : Oper) (v : Value) (hi : ops[i]? = some oi) (hs : Region.noSelect ops = true) (hf : Region.free .any ops listed i = true) (hr : (Region.ready .any ops listed).contains i = true)
    (hQ : PQ Q) (hsub : ∀ w, Own M W w L → Own M W w L0) (hw : xG ops n f oi = true) (hv : ∀ w, Own M W w L0 → (execOp (ev n f) oi).run P w = .ok (.value v) w)
    (h : qM M P n ops W L0 Q fuel (listed.setIfInBounds i true) L (upd f oi.dst v)) : qM M P n ops W L0 Q (fuel + 1) listed L f := ⟨fun w hO => by
  refine wpAnyH_take hi hs hf hr (fun c a w h => hQ c a _ _ w h) (Or.inl ⟨by rw [jF]; exact hw, fun w hw' => by rw [vL]; exact hv w hw'⟩) (hsub w hO) ?_
  rw [jQ]
  exact h.go w hO⟩
theorem jP (i : Nat) (oi : Oper) {ty : TypeId} {p : Operand} {a : Addr} (v : Value) (hi : ops[i]? = some oi) (hs : Region.noSelect ops = true) (hf : Region.free .any ops listed i = true) (hr : (Region.ready .any ops listed).contains i = true)
    (hQ : PQ Q) (hsub : ∀ w, Own M W w L → Own M W w L0) (hw : xG ops n f oi = true) (ho : oi.op = .load ty p) (hp : ev n f p = .pointer (some a)) (hv : ∀ w, Own M W w L0 → (loadVar ty a).run P w = .ok v w)
    (h : qM M P n ops W L0 Q fuel (listed.setIfInBounds i true) L (upd f oi.dst v)) : qM M P n ops W L0 Q (fuel + 1) listed L f :=
  hl_take i oi v hi hs hf hr hQ hsub hw (fun w hO => yF ho hp (hv w hO)) h
theorem vW {i : Nat} (oi : Oper) {k : FuncId} {args : Array Value} (R : Value → List Blk → Prop) (hi : ops[i]? = some oi) (hw : xG ops n f oi = true) (he : ∀ w, (execOp (ev n f) oi).run P w = .ok (.enter k args) w)
    (hc : ∀ w, Own M W w L → Calls P k args w fun e w' => ∃ v L', e = .returned v ∧ R v L' ∧ Own M W w' L') (hsub : ∀ v L', R v L' → ∀ w, Own M W w L' → Own M W w L0)
    (h : ∀ v L', R v L' → qM M P n ops W L0 Q fuel (listed.setIfInBounds i true) L' (upd f oi.dst v)) : j1 M P n ops W L0 Q fuel listed i L f :=
  wN hi hw fun w hO => dO (he w) ((hc w hO).mono fun e w' ⟨v, L', e1, e2, e3⟩ => ⟨v, e1, hsub v L' e2 w' e3, (h v L' e2).go w' e3⟩)
theorem x5 {i0 : Nat} {E ob R : List Blk} (oi : Oper) {t T : TypeId} {s x : Operand} {i : TypeInfo} {z : Value} {sz : Nat} (hi0 : ops[i0]? = some oi) (hw : xG ops n f oi = true) (ho : oi.op = .call { callee := .builtin .append, args := #[s, x], argTypes := #[t, t] })
    (ht : P.underlying t = some (.slice T)) (hi : P.info? T = some i) (hz : i.zero = some z) (hsz : i.size = sz) (hzs : z.cells.size = sz)
    {v : Value} {m0 : Nat} {xs : List Value} (hs : ev n f s = v) (hv : Sl T sz v m0 xs ob) {a : Addr} {m c : Nat} {news : List Value} (hx : ev n f x = .slice (some a) m c)
    (hl : news.length = m * sz) (hnews : ∀ w, Own M W w (E ++ ob ++ R) → ∀ j u, news[j]? = some u → w.cell? (a.add j) = some u) (h1 : ∀ u ∈ news, u.oneCell' = true)
    (h63 : m0 + m ≤ maxLen) (hbytes : (m0 + m) * i.bytes ≤ 140737488355328) (hsub : ∀ ob' w, Own M W w (E ++ ob' ++ R) → Own M W w L0)
    (h : ∀ v' ob', Sl T sz v' (m0 + m) (xs ++ news) ob' → qM M P n ops W L0 Q fuel (listed.setIfInBounds i0 true) (E ++ ob' ++ R) (upd f oi.dst v')) : j1 M P n ops W L0 Q fuel listed i0 (E ++ ob ++ R) f :=
  wN hi0 hw fun w hO => by
    obtain ⟨v', w', ob', hr, h2, h3⟩ := mY (P := P) (ty := oi.type) (c := c) ht hi hz hsz hzs hv hO hl (hnews w hO) h1 h63 hbytes
    refine v7 v' (w' := w') ?_ ⟨hsub ob' w' h3, (h v' ob' h2).go w' h3⟩
    unfold execOp
    simp only [ho, resolve, invoke, builtin, Sem.run_bind, Sem.run_pure, Result.andThen_ok, List.map_toArray, List.map_cons, List.map_nil, hs, hx, hr]
theorem kY {i0 : Nat} (oi : Oper) {t : TypeId} {len : Nat} {parts : Array (Nat × Operand)} (T : TypeId) (cs : Array Value) (hi0 : ops[i0]? = some oi) (hw : xG ops n f oi = true) (ho : oi.op = .buildSlice t len parts) (hsub : ∀ w, Own M W w L → Own M W w L0)
    (hr : ∀ w, (execOp (ev n f) oi).run P w = .ok (.value (.slice (some ⟨w.heap.size, 0, none⟩) len len)) (w.alloc (.cells cs T)))
    (h : ∀ b, qM M P n ops W L0 Q fuel (listed.setIfInBounds i0 true) (⟨b, cs, T⟩ :: L) (upd f oi.dst (.slice (some ⟨b, 0, none⟩) len len))) : j1 M P n ops W L0 Q fuel listed i0 L f :=
  wN hi0 hw fun w hO => by
    have hO' := hO.alloc cs T
    refine v7 _ (hr w) ⟨?_, (h w.heap.size).go _ hO'⟩
    exact hsub _ (Own.sub [⟨w.heap.size, cs, T⟩] hO')
theorem Own.join {ob ob' R : List Blk} {w w' : World} (h : Own M W w (ob ++ R)) (hc : Own (ob.map Blk.b) w w' ob') : Own M W w' (ob' ++ R) := by
  have hap := h.apart
  rw [List.map_append, List.nodup_append] at hap
  have notob : ∀ x ∈ R, x.b ∉ ob.map Blk.b := fun x hx hm => hap.2.2 x.b hm x.b (List.mem_map.2 ⟨x, hx, rfl⟩) rfl
  have ltR : ∀ x ∈ R, x.b < w.heap.size := fun x hx => h.lt (List.mem_append_right ob hx)
  have newob : ∀ x ∈ ob', x.b ∉ R.map Blk.b := fun x hx hm => by
    obtain ⟨y, hy, e⟩ := List.mem_map.1 hm
    rcases hc.base x hx with h1 | h1
    · have := ltR y hy; omega
    · exact notob y hy (e ▸ h1)
  refine ⟨hc.os.trans h.os, hc.tape.trans h.tape, hc.output.trans h.output, Nat.le_trans h.size hc.size, Nat.le_trans h.drawn hc.drawn, fun k hk hm => ?_, fun x hx => ?_, fun x hx => ?_, ?_⟩
  · rw [hc.kept k (Nat.lt_of_lt_of_le hk h.size) (fun hmem => by
      obtain ⟨y, hy, e⟩ := List.mem_map.1 hmem
      rcases h.base y (List.mem_append_left R hy) with h1 | h1
      · omega
      · exact hm (e ▸ h1))]
    exact h.kept k hk hm
  · rcases List.mem_append.1 hx with hx | hx
    · exact hc.held x hx
    · rw [hc.kept x.b (ltR x hx) (notob x hx)]
      exact h.held x (List.mem_append_right ob hx)
  · rcases List.mem_append.1 hx with hx | hx
    · rcases hc.base x hx with h1 | h1
      · exact .inl (Nat.le_trans h.size h1)
      · obtain ⟨y, hy, e⟩ := List.mem_map.1 h1
        rw [← e]; exact h.base y (List.mem_append_left R hy)
    · exact h.base x (List.mem_append_right ob hx)
  · rw [List.map_append, List.nodup_append]
    refine ⟨hc.apart, hap.2.1, fun a ha b hb e => ?_⟩
    obtain ⟨x, hx, rfl⟩ := List.mem_map.1 ha
    exact newob x hx (e ▸ hb)
theorem Own.joinN {ob' R : List Blk} {w w' : World} (h : Own M W w R) (hc : Own [] w w' ob') : Own M W w' (ob' ++ R) := Own.join (ob := []) h hc
end
section
variable {P : Program} {n : Nat} {W : World} {f : Nat → Value} {Q : Exit → Act → World → Prop} {M : List Nat} {ops : Array Oper} {rest : List Oper} {o : Oper} {L : List Blk}
theorem y6 {k : FuncId} {fn : Func} {c : Code} {args : Array Value} {R : Ending → World → Prop} (hO : Own M W W L) (hf : P.funcs[k]? = some fn) (hb : fn.body = some c) (hn : fn.ntmps = n) (hle : Nat.ble args.size n = true)
    (h : Ok M P n W (bodyPost P fn R) c L (fun t => args.getD t undef)) : Calls P k args W R := by
  have h2 : Ok M P n W (bodyPost P fn R) c [] (fun t => args.getD t undef) → Calls P k args W R := pG M hf hb hn hle
  refine calls_of_wp hf hb ?_
  have hle' : args.size ≤ n := Nat.le_of_ble_eq_true hle
  have e : ({ tmps := args ++ Array.replicate (fn.ntmps - args.size) undef, defers := [] } : Act) = Fr n (fun t => args.getD t undef) := by
    unfold Fr
    congr 1
    rw [hn]
    apply Array.ext_getElem?
    intro i
    rw [Array.getElem?_ofFn, Array.getElem?_append, Array.getElem?_replicate]
    by_cases hi : i < args.size
    · rw [if_pos hi, dif_pos (by omega), Array.getElem?_eq_getElem hi]
      simp [Array.getD, hi]
    · rw [if_neg hi]
      by_cases hin : i < n
      · rw [if_pos (by omega), dif_pos hin]
        simp [Array.getD, hi]
      · rw [if_neg (by omega), dif_neg hin]
  rw [e]
  exact h.go W hO
theorem Sl.block {T sz m : Nat} {A : Option Addr} {cap : Nat} {xs : List Value} {ob : List Blk} (h : Sl T sz (.slice A m cap) m xs ob) (h0 : 0 < m) : ∃ g cur, A = some ⟨g, 0, none⟩ ∧ ob = [⟨g, cur, T⟩] ∧ m ≤ cap ∧ cap ≤ maxLen ∧ cur.size = cap * sz ∧ cur.toList.take (m * sz) = xs := by
  rcases h.2 with ⟨_, h2, _⟩ | ⟨g, c, cur, e, e2, h3, h4, h5, h6⟩
  · omega
  · simp only [Value.slice.injEq] at e
    obtain ⟨rfl, _, rfl⟩ := e
    exact ⟨g, cur, rfl, e2, h3, h4, h5, h6⟩
end
section
variable {P : Program} {n : Nat} {W : World} {f : Nat → Value} {Q : Exit → Act → World → Prop} {M : List Nat} {ops : Array Oper} {rest : List Oper} {o : Oper} {L : List Blk}
theorem kV (i : Nat) (x : Blk) {T : TypeId} {p q : Operand} {off : Nat} (v : Value) (sz : Nat) (hw : xG ops n f o = true) (ho : o.op = .store T p q) (hd : o.dst = none) (hL : L[i]? = some x)
    (hp : ev n f p = .pointer (some ⟨x.b, off, none⟩)) (hq : ev n f q = v) (hz : (P.info? T).map (·.size) = some sz) (hs : v.cells.size = sz) (hle : off + sz ≤ x.cs.size) (h1 : (v.cells.toList.all fun u => u.oneCell') = true)
    (h : Seg M P n ops W Q rest (L.set i ⟨x.b, xX x.cs off v.cells, x.ty⟩) f) : Seg M P n ops W Q (o :: rest) L f := by
  cases ht : P.info? T with
  | none => rw [ht] at hz; cases hz
  | some t =>
    rw [ht] at hz
    have e : t.size = sz := Option.some.inj hz
    exact s_store i x v hw ho hd hL hp hq ht (by rw [hs, e]) (by rw [e]; exact hle) (List.all_eq_true.1 h1) h
end
end
section
section
variable {P : Program}
theorem jR {ρ : Operand → Value} {o : Oper} {t e : TypeId} {x y : Operand} {b off n c sz : Nat} {k : IntKind} {j : Int} (ho : o.op = .slice t x none (some y) none) (hx : ρ x = .slice (some ⟨b, off, none⟩) n c) (hy : ρ y = .int k j)
    (hu : P.underlying t = some (.slice e)) (hs : (P.info? e).map (·.size) = some sz) (h0 : 0 ≤ j) (h1 : j ≤ c) (w : World) : (execOp ρ o).run P w = .ok (.value (.slice (some ⟨b, off, none⟩) j.toNat c)) w := by
  cases he : P.info? e with
  | none => rw [he] at hs; cases hs
  | some i =>
    unfold execOp
    simp [ho, hx, hy, Instr.sliceAt, Instr.slice, Instr.sliceBounds, Instr.sliceBound, Sem.run_bind, asIntOf, run_underlying hu, h0, h1, sizeOf, typeInfo, he, y5]
theorem run_sllo {ρ : Operand → Value} {o : Oper} {t e : TypeId} {x y : Operand} {b off n c sz : Nat} {k : IntKind} {j : Int} (ho : o.op = .slice t x (some y) none none) (hx : ρ x = .slice (some ⟨b, off, none⟩) n c) (hy : ρ y = .int k j)
    (hu : P.underlying t = some (.slice e)) (hs : (P.info? e).map (·.size) = some sz) (h0 : 0 ≤ j) (h1 : j ≤ n) (w : World) : (execOp ρ o).run P w = .ok (.value (.slice (some ⟨b, off + (if c = j.toNat then 0 else j.toNat * sz), none⟩) (n - j.toNat) (c - j.toNat))) w := by
  cases he : P.info? e with
  | none => rw [he] at hs; cases hs
  | some i =>
    rw [he] at hs
    obtain rfl := Option.some.inj hs
    unfold execOp
    by_cases hc : c = j.toNat
    · simp [ho, hx, hy, Instr.sliceAt, Instr.slice, Instr.sliceBounds, Instr.sliceBound, Sem.run_bind, asIntOf, run_underlying hu, h0, h1, sizeOf, typeInfo, he, y5, hc]
    · simp [ho, hx, hy, Instr.sliceAt, Instr.slice, Instr.sliceBounds, Instr.sliceBound, Sem.run_bind, asIntOf, run_underlying hu, h0, h1, sizeOf, typeInfo, he, y5, hc]
end
end
section
section
variable {P : Program} {w : World} {ob : List Blk}
end
section
variable {M : List Nat} {P : Program} {n0 : Nat} {ops : Array Oper} {W : World} {Q : Exit → Act → World → Prop} {rest : List Oper} {o : Oper} {E ob L0 : List Blk} {f : Nat → Value}
end
end
section
theorem t5 (w : World) (a : Addr) (m : Nat) : (w.freeze a m).drawn = w.drawn := by unfold World.freeze; split <;> rfl
theorem Own.freeze {M : List Nat} {W w : World} {x : Blk} {L : List Blk} (h : Own M W w (x :: L)) (m : Nat) : Own M W (w.freeze ⟨x.b, 0, none⟩ m) L := by
  have hne : ∀ k, k ≠ x.b → (w.freeze ⟨x.b, 0, none⟩ m).heap[k]? = w.heap[k]? := fun k hk => by
    unfold World.freeze
    split
    · rfl
    · simp only [Array.getElem?_modify]; rw [if_neg (Ne.symm hk)]
  have hsz : (w.freeze ⟨x.b, 0, none⟩ m).heap.size = w.heap.size := by unfold World.freeze; split <;> simp
  have ho : (w.freeze ⟨x.b, 0, none⟩ m).os = w.os ∧ (w.freeze ⟨x.b, 0, none⟩ m).tape = w.tape ∧ (w.freeze ⟨x.b, 0, none⟩ m).output = w.output := by unfold World.freeze; split <;> exact ⟨rfl, rfl, rfl⟩
  have hap := h.apart
  rw [List.map_cons, List.nodup_cons] at hap
  refine ⟨ho.1.trans h.os, ho.2.1.trans h.tape, ho.2.2.trans h.output, by rw [hsz]; exact h.size, by rw [t5]; exact h.drawn, fun k hk hm => ?_, fun y hy => ?_, fun y hy => h.base y (List.mem_cons_of_mem _ hy), hap.2⟩
  · rw [hne k (fun e => by
      rcases h.base x List.mem_cons_self with h1 | h1
      · omega
      · exact hm (e ▸ h1))]
    exact h.kept k hk hm
  · rw [hne y.b (fun e => hap.1 (e ▸ List.mem_map_of_mem hy))]
    exact h.held y (List.mem_cons_of_mem _ hy)
section
variable {M : List Nat} {P : Program} {n0 : Nat} {ops : Array Oper} {W : World} {Q : Exit → Act → World → Prop} {rest : List Oper} {o : Oper} {L : List Blk} {f : Nat → Value}
theorem s_make {t e : TypeId} {x y : Operand} {i : TypeInfo} {z : Value} {kl kc : IntKind} {l c : Int} (hw : xG ops n0 f o = true) (ho : o.op = .makeSlice t x y) (hx : ev n0 f x = .int kl l) (hy : ev n0 f y = .int kc c)
    (ht : P.underlying t = some (.slice e)) (hi : P.info? e = some i) (hz : i.zero = some z) (h0 : 0 ≤ l) (hlc : l ≤ c) (hbytes : (i.bytes : Int) * c ≤ 281474976710656) (h63 : c ≤ 9223372036854775807)
    (h : ∀ b, Seg M P n0 ops W Q rest (⟨b, madeCells z.cells (c.toNat * i.size), e⟩ :: L) (upd f o.dst (.slice (some ⟨b, 0, none⟩) l.toNat c.toNat))) : Seg M P n0 ops W Q (o :: rest) L f :=
  vY hw fun w hO => by
    refine v7 _ (w' := w.alloc (.cells (madeCells z.cells (c.toNat * i.size)) e)) ?_ ((h w.heap.size).go _ (hO.alloc _ _))
    have hr := run_make (P := P) w t e i z ht hi hz kl kc l c h0 hlc hbytes h63
    unfold execOp
    simp only [ho, hx, hy, Sem.run_bind, Sem.run_pure, Result.andThen_ok, hr]
theorem s_copyS {t u e : TypeId} {x y : Operand} {b cap : Nat} {cs : Array Value} {T : TypeId} {s : ByteArray} (hw : xG ops n0 f o = true) (ho : o.op = .call { callee := .builtin .copy, args := #[x, y], argTypes := #[t, u] })
    (hx : ev n0 f x = .slice (some ⟨b, 0, none⟩) s.size cap) (hy : ev n0 f y = .string s) (ht : P.underlying t = some (.slice e)) (hs : (P.info? e).map (·.size) = some 1) (hc : cs.size = s.size)
    (h : Seg M P n0 ops W Q rest (⟨b, (Lib.byteCells s.data.toList).toArray, T⟩ :: L) (upd f o.dst (goInt s.size))) : Seg M P n0 ops W Q (o :: rest) (⟨b, cs, T⟩ :: L) f :=
  vY hw fun w hO => by
    have hr := Lib.run_copy_row_string (P := P) w t u o.type e b 0 s.size cap s cs T ht hs (hO.held _ List.mem_cons_self) (Nat.le_refl _) (by omega)
    have hcs : (cs.toList.take 0 ++ Lib.byteCells s.data.toList ++ cs.toList.drop (0 + s.size)).toArray = (Lib.byteCells s.data.toList).toArray := by
      rw [List.take_zero, List.nil_append, List.drop_of_length_le (by rw [Array.length_toList]; omega), List.append_nil]
    rw [hcs] at hr
    refine v7 _ (w' := w.setRow b (Lib.byteCells s.data.toList).toArray) ?_ (h.go _ (hO.put (i := 0) (x := ⟨b, cs, T⟩) rfl _))
    unfold execOp
    simp only [ho, resolve, invoke, builtin, Sem.run_bind, Sem.run_pure, Result.andThen_ok, List.map_toArray, List.map_cons, List.map_nil, hx, hy, hr]
theorem s_ustr {t u e : TypeId} {x y : Operand} {b : Nat} {s : ByteArray} (hw : xG ops n0 f o = true) (ho : o.op = .call { callee := .builtin .unsafeString, args := #[x, y], argTypes := #[t, u] })
    (hx : ev n0 f x = .pointer (some ⟨b, 0, none⟩)) (hy : ev n0 f y = .int .i64 s.size) (ht : P.underlying t = some (.pointer e)) (hc : P.cellsOf e = 1) (hne : s.size ≠ 0) (h63 : s.size ≤ 9223372036854775807)
    (h : Seg M P n0 ops W Q rest L (upd f o.dst (.string s))) : Seg M P n0 ops W Q (o :: rest) (⟨b, (Lib.byteCells s.data.toList).toArray, e⟩ :: L) f :=
  vY hw fun w hO => by
    have hg := hO.held _ List.mem_cons_self
    have hl : s.data.toList.length = s.size := by rw [← Lib.size_eq]
    have hr := Lib.run_unsafeString_row (P := P) w t u o.type e ht hc b s.size (by unfold World.shape?; simp only at hg; rw [hg]; simp [Lib.byteCells_length, hl]) s.data.toList (fun e => hne (by rw [← hl, e]; rfl)) (by omega) (by omega)
      (fun j x hx => by
        rw [y5, cell_of_row w b (0 + j) _ e _ hg]
        simp [Lib.byteCells, hx])
    rw [hl] at hr
    refine v7 _ (w' := w.freeze ⟨b, 0, none⟩ s.size) ?_ (h.go _ (hO.freeze s.size))
    unfold execOp
    simp only [ho, resolve, invoke, builtin, Sem.run_bind, Sem.run_pure, Result.andThen_ok, List.map_toArray, List.map_cons, List.map_nil, hx, hy, hr]
end
end
section
section
variable {M : List Nat} {P : Program} {n : Nat} {W : World} {Q : Exit → Act → World → Prop} {L : List Blk} {f : Nat → Value}
def JoinQ (M : List Nat) (n : Nat) (W : World) (R : List Blk → (Nat → Value) → Prop) : Exit → Act → World → Prop
  | .normal, a, w => ∃ L f, R L f ∧ Own M W w L ∧ a = Fr n f
  | _, _, _ => False
theorem pW {c : Code} (R : List Blk → (Nat → Value) → Prop) (h1 : Ok M P n W (JoinQ M n W R) c L f) (h2 : ∀ L f, R L f → Fin M n W Q .normal L f) : Ok M P n W Q c L f := ⟨fun w hO =>
  Code.wp_mono (fun e a w h => by
    cases e with
    | normal =>
      obtain ⟨L', f', hR, hO', rfl⟩ := h
      exact (h2 L' f' hR).go w hO'
    | _ => exact absurd h id) (h1.go w hO)⟩
theorem xL {R : List Blk → (Nat → Value) → Prop} (h : R L f) : Fin M n W (JoinQ M n W R) .normal L f := ⟨fun w hO => ⟨L, f, h, hO, rfl⟩⟩
end
end
section
section
variable {M : List Nat} {P : Program} {n0 : Nat} {ops : Array Oper} {W : World} {Q : Exit → Act → World → Prop} {rest : List Oper} {o : Oper} {L : List Blk} {f : Nat → Value}
end
theorem tK {P : Program} {ρ : Operand → Value} {o : Oper} {t e : TypeId} {x y : Operand} {A : Option Addr} {b off n c sz : Nat} {k : IntKind} {j : Int} (ho : o.op = .slice t x (some y) none none) (hx : ρ x = .slice A n c) (hA : A = some ⟨b, off, none⟩) (hy : ρ y = .int k j)
    (hu : P.underlying t = some (.slice e)) (hs : (P.info? e).map (·.size) = some sz) (h0 : 0 ≤ j) (h1 : j ≤ n) (w : World) : (execOp ρ o).run P w = .ok (.value (.slice (some ⟨b, off + (if c = j.toNat then 0 else j.toNat * sz), none⟩) (n - j.toNat) (c - j.toNat))) w := by
  subst hA
  exact run_sllo ho hx hy hu hs h0 h1 w
end
section
section
variable {M : List Nat} {P : Program} {n : Nat} {ops : Array Oper} {W : World} {Q : Exit → Act → World → Prop} {rest : List Oper} {o : Oper} {L : List Blk} {f : Nat → Value} {Qe : List Blk → (Nat → Value) → Prop}
theorem zX (x : Blk) {ty : TypeId} {p : Operand} {off : Nat} (v : Value) (hw : xG ops n f o = true) (ho : o.op = .load ty p) (hL : x ∈ L) (hp : ev n f p = .pointer (some ⟨x.b, off, none⟩)) (hv : xQ P ty x.cs off = some v)
    (h : Seg M P n ops W Q rest L (upd f o.dst v)) : Seg M P n ops W Q (o :: rest) L f :=
  s_read v hw (fun _ hO => yF ho hp (yO hv (hO.held x hL))) h
theorem gX (x : Blk) {ty : TypeId} {p : Operand} {off : Nat} (v : Value) (hw : xG ops n f o = true) (ho : o.op = .load ty p) (hL : x ∈ L) (hp : ev n f p = .pointer (some ⟨x.b, off, none⟩)) (hv : xQ P ty x.cs off = some v)
    (h : qB M P n ops W Qe rest L (upd f o.dst v)) : qB M P n ops W Qe (o :: rest) L f :=
  pT v hw (fun _ hO => yF ho hp (yO hv (hO.held x hL))) h
end
end
section
end
section
theorem Reads.load {P : Program} {α : Type} {g : α → List Value} {sz : Nat} (hg : ∀ x, (g x).length = sz) {ty : TypeId} {w : World} {B b off o : Nat} {A : Option Addr} {l : List α} (h : Reads g w B A l) (hA : A = some ⟨b, off, none⟩) (k fo : Nat) (hk : k < l.length) (ho : o = off + k * sz + fo) (v : Value)
    (hr : xQ P ty ((g l[k]).drop fo).toArray 0 = some v) : (loadVar ty ⟨b, o, none⟩).run P w = .ok v w := by
  subst hA
  obtain ⟨b', off', e, hlt, hcell⟩ := h (by omega)
  obtain ⟨rfl, rfl⟩ : b = b' ∧ off = off' := by simp at e; exact e
  exact elem_load hg hcell k fo hk ho v hr
end
section
def jX (r : Int) : Bool := decide (97 ≤ r ∧ r ≤ 122)
def jE (r : Int) : Bool := decide (48 ≤ r ∧ r ≤ 57)
def pX : Bool → Int → List UInt8 → Bool
  | _, last, [] => decide (last ≠ 45)
  | first, last, c :: r =>
    if jX c.toNat then pX false c.toNat r
    else if jE c.toNat then (if first then false else pX false c.toNat r)
    else if (c.toNat : Int) = 45 then (if last = 45 then false else pX false c.toNat r)
    else false
def nameB (s : ByteArray) : Bool := decide (s.size ≤ 16) && pX true 45 s.data.toList
def nameRef : Int → List UInt8 → Bool
  | _, [] => true
  | last, c :: r => (jX c.toNat || jE c.toNat || decide ((c.toNat : Int) = 45)) && !(decide ((c.toNat : Int) = 45) && decide (last = 45)) && nameRef c.toNat r
def lastOf : Int → List UInt8 → Int
  | last, [] => last
  | _, c :: r => lastOf c.toNat r
theorem fX (s : ByteArray) (k : Nat) (h : k < s.size) : s.data.toList.drop k = s[k] :: s.data.toList.drop (k + 1) := by
  rw [List.drop_eq_getElem_cons (by simpa using h)]; rfl
theorem nE (s : ByteArray) (k : Nat) (h : ¬ k < s.size) : s.data.toList.drop k = [] := by
  rw [List.drop_eq_nil_iff]; simp; omega
def kM : List UInt8 → Bool
  | [] => true
  | c :: r => (jX c.toNat || jE c.toNat || decide ((c.toNat : Int) = 95)) && kM r
def wdB (r : Int) : Bool := jX r || jE r || decide (r = 95)
theorem v8 (c : UInt8) (r : List UInt8) (h : wdB c.toNat = true) : kM (c :: r) = kM r := by
  unfold wdB at h
  rw [kM, h]; rfl
theorem d9 (c : UInt8) (r : List UInt8) (h : wdB c.toNat = false) : kM (c :: r) = false := by
  unfold wdB at h
  rw [kM, h]; rfl
def hU (s : ByteArray) : Bool := decide (1 ≤ s.size ∧ s.size ≤ 12) && kM s.data.toList
end
section
theorem j6 {a b : Bool} (h : a = b) : Ending.returned (.bool a) = .returned (.bool b) := by rw [h]
theorem wJ {k : IntKind} {a b : Int} (h : a = b) : Ending.returned (.int k a) = .returned (.int k b) := by rw [h]
theorem letB_hi (n : Nat) (h : 128 ≤ n) : jX n = false := by unfold jX; simp; omega
theorem digB_hi (n : Nat) (h : 128 ≤ n) : jE n = false := by unfold jE; simp; omega
theorem letB_hi8 (c : UInt8) (h : 128 ≤ c.toNat) : jX c.toNat = false := letB_hi _ h
theorem digB_hi8 (c : UInt8) (h : 128 ≤ c.toNat) : jE c.toNat = false := digB_hi _ h
theorem vK {a b : Int} (h : ¬ a = b) : (a == b) = false := by simpa using h
theorem wQ (w : World) (s : ByteArray) (pos : Nat) : Below w.heap.size w (w.iter s pos) := (Below.refl _ w).alloc (Nat.le_refl _) _
theorem fH (r : Int) (b : Bool) (hb : jE r = b) (w : World) :
    Calls Tryd.prog 78 #[.int .i32 r] w fun e w' => e = .returned (.bool b) ∧ w = w' := by
  subst hb
  unfold jE
  go_enter Tryd.func78, Tryd.ntmps78
  go_wp2
  all_goals go_ret
  all_goals exact ⟨j6 (by simp; try omega), rfl⟩
end
section
theorem wide_other (l : List UInt8) (h : (Lib.decodeL l).1 ≠ 65533) : Lib.runeLen ((Lib.decodeL l).1 : Int) = ((Lib.decodeL l).2 : Int) := Lib.runeLen_decode l h
theorem wide_bad (l : List UInt8) (hne : l ≠ []) (h : (Lib.decodeL l).1 = 65533) (hp : Lib.hasPrefix l [239, 191, 189] = false) : (Lib.decodeL l).2 = 1 := by
  apply Classical.byContradiction
  intro h1
  have he := Lib.encode_decode l hne (fun hh => h1 hh.2)
  rw [h] at he
  have e3 : Lib.encodeRune ((65533 : Nat) : Int) = [239, 191, 189] := by decide
  rw [e3] at he
  unfold Lib.hasPrefix at hp
  rw [Bool.eq_false_iff] at hp
  apply hp
  rw [List.isPrefixOf_iff_prefix, he]
  exact List.take_prefix _ _
theorem wide_err (l : List UInt8) (hp : Lib.hasPrefix l [239, 191, 189] = true) : (Lib.decodeL l).2 = 3 := by
  unfold Lib.hasPrefix at hp
  rw [List.isPrefixOf_iff_prefix] at hp
  obtain ⟨t, rfl⟩ := hp
  rw [Lib.decodeL_N]
  simp [Lib.decodeN]
def xZ (b : UInt8) : List UInt8 → List UInt8 → List (List UInt8)
  | acc, [] => [acc]
  | acc, c :: r => if c = b then acc :: xZ b [] r else xZ b (acc ++ [c]) r
def x1 (b : UInt8) : List (List UInt8) → List UInt8
  | [] => []
  | [x] => x
  | x :: y :: r => x ++ b :: x1 b (y :: r)
theorem split_len (b : UInt8) (l : List UInt8) : ∀ acc, (xZ b acc l).length = (l.filter (· == b)).length + 1 := by
  induction l with
  | nil => intro acc; rfl
  | cons c r ih =>
    intro acc
    unfold xZ
    by_cases h : c = b
    · rw [if_pos h, List.length_cons, ih, List.filter_cons, if_pos (by simp [h]), List.length_cons]
    · rw [if_neg h, ih, List.filter_cons, if_neg (by simp [h])]
theorem split_le (b : UInt8) (l : List UInt8) : ∀ acc, ∀ x ∈ xZ b acc l, x.length ≤ acc.length + l.length := by
  induction l with
  | nil => intro acc x hx; simp [xZ] at hx; subst hx; simp
  | cons c r ih =>
    intro acc x hx
    unfold xZ at hx
    by_cases h : c = b
    · rw [if_pos h] at hx
      rcases List.mem_cons.1 hx with rfl | hx
      · omega
      · have := ih [] x hx; simp at this ⊢; omega
    · rw [if_neg h] at hx
      have := ih (acc ++ [c]) x hx
      simp at this ⊢; omega
end
section
theorem infoStr : (Tryd.prog.info? 9).map (fun i => (i.zero, i.size, i.bytes)) = some (some (.string ByteArray.empty), 1, 16) := by kernel_rfl
def mkS (l : List UInt8) : ByteArray := ⟨l.toArray⟩
def gF (l : List (List UInt8)) : List Value := l.map fun x => .string (mkS x)
theorem bI (l : List (List UInt8)) (x : List UInt8) : gF (l ++ [x]) = gF l ++ [.string (mkS x)] := by unfold gF; rw [List.map_append]; rfl
theorem wP (s : ByteArray) (f k : Nat) : s.extract f k = mkS ((s.data.toList.drop f).take (k - f)) := by
  unfold mkS
  apply ByteArray.ext
  apply Array.toList_inj.1
  rw [ByteArray.data_extract, Array.toList_extract, List.toList_toArray, List.extract_eq_take_drop]
theorem nX (s : ByteArray) (f k : Nat) (hf : f ≤ k) (h : k < s.size) : (s.data.toList.drop f).take (k + 1 - f) = (s.data.toList.drop f).take (k - f) ++ [s[k]] := by
  rw [show k + 1 - f = k - f + 1 from by omega, List.take_succ_eq_append_getElem (by simp; omega)]
  congr 1
  simp [show f + (k - f) = k from by omega]
  rfl
theorem nY (b c : UInt8) (acc r : List UInt8) (h : c = b) : xZ b acc (c :: r) = acc :: xZ b [] r := by rw [xZ, if_pos h]
theorem mM (b c : UInt8) (acc r : List UInt8) (h : ¬ c = b) : xZ b acc (c :: r) = xZ b (acc ++ [c]) r := by rw [xZ, if_neg h]
def gT (s : ByteArray) (b : UInt8) : List (List UInt8) := xZ b [] s.data.toList
theorem rsplit_any (s : ByteArray) (b : UInt8) (w : World) (hs : s.size ≤ 1000000) :
    Calls Tryd.prog 28 #[.string s, .int .u8 b.toNat] w fun e w' => ∃ v, e = .returned v ∧ w'.ownsRow w.heap.size 9 1 v (gT s b).length (gF (gT s b)) ∧ Below w.heap.size w w' := by
  obtain ⟨i0, hi, hz0, hz1, hz2⟩ := info_parts infoStr
  go_enter Tryd.func28, Tryd.ntmps28
  go_wp2
  go_loopw [5, 6, 7] (fun v fv iv wr => ∃ (k f : Nat) (P : List (List UInt8)), iv = .int .i64 k ∧ fv = .int .i64 f ∧ f ≤ k ∧ k ≤ s.size ∧ P.length ≤ k ∧ wr.ownsRow w.heap.size 9 1 v P.length (gF P) ∧ Below w.heap.size w wr ∧ Hid (P ++ xZ b ((s.data.toList.drop f).take (k - f)) (s.data.toList.drop k) = gT s b)) (fun _ _ iv _ => s.size - (intOf iv).toNat)
  case atStart => exact ⟨0, 0, [], rfl, rfl, Nat.le_refl _, Nat.zero_le _, Nat.zero_le _, ⟨rfl, Or.inl ⟨rfl, rfl⟩⟩, Below.refl _ _, rfl⟩
  case round =>
    obtain ⟨k, f, P, rfl, rfl, hfk, hk, hP, hown, hb, HR⟩ := hrel
    have hsz := hb.size
    by_cases hp : k < s.size
    · have HD := Lib.hid (fX s k hp)
      by_cases hc : s[k] = b
      · have HC := Lib.hid hc
        have hcb : ((s[k].toNat : Int) == (b.toNat : Int)) = true := by rw [hc]; simp
        clear hc
        go_wp2_with (at_builtin; refine kO _ rfl _ _ 50 rfl w.heap.size 9 i0 (.string ByteArray.empty) 1 16 Tryd.underlying50 hi hz0 hz1 hz2 rfl (by decide) _ _ _ rfl (hown.alloc _) ⟨wr.heap.size, 0, none⟩ 1 1 [.string (s.extract f k)] rfl rfl ?c1 ?c2 ?c3 ?c4 ?c5 ?_)
        case c1 =>
          intro j u hj
          match j, hj with
          | 0, hj => simp at hj; subst hj; simp [Addr.add]
        case c2 => intro u hu; simp at hu; subst hu; rfl
        case c3 => unfold maxLen; omega
        case c4 => omega
        case c5 => simp; omega
        intro v' w2 hown' hgrow _
        go_wp2
        go_roundw
        case rel =>
          refine ⟨k + 1, k + 1, P ++ [(s.data.toList.drop f).take (k - f)], by go_num, by go_num, Nat.le_refl _, by omega, by simp; omega, ?_, (hb.alloc hsz _).grown hgrow (by simp; omega) (fun k hk => (hown.lt k hk).1), ?_⟩
          · rw [bI, ← wP, List.length_append]; exact hown'
          · show _ = _
            rw [← HR.out, HD.out, nY _ _ _ _ HC.out, List.append_assoc, Nat.sub_self, List.take_zero]; rfl
        case measure => simp [intOf]; omega
      · have hcb : ((s[k].toNat : Int) == (b.toNat : Int)) = false := vK (fun e => hc (UInt8.toNat_inj.1 (by omega)))
        go_wp2
        go_roundw
        case rel => exact ⟨k + 1, f, P, by go_num, rfl, by omega, by omega, by omega, hown, hb, by show _ = _; rw [← HR.out, HD.out, mM _ _ _ _ hc, nX s f k hfk hp]⟩
        case measure => simp [intOf]; omega
    · have hk2 : k = s.size := by omega
      have HD := Lib.hid (nE s k hp)
      have HE : Hid (P ++ [(s.data.toList.drop f).take (s.size - f)] = gT s b) := by
        show _ = _
        rw [← HR.out, HD.out, hk2]; rfl
      clear hk2
      go_wp2_with (at_builtin; refine kO _ rfl _ _ 50 rfl w.heap.size 9 i0 (.string ByteArray.empty) 1 16 Tryd.underlying50 hi hz0 hz1 hz2 rfl (by decide) _ _ _ rfl (hown.alloc _) ⟨wr.heap.size, 0, none⟩ 1 1 [.string (s.extract f s.size)] rfl rfl ?c1 ?c2 ?c3 ?c4 ?c5 ?_)
      case c1 =>
        intro j u hj
        match j, hj with
        | 0, hj => simp at hj; subst hj; simp [Addr.add]
      case c2 => intro u hu; simp at hu; subst hu; rfl
      case c3 => unfold maxLen; omega
      case c4 => omega
      case c5 => simp; omega
      intro v' w2 hown' hgrow _
      go_wp2
      go_ret
      refine ⟨v', rfl, ?_, (hb.alloc hsz _).grown hgrow (by simp; omega) (fun k hk => (hown.lt k hk).1)⟩
      rw [← HE.out, bI, ← wP, List.length_append]; exact hown'
end
section
theorem fA (t : List UInt8) : (mkS t).data.toList = t := by unfold mkS; simp
theorem k0 (t : List UInt8) : (mkS t).size = t.length := by unfold mkS; simp [ByteArray.size]
theorem mkS_append (a b : List UInt8) : mkS a ++ mkS b = mkS (a ++ b) := by
  unfold mkS; apply ByteArray.ext; simp
theorem mkS_size (a : List UInt8) : (mkS a).size = a.length := by unfold mkS; simp [ByteArray.size]
theorem Own.sublist {M : List Nat} {W w : World} {L L' : List Blk} (h : Own M W w L) (hs : List.Sublist L' L) : Own M W w L' := h.take (fun x hx => hs.subset hx) (h.apart.sublist (hs.map _))
theorem Own.lend {M : List Nat} {W w : World} {L : List Blk} (h : Own M W w L) : Own (L.map Blk.b) w w L :=
  ⟨rfl, rfl, rfl, Nat.le_refl _, Nat.le_refl _, fun _ _ _ => rfl, h.held, fun x hx => .inr (List.mem_map.2 ⟨x, hx, rfl⟩), h.apart⟩
section
variable {M : List Nat} {P : Program} {n : Nat} {ops : Array Oper} {W : World} {Q : Exit → Act → World → Prop} {L0 L : List Blk} {f : Nat → Value} {fuel : Nat} {listed : Array Bool} {rest : List Oper} {o : Oper}
theorem zO {k : FuncId} {args : Array Value} (R : Value → List Blk → Prop) (hw : xG ops n f o = true) (he : ∀ w, (execOp (ev n f) o).run P w = .ok (.enter k args) w)
    (hc : ∀ w, Own M W w L → Calls P k args w fun e w' => ∃ v L', e = .returned v ∧ R v L' ∧ Own M W w' L') (h : ∀ v L', R v L' → Seg M P n ops W Q rest L' (upd f o.dst v)) : Seg M P n ops W Q (o :: rest) L f :=
  vY hw fun w hO => dO (he w) ((hc w hO).mono fun e w' ⟨v, L', e1, e2, e3⟩ => ⟨v, e1, (h v L' e2).go w' e3⟩)
theorem vZ {k : IntKind} (i : Nat) (oi : Oper) (z : Int) (hi : ops[i]? = some oi) (hs : Region.noSelect ops = true) (hf : Region.free .any ops listed i = true) (hr : (Region.ready .any ops listed).contains i = true)
    (hQ : PQ Q) (hsub : ∀ w, Own M W w L → Own M W w L0) (hw : xG ops n f oi = true) (hrun : ∀ w, (execOp (ev n f) oi).run P w = .ok (.value (.int k (k.wrap z))) w) (hz : k.wrap z = z)
    (h : qM M P n ops W L0 Q fuel (listed.setIfInBounds i true) L (upd f oi.dst (.int k z))) : qM M P n ops W L0 Q (fuel + 1) listed L f :=
  hl_take i oi (.int k z) hi hs hf hr hQ hsub hw (fun w _ => by rw [hrun w, hz]) h
theorem Own.perm {w : World} {L' : List Blk} (h : Own M W w L) (hp : L.Perm L') : Own M W w L' :=
  h.take (fun x hx => hp.mem_iff.2 hx) ((hp.map Blk.b).nodup_iff.1 h.apart)
end
def SlT (v : Value) (l : List (List UInt8)) (ob : List Blk) : Prop := Sl 9 1 v l.length (gF l) ob
theorem SlT.form {v : Value} {l : List (List UInt8)} {ob : List Blk} (h : SlT v l ob) : ∃ A cap, v = .slice A l.length cap := by
  rcases h.2 with ⟨h1, h2, _⟩ | ⟨g, cap, cur, h1, _⟩
  · exact ⟨none, 0, by rw [h1, h2]⟩
  · exact ⟨_, _, h1⟩
theorem Own.row {w w' : World} {T sz n : Nat} {v : Value} {xs : List Value} (h : w'.ownsRow w.heap.size T sz v n xs) (hb : Below w.heap.size w w') : ∃ ob, Sl T sz v n xs ob ∧ Own [] w w' ob := by
  rcases h.2 with ⟨h1, h2⟩ | ⟨g, cap, cur, h1, h2, h3, h4, h5, h6, h7⟩
  · exact ⟨[], ⟨h.1, .inl ⟨h1, h2, rfl⟩⟩, ⟨hb.os, hb.tape, hb.output, hb.size, hb.drawn, fun k hk _ => hb.block k hk, by simp, by simp, by simp⟩⟩
  · refine ⟨[⟨g, cur, T⟩], ⟨h.1, .inr ⟨g, cap, cur, h1, rfl, h4, h5, h6, h7⟩⟩, ⟨hb.os, hb.tape, hb.output, hb.size, hb.drawn, fun k hk _ => hb.block k hk, ?_, ?_, by simp⟩⟩
    · intro x hx
      rw [List.mem_singleton.1 hx]; exact h3
    · intro x hx
      rw [List.mem_singleton.1 hx]; exact .inl h2
def tG (x : List UInt8) : List Value := [.string (mkS x)]
theorem vO (x : List UInt8) : (tG x).length = 1 := rfl
theorem j4 : ∀ (l : List (List UInt8)), gF l = l.flatMap tG
  | [] => rfl
  | x :: l => by
    show Value.string (mkS x) :: gF l = [Value.string (mkS x)] ++ l.flatMap tG
    rw [j4 l]; rfl
theorem SlT.reads {A : Option Addr} {n cap : Nat} {l : List (List UInt8)} {ob L : List Blk} {M : List Nat} {W w : World} (h : SlT (.slice A n cap) l ob) (hn : l.length = n) (hO : Own M W w L) (hs : ∀ x ∈ ob, x ∈ L) : Reads tG w w.heap.size A l := by
  subst hn
  unfold SlT at h
  rw [j4] at h
  exact Sl.reads h rfl hO hs
theorem Sl.to {T : TypeId} {sz : Nat} {v : Value} {n n' : Nat} {xs xs' : List Value} {ob : List Blk} (h : Sl T sz v n xs ob) (e : n = n') (e' : xs = xs') : Sl T sz v n' xs' ob := by subst e; subst e'; exact h
theorem Sl.form {T sz n : Nat} {v : Value} {xs : List Value} {ob : List Blk} (h : Sl T sz v n xs ob) : ∃ A cap, v = .slice A n cap := by
  rcases h.2 with ⟨h1, h2, _⟩ | ⟨g, cap, cur, h1, _⟩
  · exact ⟨none, 0, by rw [h1, h2]⟩
  · exact ⟨_, _, h1⟩
def EqOk (P : Program) (d : Nat) (xs ys : Array Value) : List Field → List Bool → Prop
  | [], [] => True
  | f :: fs, b :: bs => f.name ≠ "_" ∧ (∃ u v, ∀ w, (part f.type xs f.offset).run P w = .ok u w ∧ (part f.type ys f.offset).run P w = .ok v w ∧ (Op.equalIn d f.type u v).run P w = .ok b w) ∧ EqOk P d xs ys fs bs
  | _, _ => False
theorem eqF {P : Program} {d : Nat} {xs ys : Array Value} : ∀ (fs : List Field) (bs : List Bool), EqOk P d xs ys fs bs → ∀ w, (Op.eqFields d xs ys fs).run P w = .ok (bs.all id) w
  | [], [], _, w => rfl
  | f :: fs, b :: bs, h, w => by
    obtain ⟨h1, ⟨u, v, h2⟩, h3⟩ := h
    obtain ⟨e1, e2, e3⟩ := h2 w
    have ih := eqF fs bs h3 w
    unfold Op.eqFields
    rw [if_pos h1]
    simp only [Sem.run_bind, e1, e2, e3, Result.andThen_ok]
    cases b with
    | false => simp
    | true => simp [ih]
  | [], _ :: _, h, _ => h.elim
  | _ :: _, [], h, _ => h.elim
theorem eq_agg {P : Program} {d : Nat} {t : TypeId} {xs ys : Array Value} {fs : List Field} {bs : List Bool} (hu : P.underlying t = some (.struct fs.toArray)) (hp : P.stoodInHeld t = false) (h : EqOk P d xs ys fs bs) (w : World) :
    (Op.equalIn (d + 1) t (.agg xs) (.agg ys)).run P w = .ok (bs.all id) w := by
  have hf : P.fieldsOf t = fs.toArray := by unfold Program.fieldsOf; rw [hu]
  rw [run_equalIn_struct w d t xs ys (by rw [hf]; exact hu) hp, hf]
  have : fs.toArray.toList = fs := by simp
  rw [this]
  exact eqF fs bs h w
theorem pO (a b : List UInt8) : ((mkS a).toList == (mkS b).toList) = decide (a = b) := by
  rw [Lib.toList_data, Lib.toList_data, fA, fA]
  by_cases h : a = b
  · subst h; simp
  · rw [decide_eq_false h]; simpa using h
theorem pC {P : Program} {op : BinOp} {t : TypeId} {x y : Operand} {a b : ByteArray} (w : World) : (eqGuard op t x y (.string a) (.string b)).run P w = .ok () w := by cases op <;> simp [eqGuard]
theorem zV {P : Program} {ρ : Operand → Value} {o : Oper} {t t' : TypeId} {x y : Operand} {a b : List UInt8} {r : Bool} (ho : o.op = .binOp .eql t x y t') (hx : ρ x = .string (mkS a)) (hy : ρ y = .string (mkS b)) (h : decide (a = b) = r) (w : World) : (execOp ρ o).run P w = .ok (.value (.bool r)) w := by
  unfold execOp
  simp only [ho, hx, hy, Sem.run_bind, pC, Result.andThen_ok, binOp_string_eql, Sem.run_pure, pO, h]
theorem fJ (t : TypeId) (a b : ByteArray) : binOp .neq t (.string a) (.string b) = pure (.bool (!(a.toList == b.toList))) := by simp [binOp, Op.stringOp]
theorem xJ {P : Program} {ρ : Operand → Value} {o : Oper} {t t' : TypeId} {x y : Operand} {a b : List UInt8} {r : Bool} (ho : o.op = .binOp .neq t x y t') (hx : ρ x = .string (mkS a)) (hy : ρ y = .string (mkS b)) (h : decide (a = b) = r) (w : World) : (execOp ρ o).run P w = .ok (.value (.bool (!r))) w := by
  unfold execOp
  simp only [ho, hx, hy, Sem.run_bind, pC, Result.andThen_ok, fJ, Sem.run_pure, pO, h]
theorem all5 (a b c d e : Bool) : ([a, b, c, d, e].all id) = (a && (b && (c && (d && e)))) := by simp
theorem mA (a b : Int) : (a == b) = decide (a = b) := rfl
theorem nT {P : Program} {t : TypeId} {xs ys : Array Value} {b : Bool} (w : World) (h : (Op.equalIn 10000 t (.agg xs) (.agg ys)).run P w = .ok b w) : (binOp .neq t (.agg xs) (.agg ys)).run P w = .ok (.bool (!b)) w := by
  have e : binOp .neq t (.agg xs) (.agg ys) = (do let r ← Op.equalIn 10000 t (.agg xs) (.agg ys); pure (.bool (!r))) := by first | rfl | simp [binOp]
  rw [e]
  simp only [Sem.run_bind, h, Result.andThen_ok, Sem.run_pure]
theorem run_ne_op {P : Program} {ρ : Operand → Value} {o : Oper} {t t' : TypeId} {x y : Operand} {xs ys : Array Value} {b : Bool} (ho : o.op = .binOp .neq t x y t') (hx : ρ x = .agg xs) (hy : ρ y = .agg ys) (hm : P.eqGuardType P.depth t = false)
    (h : ∀ w, (Op.equalIn 10000 t (.agg xs) (.agg ys)).run P w = .ok b w) (w : World) : (execOp ρ o).run P w = .ok (.value (.bool (!b))) w := by
  have h1 := run_eqGuard_agg (P := P) w .neq t x y xs ys hm
  have h2 := nT w (h w)
  unfold execOp
  simp only [ho, hx, hy, Sem.run_bind, h1, Result.andThen_ok, h2, Sem.run_pure]
theorem Own.belowB {M : List Nat} {W w : World} {L : List Blk} {B : Nat} (h : Own M W w L) (hM : ∀ k ∈ M, B ≤ k) (hB : B ≤ W.heap.size) : Below B W w :=
  ⟨h.os, h.tape, h.output, h.size, h.drawn, fun k hk => h.kept k (Nat.lt_of_lt_of_le hk hB) fun hm => absurd (hM k hm) (Nat.not_le.2 hk)⟩
theorem Own.allB {M : List Nat} {W w : World} {L : List Blk} {B : Nat} (h : Own M W w L) (hM : ∀ k ∈ M, B ≤ k) (hB : B ≤ W.heap.size) : ∀ x ∈ L, B ≤ x.b := fun x hx => (h.base x hx).elim (fun q => Nat.le_trans hB q) (fun q => hM _ q)
theorem x4 {ob : List Blk} {B : Nat} (h : ∀ x ∈ ob, B ≤ x.b) : ∀ k ∈ ob.map Blk.b, B ≤ k := fun k hk => by
  obtain ⟨x, hx, rfl⟩ := List.mem_map.1 hk; exact h x hx
theorem Own.back {ob ob' R : List Blk} {M : List Nat} {W w w' : World} (h : Own M W w (ob ++ R)) (hc : Own (ob.map Blk.b) w w' ob') : Own M W w' (ob' ++ R) := Own.join h hc
theorem Own.lent {ob R : List Blk} {M : List Nat} {W w : World} (h : Own M W w (ob ++ R)) : Own (ob.map Blk.b) w w ob := Own.lend (h.sublist (List.sublist_append_left _ _))
end
section
section
variable {M : List Nat} {P : Program} {n : Nat} {ops : Array Oper} {W : World} {L0 : List Blk} {Q : Exit → Act → World → Prop} {fuel : Nat} {listed : Array Bool} {L : List Blk} {f : Nat → Value}
theorem h_loadm (i : Nat) (E : List Blk) (oi : Oper) (x : Blk) {ty : TypeId} {p : Operand} {off : Nat} (v : Value) (hi : ops[i]? = some oi) (hs : Region.noSelect ops = true) (hf : Region.free .any ops listed i = true) (hr : (Region.ready .any ops listed).contains i = true)
    (hQ : PQ Q) (hw : xG ops n f oi = true) (ho : oi.op = .load ty p) (hL : x ∈ L0) (hp : ev n f p = .pointer (some ⟨x.b, off, none⟩)) (hv : xQ P ty x.cs off = some v)
    (h : qM M P n ops W L0 Q fuel (listed.setIfInBounds i true) (E ++ L0) (upd f oi.dst v)) : qM M P n ops W L0 Q (fuel + 1) listed (E ++ L0) f :=
  gU i E oi v hi hs hf hr hQ hw (fun _ hO => yF ho hp (yO hv (hO.held x hL))) h
theorem hs_front {i : Nat} {E E' : List Blk} (p : E.Perm E') (h : j1 M P n ops W L0 Q fuel listed i (E' ++ L0) f) : j1 M P n ops W L0 Q fuel listed i (E ++ L0) f := ⟨fun w hO => h.go w (hO.perm (p.append_right L0))⟩
end
end
section
theorem mk_get (s : List UInt8) (k : Nat) (h : k < s.length) : (mkS s)[k]? = some s[k] := by
  have h2 : k < (mkS s).size := by rw [k0]; exact h
  rw [getElem?_pos (mkS s) k h2]
  congr 1
theorem dF {P : Program} {ρ : Operand → Value} {o : Oper} {t : TypeId} {x y : Operand} {s : List UInt8} {k : IntKind} {j : Int} (ho : o.op = .index t x y) (hx : ρ x = .string (mkS s)) (hy : ρ y = .int k j)
    (hu : P.underlying t = some .string) (h0 : 0 ≤ j) (h1 : j.toNat < s.length) (w : World) : (execOp ρ o).run P w = .ok (.value (.int .u8 (s[j.toNat].toNat : Int))) w := by
  unfold execOp
  have e := mk_get s j.toNat h1
  simp [ho, hx, hy, Instr.index, Sem.run_bind, asIntOf, run_underlying hu, h0, e]
theorem y9 {P : Program} {ρ : Operand → Value} {o : Oper} {t t' : TypeId} {x y : Operand} {a b : List UInt8} (ho : o.op = .binOp .add t x y t') (hx : ρ x = .string (mkS a)) (hy : ρ y = .string (mkS b)) (hb : a.length + b.length ≤ 4000000000) (w : World) : (execOp ρ o).run P w = .ok (.value (.string (mkS (a ++ b)))) w := by
  unfold execOp
  have h1 : ¬ (9223372036854775807 : Int) < ((mkS a).size : Int) + ((mkS b).size : Int) := by rw [k0, k0]; omega
  simp [ho, hx, hy, Sem.run_bind, eqGuard, binOp, Op.stringOp, mkS_append, h1]
theorem mP {P : Program} {ρ : Operand → Value} {o : Oper} {t t' : TypeId} {x y : Operand} {k q : IntKind} {i j : Int} (ho : o.op = .call { callee := .builtin .min, args := #[x, y], argTypes := #[t, t'] }) (hx : ρ x = .int k i) (hy : ρ y = .int q j) (w : World) : (execOp ρ o).run P w = .ok (.value (.int k (min i j))) w := by
  unfold execOp
  have e : min i j = if j < i then j else i := by split <;> omega
  simp [ho, resolve, invoke, builtin, Builtin.min_, Builtin.min2, hx, hy, e]
section
variable {M : List Nat} {P : Program} {n0 : Nat} {ops : Array Oper} {W : World} {Q : Exit → Act → World → Prop} {rest : List Oper} {o : Oper} {L : List Blk} {f : Nat → Value}
end
section
variable {M : List Nat} {P : Program} {n : Nat} {ops : Array Oper} {W : World} {L0 : List Blk} {Q : Exit → Act → World → Prop} {fuel : Nat} {listed : Array Bool} {f : Nat → Value}
end
end
section
section
variable {M : List Nat} {P : Program} {n : Nat} {ops : Array Oper} {W : World} {L0 : List Blk} {Q : Exit → Act → World → Prop} {fuel : Nat} {listed : Array Bool} {f : Nat → Value}
end
end
section
end
section
section
variable {M : List Nat} {P : Program} {n : Nat} {ops : Array Oper} {W : World} {L0 : List Blk} {Q : Exit → Act → World → Prop} {fuel : Nat} {listed : Array Bool} {f : Nat → Value}
theorem pZ {i : Nat} {L L' : List Blk} (e : L = L') (h : j1 M P n ops W L0 Q fuel listed i L' f) : j1 M P n ops W L0 Q fuel listed i L f := by subst e; exact h
end
end
section
structure Nd where
  op : Int
  a : Int
  b : Int
  key : Int
  text : List UInt8
deriving DecidableEq
inductive Tr where
  | is (k : Nat) (t : List UInt8)
  | no (x : Tr)
  | both (x y : Tr)
  | one (x y : Tr)
deriving DecidableEq
def Tr.sz : Tr → Nat
  | .is _ _ => 1
  | .no x => x.sz + 1
  | .both x y => x.sz + y.sz + 1
  | .one x y => x.sz + y.sz + 1
theorem Tr.sz_pos : ∀ t : Tr, 0 < t.sz
  | .is _ _ => Nat.one_pos
  | .no x => Nat.succ_pos _
  | .both x y => Nat.succ_pos _
  | .one x y => Nat.succ_pos _
def Tr.enc : Nat → Tr → List Nd
  | _, .is k t => [⟨1, 0, 0, k, t⟩]
  | o, .no x => x.enc o ++ [⟨2, ((o + x.sz - 1 : Nat) : Int), 0, 0, []⟩]
  | o, .both x y => x.enc o ++ y.enc (o + x.sz) ++ [⟨3, ((o + x.sz - 1 : Nat) : Int), ((o + x.sz + y.sz - 1 : Nat) : Int), 0, []⟩]
  | o, .one x y => x.enc o ++ y.enc (o + x.sz) ++ [⟨4, ((o + x.sz - 1 : Nat) : Int), ((o + x.sz + y.sz - 1 : Nat) : Int), 0, []⟩]
theorem Tr.enc_len : ∀ (t : Tr) (o : Nat), (t.enc o).length = t.sz
  | .is _ _, _ => rfl
  | .no x, o => by rw [enc, List.length_append, enc_len x o]; rfl
  | .both x y, o => by rw [enc, List.length_append, List.length_append, enc_len x o, enc_len y _]; rfl
  | .one x y, o => by rw [enc, List.length_append, List.length_append, enc_len x o, enc_len y _]; rfl
def wdL (s : List UInt8) : Bool := decide (1 ≤ s.length ∧ s.length ≤ 12) && kM s
def Tr.ok : Tr → Bool
  | .is k t => decide (k < 3) && wdL t
  | .no x => x.ok
  | .both x y => x.ok && y.ok
  | .one x y => x.ok && y.ok
def Tr.isOne : Tr → Bool
  | .one _ _ => true
  | _ => false
def Tr.isBin : Tr → Bool
  | .one _ _ => true
  | .both _ _ => true
  | _ => false
abbrev Tok := List UInt8
def yH (k : Nat) : Tok := if k = 0 then [111, 115] else if k = 1 then [97, 114, 99, 104] else [97, 98, 105]
def tEq : Tok := [61]
def tNe : Tok := [33, 61]
def yZ : Tok := [110, 111, 116]
def xB : Tok := [97, 110, 100]
def tOr : Tok := [111, 114]
def yP : Tok := [40]
def yC : Tok := [41]
def yR (c : Bool) (l : List Tok) : List Tok := if c then yP :: (l ++ [yC]) else l
def Tr.tok : Tr → List Tok
  | .is k t => [yH k, tEq, t]
  | .no (.is k t) => [yH k, tNe, t]
  | .no (.no x) => yZ :: (Tr.no x).tok
  | .no (.both x y) => yZ :: yR true (Tr.both x y).tok
  | .no (.one x y) => yZ :: yR true (Tr.one x y).tok
  | .both x y => yR x.isOne x.tok ++ xB :: yR y.isBin y.tok
  | .one x y => x.tok ++ tOr :: yR y.isOne y.tok
def Tr.text (t : Tr) : List UInt8 := x1 32 t.tok
theorem Tr.tok_no {x : Tr} (h : ∀ k t, x ≠ .is k t) : (Tr.no x).tok = yZ :: yR x.isBin x.tok := by
  cases x with
  | is k t => exact absurd rfl (h k t)
  | no x => rfl
  | both x y => rfl
  | one x y => rfl
theorem Tr.tok_ne : ∀ t : Tr, t.tok ≠ []
  | .is k t => by rw [tok]; simp
  | .no (.is k t) => by rw [tok]; simp
  | .no (.no x) => by rw [tok]; simp
  | .no (.both x y) => by rw [tok]; simp
  | .no (.one x y) => by rw [tok]; simp
  | .both x y => by rw [tok]; simp
  | .one x y => by rw [tok]; simp
def bS (k : Tok) : Option Nat := if k = yH 0 then some 0 else if k = yH 1 then some 1 else if k = yH 2 then some 2 else none
def gQ (k s v : Tok) : Option Tr := match bS k with
  | none => none
  | some n => if wdL v then (if s = tEq then some (.is n v) else if s = tNe then some (.no (.is n v)) else none) else none
def kL (part : List Tok → Option (Tr × List Tok)) (w : Tok) (mk : Tr → Tr → Tr) : Nat → Tr → List Tok → Option (Tr × List Tok)
  | 0, a, ts => some (a, ts)
  | _ + 1, a, [] => some (a, [])
  | k + 1, a, c :: r => if c = w then (match part r with | none => none | some (b, r') => kL part w mk k (mk a b) r') else some (a, c :: r)
def x9 (part : List Tok → Option (Tr × List Tok)) (w : Tok) (mk : Tr → Tr → Tr) (ts : List Tok) : Option (Tr × List Tok) := match part ts with
  | none => none
  | some (a, r) => kL part w mk r.length a r
def kP : List Tok → Option (Tr × List Tok)
  | k :: s :: v :: r => match gQ k s v with | none => none | some t => some (t, r)
  | _ => none
def jO : Option (Tr × List Tok) → Option (Tr × List Tok)
  | some (t, c :: r) => if c = yC then some (t, r) else none
  | _ => none
def pNo : Option (Tr × List Tok) → Option (Tr × List Tok)
  | some (t, r) => some (.no t, r)
  | none => none
def xO : Nat → List Tok → Option (Tr × List Tok)
  | 0, _ => none
  | _ + 1, [] => none
  | n + 1, c :: r => if c = yZ then pNo (xO n r) else if c = yP then jO (x9 (x9 (xO n) xB .both) tOr .one r) else kP (c :: r)
def qK (n : Nat) : List Tok → Option (Tr × List Tok) := x9 (xO n) xB .both
def pOr (n : Nat) : List Tok → Option (Tr × List Tok) := x9 (qK n) tOr .one
theorem qR (n : Nat) (r : List Tok) : xO (n + 1) (yP :: r) = jO (pOr n r) := rfl
theorem vT (n : Nat) (r : List Tok) : xO (n + 1) (yZ :: r) = pNo (xO n r) := rfl
def Eats (part : List Tok → Option (Tr × List Tok)) : Prop := ∀ ts t r, part ts = some (t, r) → r.length < ts.length
theorem mW {part : List Tok → Option (Tr × List Tok)} (hp : Eats part) (w : Tok) (mk : Tr → Tr → Tr) : ∀ (k : Nat) (a : Tr) (ts : List Tok) (t : Tr) (r : List Tok), kL part w mk k a ts = some (t, r) → r.length ≤ ts.length
  | 0, a, ts, t, r, h => by simp only [kL, Option.some.injEq, Prod.mk.injEq] at h; rw [h.2]; exact Nat.le_refl _
  | k + 1, a, [], t, r, h => by simp only [kL, Option.some.injEq, Prod.mk.injEq] at h; rw [h.2]; exact Nat.le_refl _
  | k + 1, a, c :: q, t, r, h => by
    rw [kL] at h
    split at h
    · cases hq : part q with
      | none => rw [hq] at h; cases h
      | some x =>
        obtain ⟨b, r'⟩ := x
        rw [hq] at h
        have h1 := hp _ _ _ hq
        have h2 := mW hp w mk k (mk a b) r' t r h
        simp only [List.length_cons]; omega
    · simp only [Option.some.injEq, Prod.mk.injEq] at h; rw [← h.2]; exact Nat.le_refl _
theorem b9 {part : List Tok → Option (Tr × List Tok)} (hp : Eats part) (w : Tok) (mk : Tr → Tr → Tr) : Eats (x9 part w mk) := fun ts t r h => by
  unfold x9 at h
  cases hq : part ts with
  | none => rw [hq] at h; cases h
  | some x =>
    obtain ⟨a, r'⟩ := x
    rw [hq] at h
    have h1 := hp _ _ _ hq
    have h2 := mW hp w mk _ _ _ _ _ h
    omega
theorem jT : ∀ n, Eats (xO n)
  | 0 => fun ts t r h => by cases h
  | n + 1 => fun ts t r h => by
    have ih := jT n
    cases ts with
    | nil => cases h
    | cons c q =>
      rw [xO] at h
      split at h
      · cases hq : xO n q with
        | none => rw [hq] at h; cases h
        | some x =>
          obtain ⟨a, r'⟩ := x
          rw [hq] at h
          simp only [pNo, Option.some.injEq, Prod.mk.injEq] at h
          have h1 := ih _ _ _ hq
          rw [← h.2, List.length_cons]; omega
      · split at h
        · cases hq : x9 (x9 (xO n) xB .both) tOr .one q with
          | none => rw [hq] at h; cases h
          | some x =>
            obtain ⟨a, r'⟩ := x
            rw [hq] at h
            have h1 := b9 (b9 ih _ _) _ _ _ _ _ hq
            cases r' with
            | nil => cases h
            | cons d r2 =>
              rw [jO] at h
              split at h
              · simp only [Option.some.injEq, Prod.mk.injEq] at h
                rw [← h.2, List.length_cons]; simp only [List.length_cons] at h1; omega
              · cases h
        · match q, h with
          | s :: v :: q, h =>
            rw [kP] at h
            cases ha : gQ c s v with
            | none => rw [ha] at h; cases h
            | some x => rw [ha] at h; simp only [Option.some.injEq, Prod.mk.injEq] at h; rw [← h.2]; simp only [List.length_cons]; omega
          | [], h => cases h
          | [s], h => cases h
theorem fQ (n : Nat) : Eats (qK n) := b9 (jT n) _ _
theorem jA {part : List Tok → Option (Tr × List Tok)} (hp : Eats part) (w : Tok) (mk : Tr → Tr → Tr) : ∀ (k : Nat) (a : Tr) (ts : List Tok) (m : Nat), ts.length ≤ k → ts.length ≤ m → kL part w mk k a ts = kL part w mk m a ts
  | 0, a, ts, m, h, h2 => by
    obtain rfl := List.eq_nil_of_length_eq_zero (Nat.le_zero.1 h)
    cases m <;> rfl
  | k + 1, a, [], m, h, h2 => by cases m <;> rfl
  | k + 1, a, c :: q, 0, h, h2 => by simp at h2
  | k + 1, a, c :: q, m + 1, h, h2 => by
    rw [kL, kL]
    split
    · cases hq : part q with
      | none => rfl
      | some x =>
        obtain ⟨b, r'⟩ := x
        have h1 := hp _ _ _ hq
        simp only [List.length_cons] at h h2
        exact jA hp w mk k (mk a b) r' m (by omega) (by omega)
    · rfl
theorem kF (part : List Tok → Option (Tr × List Tok)) (w : Tok) (mk : Tr → Tr → Tr) (k : Nat) (a : Tr) (ts : List Tok) (h : ts.head? ≠ some w) : kL part w mk k a ts = some (a, ts) := by
  cases k with
  | zero => rfl
  | succ k =>
    cases ts with
    | nil => rfl
    | cons c r => rw [kL, if_neg (fun e => h (by rw [e]; rfl))]
theorem keyN_L {k : Nat} (h : k < 3) : bS (yH k) = some k := by
  match k, h with
  | 0, _ => rfl
  | 1, _ => rfl
  | 2, _ => rfl
theorem key_ne (k : Nat) : yH k ≠ yZ ∧ yH k ≠ yP := by
  unfold yH
  split
  · decide
  · split <;> decide
theorem atom_is {k : Nat} {v : Tok} (h : k < 3) (hv : wdL v = true) : gQ (yH k) tEq v = some (.is k v) := by
  unfold gQ; rw [keyN_L h]; simp [hv]
theorem atom_no {k : Nat} {v : Tok} (h : k < 3) (hv : wdL v = true) : gQ (yH k) tNe v = some (.no (.is k v)) := by
  unfold gQ; rw [keyN_L h]; simp [hv, show tNe ≠ tEq from by decide]
theorem fac_atom (n : Nat) {k : Nat} (s v : Tok) (r : List Tok) : xO (n + 1) (yH k :: s :: v :: r) = kP (yH k :: s :: v :: r) := by
  rw [xO, if_neg (key_ne k).1, if_neg (key_ne k).2]
def AndAt (t : Tr) : Prop := ∀ (n : Nat) (rest : List Tok), (t.tok ++ rest).length ≤ n → qK n (t.tok ++ rest) = kL (xO n) xB .both rest.length t rest
def OrAt (t : Tr) : Prop := ∀ (n : Nat) (rest : List Tok), (t.tok ++ rest).length ≤ n → rest.head? ≠ some xB → pOr n (t.tok ++ rest) = kL (qK n) tOr .one rest.length t rest
def pK (t : Tr) : Prop := ∀ (n : Nat) (rest : List Tok), (yR t.isBin t.tok ++ rest).length ≤ n → xO n (yR t.isBin t.tok ++ rest) = some (t, rest)
theorem nH {t : Tr} (hb : t.isBin = false) (h : pK t) : AndAt t := fun n rest hn => by
  have hf := h n rest (by rw [hb]; exact hn)
  rw [hb] at hf
  unfold qK x9
  rw [show yR false t.tok = t.tok from rfl] at hf
  rw [hf]
theorem fR {t : Tr} (h : AndAt t) : OrAt t := fun n rest hn hh => by
  unfold pOr x9
  rw [h n rest hn, kF _ _ _ _ _ _ hh]
theorem pD {t : Tr} (hb : t.isBin = true) (h : OrAt t) : pK t := fun n rest hn => by
  rw [hb] at hn ⊢
  have e : yR true t.tok ++ rest = yP :: (t.tok ++ yC :: rest) := by simp [yR]
  rw [e] at hn ⊢
  match n, hn with
  | 0, hn => simp at hn
  | n + 1, hn =>
    simp only [List.length_cons] at hn
    rw [qR, h n (yC :: rest) (by omega) (by simp [yC, xB]), kF _ _ _ _ _ _ (by simp [yC, tOr])]
    rfl
theorem dM {t : Tr} (hb : t.isOne = true) (h : pK t) : ∀ (n : Nat) (rest : List Tok), (yR t.isOne t.tok ++ rest).length ≤ n → xO n (yR t.isOne t.tok ++ rest) = some (t, rest) := fun n rest hn => by
  have e : t.isBin = t.isOne := by cases t <;> first | rfl | cases hb
  rw [← e] at hn ⊢
  exact h n rest hn
theorem qV : ∀ t : Tr, t.ok = true → pK t ∧ (t.isOne = false → AndAt t) ∧ OrAt t
  | .is k v, h => by
    unfold Tr.ok at h
    simp only [Bool.and_eq_true, decide_eq_true_eq] at h
    have hf : pK (.is k v) := fun n rest hn => by
      match n, hn with
      | 0, hn => simp [yR, Tr.isBin, Tr.tok] at hn
      | n + 1, hn =>
        show xO (n + 1) (yH k :: tEq :: v :: rest) = _
        rw [fac_atom, kP, atom_is h.1 h.2]
    have ha := nH rfl hf
    exact ⟨hf, fun _ => ha, fR ha⟩
  | .no x, h => by
    have hx : x.ok = true := h
    have hf : pK (.no x) := by
      cases x with
      | is k v =>
        unfold Tr.ok at hx
        simp only [Bool.and_eq_true, decide_eq_true_eq] at hx
        exact fun n rest hn => by
          match n, hn with
          | 0, hn => simp [yR, Tr.isBin, Tr.tok] at hn
          | n + 1, hn =>
            show xO (n + 1) (yH k :: tNe :: v :: rest) = _
            rw [fac_atom, kP, atom_no hx.1 hx.2]
      | no y =>
        have ih := (qV (.no y) hx).1
        exact fun n rest hn => by
          match n, hn with
          | 0, hn => simp [yR, Tr.isBin, Tr.tok] at hn
          | n + 1, hn =>
            have hn2 : (yR (Tr.no y).isBin (Tr.no y).tok ++ rest).length ≤ n := by
              have e : (yR (Tr.no (.no y)).isBin (Tr.no (.no y)).tok ++ rest).length = ((Tr.no y).tok ++ rest).length + 1 := by rw [Tr.tok]; simp [yR, Tr.isBin]
              rw [e] at hn
              show ((Tr.no y).tok ++ rest).length ≤ n
              omega
            show xO (n + 1) ((Tr.no (.no y)).tok ++ rest) = _
            rw [Tr.tok, List.cons_append, vT]
            have := ih n rest hn2
            rw [show yR (Tr.no y).isBin (Tr.no y).tok = (Tr.no y).tok from rfl] at this
            rw [this]; rfl
      | both y z =>
        have ih := (qV (.both y z) hx).1
        exact fun n rest hn => by
          match n, hn with
          | 0, hn => simp [yR, Tr.isBin, Tr.tok] at hn
          | n + 1, hn =>
            have e : yR (Tr.no (.both y z)).isBin (Tr.no (.both y z)).tok = yZ :: yR true (Tr.both y z).tok := by rw [Tr.tok]; rfl
            rw [e, List.cons_append] at hn ⊢
            simp only [List.length_cons] at hn
            rw [vT]
            have := ih n rest (by show (yR true (Tr.both y z).tok ++ rest).length ≤ n; omega)
            rw [show yR (Tr.both y z).isBin (Tr.both y z).tok = yR true (Tr.both y z).tok from rfl] at this
            rw [this]; rfl
      | one y z =>
        have ih := (qV (.one y z) hx).1
        exact fun n rest hn => by
          match n, hn with
          | 0, hn => simp [yR, Tr.isBin, Tr.tok] at hn
          | n + 1, hn =>
            have e : yR (Tr.no (.one y z)).isBin (Tr.no (.one y z)).tok = yZ :: yR true (Tr.one y z).tok := by rw [Tr.tok]; rfl
            rw [e, List.cons_append] at hn ⊢
            simp only [List.length_cons] at hn
            rw [vT]
            have := ih n rest (by show (yR true (Tr.one y z).tok ++ rest).length ≤ n; omega)
            rw [show yR (Tr.one y z).isBin (Tr.one y z).tok = yR true (Tr.one y z).tok from rfl] at this
            rw [this]; rfl
    have ha := nH rfl hf
    exact ⟨hf, fun _ => ha, fR ha⟩
  | .both x y, h => by
    unfold Tr.ok at h
    rw [Bool.and_eq_true] at h
    have ihx := qV x h.1
    have ihy := (qV y h.2).1
    have ha : AndAt (.both x y) := fun n rest hn => by
      have e : (Tr.both x y).tok ++ rest = yR x.isOne x.tok ++ (xB :: (yR y.isBin y.tok ++ rest)) := by rw [Tr.tok]; simp
      rw [e] at hn ⊢
      have hy := ihy n rest (by simp only [List.length_append, List.length_cons] at hn ⊢; omega)
      have step : kL (xO n) xB .both (xB :: (yR y.isBin y.tok ++ rest)).length x (xB :: (yR y.isBin y.tok ++ rest)) = kL (xO n) xB .both rest.length (.both x y) rest := by
        rw [List.length_cons, kL, if_pos rfl, hy]
        exact jA (jT n) _ _ _ _ _ _ (by simp) (Nat.le_refl _)
      cases hx1 : x.isOne with
      | false =>
        rw [hx1] at hn
        have := ihx.2.1 hx1 n (xB :: (yR y.isBin y.tok ++ rest)) hn
        show qK n (x.tok ++ _) = _
        rw [this, step]
      | true =>
        have := dM hx1 ihx.1 n (xB :: (yR y.isBin y.tok ++ rest)) hn
        rw [hx1] at this
        unfold qK x9
        rw [this]
        exact step
    have ho := fR ha
    exact ⟨pD rfl ho, fun _ => ha, ho⟩
  | .one x y, h => by
    unfold Tr.ok at h
    rw [Bool.and_eq_true] at h
    have ihx := (qV x h.1).2.2
    have ihy := qV y h.2
    have ho : OrAt (.one x y) := fun n rest hn hh => by
      have e : (Tr.one x y).tok ++ rest = x.tok ++ (tOr :: (yR y.isOne y.tok ++ rest)) := by rw [Tr.tok]; simp
      rw [e] at hn ⊢
      have hyA : qK n (yR y.isOne y.tok ++ rest) = some (y, rest) := by
        cases hy1 : y.isOne with
        | false =>
          rw [hy1] at hn
          have := ihy.2.1 hy1 n rest (by simp only [List.length_append, List.length_cons, yR] at hn ⊢; simp at hn; omega)
          show qK n (y.tok ++ rest) = _
          rw [this, kF _ _ _ _ _ _ hh]
        | true =>
          have := dM hy1 ihy.1 n rest (by simp only [List.length_append, List.length_cons] at hn ⊢; omega)
          rw [hy1] at this
          unfold qK x9
          rw [this]
          exact kF _ _ _ _ _ _ hh
      rw [ihx n (tOr :: (yR y.isOne y.tok ++ rest)) hn (by simp [tOr, xB]), List.length_cons, kL, if_pos rfl, hyA]
      exact jA (fQ n) _ _ _ _ _ _ (by simp) (Nat.le_refl _)
    exact ⟨pD rfl ho, by intro e; exact absurd e (by simp [Tr.isOne]), ho⟩
theorem or_reads {t : Tr} (h : t.ok = true) {n : Nat} (hn : t.tok.length ≤ n) : pOr n t.tok = some (t, []) := by
  have := (qV t h).2.2 n [] (by simpa using hn) (by simp)
  rw [List.append_nil] at this
  rw [this]; rfl
end
section
def xH (n : Nd) : Bool := decide (n.op = 1) && decide (0 ≤ n.key) && decide (n.key < 3) && wdL n.text && decide (n.a = 0) && decide (n.b = 0)
def k8 (n : Nd) : Bool := decide (n.key = 0) && decide (n.text = [])
def kH (st : List (Nat × Tr)) (n : Nd) : Bool := match st with
  | p :: _ => decide (n.op = 2) && k8 n && decide (n.a = (p.1 : Int)) && decide (n.b = 0)
  | [] => false
def isBin (st : List (Nat × Tr)) (n : Nd) : Bool := match st with
  | p :: q :: _ => (decide (n.op = 3) || decide (n.op = 4)) && k8 n && decide (n.a = (q.1 : Int)) && decide (n.b = (p.1 : Int))
  | _ => false
def stp (i : Nat) (st : List (Nat × Tr)) (n : Nd) : Option (List (Nat × Tr)) :=
  if xH n then some ((i, .is n.key.toNat n.text) :: st)
  else if kH st n then (match st with | p :: r => some ((i, .no p.2) :: r) | [] => none)
  else if isBin st n then (match st with | p :: q :: r => some ((i, if n.op = 3 then .both q.2 p.2 else .one q.2 p.2) :: r) | _ => none)
  else none
def gA : Nat → List (Nat × Tr) → List Nd → Option (List (Nat × Tr))
  | _, st, [] => some st
  | i, st, n :: r => match stp i st n with | some s => gA (i + 1) s r | none => none
def gN (l : List Nd) : Option Tr := match gA 0 [] l with
  | some [p] => some p.2
  | _ => none
theorem jS : ∀ (a b : List Nd) (i : Nat) (st s : List (Nat × Tr)), gA i st a = some s → gA i st (a ++ b) = gA (i + a.length) s b
  | [], b, i, st, s, h => by rw [gA] at h; obtain rfl := Option.some.inj h; rfl
  | n :: a, b, i, st, s, h => by
    rw [gA] at h
    rw [List.cons_append, gA]
    cases hs : stp i st n with
    | none => rw [hs] at h; cases h
    | some s' =>
      rw [hs] at h
      have := jS a b (i + 1) s' s h
      show gA (i + 1) s' (a ++ b) = _
      rw [this, List.length_cons, show i + 1 + a.length = i + (a.length + 1) by omega]
theorem dT {o i j : Nat} {st : List (Nat × Tr)} {n : Nd} (h : n.op ≠ 1) : xH n = false := by
  unfold xH; rw [decide_eq_false h]; rfl
theorem wH : ∀ (t : Tr) (o : Nat) (st : List (Nat × Tr)), t.ok = true → gA o st (t.enc o) = some ((o + t.sz - 1, t) :: st)
  | .is k v, o, st, h => by
    unfold Tr.ok at h
    simp only [Bool.and_eq_true, decide_eq_true_eq] at h
    have hl : xH ⟨1, 0, 0, (k : Int), v⟩ = true := by unfold xH; simp [h.2]; omega
    show gA o st [⟨1, 0, 0, (k : Int), v⟩] = _
    have hs : stp o st ⟨1, 0, 0, (k : Int), v⟩ = some ((o, .is k v) :: st) := by unfold stp; rw [if_pos hl]; simp
    rw [gA, hs]
    simp [gA, Tr.sz]
  | .no x, o, st, h => by
    have hx : x.ok = true := h
    have ih := wH x o st hx
    have hz := x.sz_pos
    rw [Tr.enc, jS _ _ _ _ _ ih, Tr.enc_len, gA, stp, if_neg (by rw [dT (o := 0) (i := 0) (j := 0) (st := [])] <;> simp)]
    have hn : kH ((o + x.sz - 1, x) :: st) ⟨2, ((o + x.sz - 1 : Nat) : Int), 0, 0, []⟩ = true := by unfold kH k8; simp
    rw [if_pos hn]
    show gA _ _ [] = _
    rw [gA, show o + x.sz = o + (Tr.no x).sz - 1 from by show _ = o + (x.sz + 1) - 1; omega]
  | .both x y, o, st, h => by
    unfold Tr.ok at h
    rw [Bool.and_eq_true] at h
    have hx := wH x o st h.1
    have hy := wH y (o + x.sz) ((o + x.sz - 1, x) :: st) h.2
    have hz := x.sz_pos
    have hz2 := y.sz_pos
    rw [Tr.enc, List.append_assoc, jS _ _ _ _ _ hx, Tr.enc_len, jS _ _ _ _ _ hy, Tr.enc_len, gA, stp, if_neg (by rw [dT (o := 0) (i := 0) (j := 0) (st := [])] <;> simp)]
    have hn : kH ((o + x.sz + y.sz - 1, y) :: (o + x.sz - 1, x) :: st) ⟨3, ((o + x.sz - 1 : Nat) : Int), ((o + x.sz + y.sz - 1 : Nat) : Int), 0, []⟩ = false := by unfold kH; simp
    have hb : isBin ((o + x.sz + y.sz - 1, y) :: (o + x.sz - 1, x) :: st) ⟨3, ((o + x.sz - 1 : Nat) : Int), ((o + x.sz + y.sz - 1 : Nat) : Int), 0, []⟩ = true := by unfold isBin k8; simp
    rw [if_neg (by rw [hn]; simp), if_pos hb]
    show gA _ _ [] = _
    rw [gA, show o + x.sz + y.sz = o + (Tr.both x y).sz - 1 from by show _ = o + (x.sz + y.sz + 1) - 1; omega]; rfl
  | .one x y, o, st, h => by
    unfold Tr.ok at h
    rw [Bool.and_eq_true] at h
    have hx := wH x o st h.1
    have hy := wH y (o + x.sz) ((o + x.sz - 1, x) :: st) h.2
    have hz := x.sz_pos
    have hz2 := y.sz_pos
    rw [Tr.enc, List.append_assoc, jS _ _ _ _ _ hx, Tr.enc_len, jS _ _ _ _ _ hy, Tr.enc_len, gA, stp, if_neg (by rw [dT (o := 0) (i := 0) (j := 0) (st := [])] <;> simp)]
    have hn : kH ((o + x.sz + y.sz - 1, y) :: (o + x.sz - 1, x) :: st) ⟨4, ((o + x.sz - 1 : Nat) : Int), ((o + x.sz + y.sz - 1 : Nat) : Int), 0, []⟩ = false := by unfold kH; simp
    have hb : isBin ((o + x.sz + y.sz - 1, y) :: (o + x.sz - 1, x) :: st) ⟨4, ((o + x.sz - 1 : Nat) : Int), ((o + x.sz + y.sz - 1 : Nat) : Int), 0, []⟩ = true := by unfold isBin k8; simp
    rw [if_neg (by rw [hn]; simp), if_pos hb]
    show gA _ _ [] = _
    rw [gA, show o + x.sz + y.sz = o + (Tr.one x y).sz - 1 from by show _ = o + (x.sz + y.sz + 1) - 1; omega]; rfl
def bC : List (Nat × Tr) → List Nd → Prop
  | [], l => l = []
  | p :: r, l => ∃ l0, bC r l0 ∧ p.2.ok = true ∧ p.1 = l0.length + p.2.sz - 1 ∧ l = l0 ++ p.2.enc l0.length
theorem stp_lies {st s : List (Nat × Tr)} {l : List Nd} {n : Nd} (h : bC st l) (hs : stp l.length st n = some s) : bC s (l ++ [n]) := by
  unfold stp at hs
  split at hs
  · rename_i hl
    obtain rfl := Option.some.inj hs
    unfold xH at hl
    simp only [Bool.and_eq_true, decide_eq_true_eq] at hl
    obtain ⟨⟨⟨⟨⟨h1, h2⟩, h3⟩, h4⟩, h5⟩, h6⟩ := hl
    refine ⟨l, h, ?_, ?_, ?_⟩
    · show Tr.ok (.is n.key.toNat n.text) = true
      unfold Tr.ok; simp [h4]; omega
    · show l.length = l.length + 1 - 1; omega
    · show l ++ [n] = l ++ [⟨1, 0, 0, ((n.key.toNat : Nat) : Int), n.text⟩]
      obtain ⟨op, a, b, key, text⟩ := n
      simp only at h1 h2 h3 h4 h5 h6
      subst h1; subst h5; subst h6
      rw [Int.toNat_of_nonneg h2]
  · split at hs
    · rename_i hl
      match st, hs, hl, h with
      | p :: r, hs, hl, h =>
        simp only [Option.some.injEq] at hs
        subst hs
        unfold kH k8 at hl
        simp only [Bool.and_eq_true, decide_eq_true_eq] at hl
        obtain ⟨⟨⟨h1, h2, h3⟩, h4⟩, h5⟩ := hl
        obtain ⟨l0, hr, hok, hp, rfl⟩ := h
        refine ⟨l0, hr, hok, ?_, ?_⟩
        · show (l0 ++ p.2.enc l0.length).length = l0.length + (p.2.sz + 1) - 1
          rw [List.length_append, Tr.enc_len]; omega
        · show l0 ++ p.2.enc l0.length ++ [n] = l0 ++ (p.2.enc l0.length ++ [⟨2, ((l0.length + p.2.sz - 1 : Nat) : Int), 0, 0, []⟩])
          obtain ⟨op, a, b, key, text⟩ := n
          simp only at h1 h2 h3 h4 h5
          subst h1; subst h2; subst h3; subst h4; subst h5
          rw [List.append_assoc, hp]
    · split at hs
      · rename_i hl
        match st, hs, hl, h with
        | p :: q :: r, hs, hl, h =>
          simp only [Option.some.injEq] at hs
          subst hs
          unfold isBin k8 at hl
          simp only [Bool.and_eq_true, Bool.or_eq_true, decide_eq_true_eq] at hl
          obtain ⟨⟨⟨h1, h2, h3⟩, h4⟩, h5⟩ := hl
          obtain ⟨l1, ⟨l0, hr, hok, hq, rfl⟩, hok2, hp, rfl⟩ := h
          have hz := q.2.sz_pos
          have hl1 : (l0 ++ q.2.enc l0.length).length = l0.length + q.2.sz := by rw [List.length_append, Tr.enc_len]
          rw [hl1] at hp ⊢
          obtain ⟨op, a, b, key, text⟩ := n
          simp only at h1 h2 h3 h4 h5
          subst h2; subst h3; subst h4; subst h5
          rcases h1 with h1 | h1
          · subst h1
            refine ⟨l0, hr, ?_, ?_, ?_⟩
            · show (Tr.both q.2 p.2).ok = true
              unfold Tr.ok; rw [hok, hok2]; rfl
            · show (l0 ++ q.2.enc l0.length ++ p.2.enc (l0.length + q.2.sz)).length = l0.length + (q.2.sz + p.2.sz + 1) - 1
              rw [List.length_append, List.length_append, Tr.enc_len, Tr.enc_len]; omega
            · show l0 ++ q.2.enc l0.length ++ p.2.enc (l0.length + q.2.sz) ++ [_] = l0 ++ (q.2.enc l0.length ++ p.2.enc (l0.length + q.2.sz) ++ [_])
              rw [hq, hp]; simp
          · subst h1
            refine ⟨l0, hr, ?_, ?_, ?_⟩
            · show (Tr.one q.2 p.2).ok = true
              unfold Tr.ok; rw [hok, hok2]; rfl
            · show (l0 ++ q.2.enc l0.length ++ p.2.enc (l0.length + q.2.sz)).length = l0.length + (q.2.sz + p.2.sz + 1) - 1
              rw [List.length_append, List.length_append, Tr.enc_len, Tr.enc_len]; omega
            · show l0 ++ q.2.enc l0.length ++ p.2.enc (l0.length + q.2.sz) ++ [_] = l0 ++ (q.2.enc l0.length ++ p.2.enc (l0.length + q.2.sz) ++ [_])
              rw [hq, hp]; simp
      · cases hs
theorem mQ : ∀ (r l : List Nd) (st s : List (Nat × Tr)), bC st l → gA l.length st r = some s → bC s (l ++ r)
  | [], l, st, s, h, hs => by rw [gA] at hs; obtain rfl := Option.some.inj hs; rw [List.append_nil]; exact h
  | n :: r, l, st, s, h, hs => by
    rw [gA] at hs
    cases hq : stp l.length st n with
    | none => rw [hq] at hs; cases hs
    | some s1 =>
      rw [hq] at hs
      have h1 := stp_lies h hq
      have := mQ r (l ++ [n]) s1 s h1 (by rw [List.length_append]; exact hs)
      rw [List.append_assoc] at this
      exact this
theorem treeOf_iff {l : List Nd} {t : Tr} : gN l = some t ↔ t.ok = true ∧ l = t.enc 0 := by
  constructor
  · intro h
    unfold gN at h
    cases hr : gA 0 [] l with
    | none => rw [hr] at h; cases h
    | some s =>
      rw [hr] at h
      match s, h with
      | [p], h =>
        obtain rfl := Option.some.inj h
        obtain ⟨l0, hl0, hok, _, e⟩ := mQ l [] [] [p] rfl hr
        have : l0 = [] := hl0
        subst this
        exact ⟨hok, e⟩
  · rintro ⟨h, rfl⟩
    unfold gN
    rw [wH t 0 [] h]
theorem g8 {t : Tr} (h : t.ok = true) : gN (t.enc 0) = some t := treeOf_iff.2 ⟨h, rfl⟩
def kB (l : List Nd) : Bool := match gN l with
  | some t => decide (t.sz ≤ 15) && decide (t.text.length ≤ 96)
  | none => decide (l = [])
theorem dC : gN [] = none := rfl
theorem kG {l : List Nd} (h : kB l = true) : l = [] ∨ ∃ t : Tr, t.ok = true ∧ l = t.enc 0 ∧ t.sz ≤ 15 ∧ t.text.length ≤ 96 := by
  unfold kB at h
  cases ht : gN l with
  | none => rw [ht] at h; exact .inl (of_decide_eq_true h)
  | some t =>
    rw [ht] at h
    simp only [Bool.and_eq_true, decide_eq_true_eq] at h
    have := treeOf_iff.1 ht
    exact .inr ⟨t, this.1, this.2, h.1, h.2⟩
theorem fC {t : Tr} (h : t.ok = true) : kB (t.enc 0) = (decide (t.sz ≤ 15) && decide (t.text.length ≤ 96)) := by unfold kB; rw [g8 h]
abbrev Pf := Nat → List UInt8
def evT (e : Pf) : Tr → Int
  | .is k t => if e k = [] then 1 else if e k = t then 2 else 0
  | .no x => 2 - evT e x
  | .both x y => min (evT e x) (evT e y)
  | .one x y => max (evT e x) (evT e y)
def vlT (e : Pf) : Tr → List Int
  | .is k t => [evT e (.is k t)]
  | .no x => vlT e x ++ [evT e (.no x)]
  | .both x y => vlT e x ++ vlT e y ++ [evT e (.both x y)]
  | .one x y => vlT e x ++ vlT e y ++ [evT e (.one x y)]
theorem zQ (e : Pf) : ∀ t : Tr, (vlT e t).length = t.sz
  | .is _ _ => rfl
  | .no x => by rw [vlT, List.length_append, zQ e x]; rfl
  | .both x y => by rw [vlT, List.length_append, List.length_append, zQ e x, zQ e y]; rfl
  | .one x y => by rw [vlT, List.length_append, List.length_append, zQ e x, zQ e y]; rfl
theorem vN (e : Pf) : ∀ t : Tr, (vlT e t)[t.sz - 1]? = some (evT e t)
  | .is _ _ => rfl
  | .no x => by rw [vlT, List.getElem?_append_right (by rw [zQ]; show _ ≤ x.sz + 1 - 1; omega), zQ]; show [_][x.sz + 1 - 1 - x.sz]? = _; rw [show x.sz + 1 - 1 - x.sz = 0 by omega]; rfl
  | .both x y => by rw [vlT, List.getElem?_append_right (by rw [List.length_append, zQ, zQ]; show _ ≤ x.sz + y.sz + 1 - 1; omega), List.length_append, zQ, zQ]; show [_][x.sz + y.sz + 1 - 1 - (x.sz + y.sz)]? = _; rw [show x.sz + y.sz + 1 - 1 - (x.sz + y.sz) = 0 by omega]; rfl
  | .one x y => by rw [vlT, List.getElem?_append_right (by rw [List.length_append, zQ, zQ]; show _ ≤ x.sz + y.sz + 1 - 1; omega), List.length_append, zQ, zQ]; show [_][x.sz + y.sz + 1 - 1 - (x.sz + y.sz)]? = _; rw [show x.sz + y.sz + 1 - 1 - (x.sz + y.sz) = 0 by omega]; rfl
theorem xS (e : Pf) : ∀ t : Tr, 0 ≤ evT e t ∧ evT e t ≤ 2
  | .is k t => by unfold evT; split <;> (try split) <;> omega
  | .no x => by have := xS e x; unfold evT; omega
  | .both x y => by have := xS e x; have := xS e y; unfold evT; omega
  | .one x y => by have := xS e x; have := xS e y; unfold evT; omega
def Ext (e g : Pf) : Prop := ∀ k, e k ≠ [] → g k = e k
theorem kK {e g : Pf} (h : Ext e g) : ∀ t : Tr, evT e t ≠ 1 → evT g t = evT e t
  | .is k t, hn => by
    unfold evT at hn ⊢
    by_cases he : e k = []
    · rw [if_pos he] at hn; exact absurd rfl hn
    · rw [h k he]
  | .no x, hn => by
    unfold evT at hn ⊢
    rw [kK h x (fun q => hn (by omega))]
  | .both x y, hn => by
    have hx := xS e x
    have hy := xS e y
    have gx := xS g x
    have gy := xS g y
    unfold evT at hn ⊢
    by_cases h1 : evT e x = 1
    · by_cases h2 : evT e y = 1
      · omega
      · have := kK h y h2; omega
    · have := kK h x h1
      by_cases h2 : evT e y = 1
      · omega
      · have := kK h y h2; omega
  | .one x y, hn => by
    have hx := xS e x
    have hy := xS e y
    have gx := xS g x
    have gy := xS g y
    unfold evT at hn ⊢
    by_cases h1 : evT e x = 1
    · by_cases h2 : evT e y = 1
      · omega
      · have := kK h y h2; omega
    · have := kK h x h1
      by_cases h2 : evT e y = 1
      · omega
      · have := kK h y h2; omega
def zI (e : Pf) : Tr → Tr
  | .is k t => .is k t
  | .no x => .no (zI e x)
  | .both x y => if evT e y ≠ 1 then zI e x else if evT e x ≠ 1 then zI e y else .both (zI e x) (zI e y)
  | .one x y => if evT e y ≠ 1 then zI e x else if evT e x ≠ 1 then zI e y else .one (zI e x) (zI e y)
theorem wD {e : Pf} {x y : Tr} (h : evT e (.both x y) = 1) : (evT e y ≠ 1 → evT e x = 1 ∧ evT e y = 2) ∧ (evT e x ≠ 1 → evT e y = 1 ∧ evT e x = 2) := by
  have hx := xS e x
  have hy := xS e y
  unfold evT at h
  constructor <;> intro h2 <;> omega
theorem bK {e : Pf} {x y : Tr} (h : evT e (.one x y) = 1) : (evT e y ≠ 1 → evT e x = 1 ∧ evT e y = 0) ∧ (evT e x ≠ 1 → evT e y = 1 ∧ evT e x = 0) := by
  have hx := xS e x
  have hy := xS e y
  unfold evT at h
  constructor <;> intro h2 <;> omega
theorem gD {e g : Pf} (h : Ext e g) : ∀ t : Tr, evT e t = 1 → evT g (zI e t) = evT g t
  | .is k t, _ => rfl
  | .no x, h1 => by
    have : evT e x = 1 := by unfold evT at h1; omega
    unfold zI
    show 2 - evT g (zI e x) = 2 - evT g x
    rw [gD h x this]
  | .both x y, h1 => by
    obtain ⟨p1, p2⟩ := wD h1
    have gx := xS g x
    have gy := xS g y
    unfold zI
    split
    · rename_i hy
      rw [gD h x (p1 hy).1]
      have := kK h y hy
      show _ = min (evT g x) (evT g y)
      have := (p1 hy).2; omega
    · rename_i hy
      split
      · rename_i hx
        rw [gD h y (p2 hx).1]
        have := kK h x hx
        show _ = min (evT g x) (evT g y)
        have := (p2 hx).2; omega
      · rename_i hx
        show min (evT g (zI e x)) (evT g (zI e y)) = min (evT g x) (evT g y)
        rw [gD h x (by omega), gD h y (by omega)]
  | .one x y, h1 => by
    obtain ⟨p1, p2⟩ := bK h1
    have gx := xS g x
    have gy := xS g y
    unfold zI
    split
    · rename_i hy
      rw [gD h x (p1 hy).1]
      have := kK h y hy
      show _ = max (evT g x) (evT g y)
      have := (p1 hy).2; omega
    · rename_i hy
      split
      · rename_i hx
        rw [gD h y (p2 hx).1]
        have := kK h x hx
        show _ = max (evT g x) (evT g y)
        have := (p2 hx).2; omega
      · rename_i hx
        show max (evT g (zI e x)) (evT g (zI e y)) = max (evT g x) (evT g y)
        rw [gD h x (by omega), gD h y (by omega)]
theorem k6 {e g : Pf} (h : Ext e g) : ∀ t : Tr, evT e t = 1 → evT g t = 1 → zI g (zI e t) = zI g t
  | .is k t, _, _ => rfl
  | .no x, h1, h2 => by
    have a1 : evT e x = 1 := by unfold evT at h1; omega
    have a2 : evT g x = 1 := by unfold evT at h2; omega
    simp only [zI]
    rw [k6 h x a1 a2]
  | .both x y, h1, h2 => by
    obtain ⟨p1, p2⟩ := wD h1
    obtain ⟨q1, q2⟩ := wD h2
    by_cases hy : evT e y = 1
    · by_cases hx : evT e x = 1
      · have e1 : zI e (.both x y) = .both (zI e x) (zI e y) := by simp [zI, hx, hy]
        rw [e1]
        simp only [zI]
        rw [gD h x hx, gD h y hy]
        by_cases gy : evT g y = 1
        · by_cases gx : evT g x = 1
          · rw [k6 h x hx gx, k6 h y hy gy]
          · simp only [gy, gx, ne_eq, not_true_eq_false, if_false, not_false_eq_true, if_true]; exact k6 h y hy gy
        · simp only [gy, ne_eq, not_false_eq_true, if_true]; exact k6 h x hx (q1 gy).1
      · have e1 : zI e (.both x y) = zI e y := by simp [zI, hx, hy]
        have gx := kK h x hx
        have gy : evT g y = 1 := (q2 (by omega)).1
        have e2 : zI g (.both x y) = zI g y := by rw [zI, if_neg (by omega), if_pos (by omega)]
        rw [e1, e2, k6 h y hy gy]
    · have e1 : zI e (.both x y) = zI e x := by simp [zI, hy]
      have gy := kK h y hy
      have gx := (q1 (by omega)).1
      have e2 : zI g (.both x y) = zI g x := by rw [zI, if_pos (by omega)]
      rw [e1, e2, k6 h x (p1 hy).1 gx]
  | .one x y, h1, h2 => by
    obtain ⟨p1, p2⟩ := bK h1
    obtain ⟨q1, q2⟩ := bK h2
    by_cases hy : evT e y = 1
    · by_cases hx : evT e x = 1
      · have e1 : zI e (.one x y) = .one (zI e x) (zI e y) := by simp [zI, hx, hy]
        rw [e1]
        simp only [zI]
        rw [gD h x hx, gD h y hy]
        by_cases gy : evT g y = 1
        · by_cases gx : evT g x = 1
          · rw [k6 h x hx gx, k6 h y hy gy]
          · simp only [gy, gx, ne_eq, not_true_eq_false, if_false, not_false_eq_true, if_true]; exact k6 h y hy gy
        · simp only [gy, ne_eq, not_false_eq_true, if_true]; exact k6 h x hx (q1 gy).1
      · have e1 : zI e (.one x y) = zI e y := by simp [zI, hx, hy]
        have gx := kK h x hx
        have gy : evT g y = 1 := (q2 (by omega)).1
        have e2 : zI g (.one x y) = zI g y := by rw [zI, if_neg (by omega), if_pos (by omega)]
        rw [e1, e2, k6 h y hy gy]
    · have e1 : zI e (.one x y) = zI e x := by simp [zI, hy]
      have gy := kK h y hy
      have gx := (q1 (by omega)).1
      have e2 : zI g (.one x y) = zI g x := by rw [zI, if_pos (by omega)]
      rw [e1, e2, k6 h x (p1 hy).1 gx]
theorem kJ (e : Pf) : ∀ t : Tr, t.ok = true → (zI e t).ok = true
  | .is k t, h => h
  | .no x, h => kJ e x h
  | .both x y, h => by
    unfold Tr.ok at h
    rw [Bool.and_eq_true] at h
    unfold zI
    split
    · exact kJ e x h.1
    · split
      · exact kJ e y h.2
      · unfold Tr.ok; rw [kJ e x h.1, kJ e y h.2]; rfl
  | .one x y, h => by
    unfold Tr.ok at h
    rw [Bool.and_eq_true] at h
    unfold zI
    split
    · exact kJ e x h.1
    · split
      · exact kJ e y h.2
      · unfold Tr.ok; rw [kJ e x h.1, kJ e y h.2]; rfl
theorem vJ (e : Pf) : ∀ t : Tr, (zI e t).sz ≤ t.sz
  | .is k t => Nat.le_refl _
  | .no x => by have := vJ e x; unfold zI; show _ + 1 ≤ _ + 1; omega
  | .both x y => by
    have h1 := vJ e x
    have h2 := vJ e y
    have e0 : (Tr.both x y).sz = x.sz + y.sz + 1 := rfl
    unfold zI
    split
    · omega
    · split
      · omega
      · show (zI e x).sz + (zI e y).sz + 1 ≤ _; omega
  | .one x y => by
    have h1 := vJ e x
    have h2 := vJ e y
    have e0 : (Tr.one x y).sz = x.sz + y.sz + 1 := rfl
    unfold zI
    split
    · omega
    · split
      · omega
      · show (zI e x).sz + (zI e y).sz + 1 ≤ _; omega
def nJ (p : Nat → Prop) : Tr → Prop
  | .is k _ => p k
  | .no x => nJ p x
  | .both x y => nJ p x ∧ nJ p y
  | .one x y => nJ p x ∧ nJ p y
theorem kW {e : Pf} : ∀ t : Tr, evT e t = 1 → nJ (fun k => e k = []) (zI e t)
  | .is k t, h => by
    show e k = []
    unfold evT at h
    by_cases hk : e k = []
    · exact hk
    · rw [if_neg hk] at h; split at h <;> omega
  | .no x, h => kW x (by unfold evT at h; omega)
  | .both x y, h => by
    obtain ⟨p1, p2⟩ := wD h
    unfold zI
    split
    · rename_i hy; exact kW x (p1 hy).1
    · split
      · rename_i hx; exact kW y (p2 hx).1
      · exact ⟨kW x (by omega), kW y (by omega)⟩
  | .one x y, h => by
    obtain ⟨p1, p2⟩ := bK h
    unfold zI
    split
    · rename_i hy; exact kW x (p1 hy).1
    · split
      · rename_i hx; exact kW y (p2 hx).1
      · exact ⟨kW x (by omega), kW y (by omega)⟩
theorem w9 {f g : Pf} {p : Nat → Prop} (h : ∀ k, p k → f k = g k) : ∀ t : Tr, nJ p t → evT f t = evT g t
  | .is k t, ha => by unfold evT; rw [h k ha]
  | .no x, ha => by unfold evT; rw [w9 h x ha]
  | .both x y, ha => by unfold evT; rw [w9 h x ha.1, w9 h y ha.2]
  | .one x y, ha => by unfold evT; rw [w9 h x ha.1, w9 h y ha.2]
def kA (e : Pf) : Tr → Bool
  | .is k t => decide (e k = t)
  | .no x => !kA e x
  | .both x y => kA e x && kA e y
  | .one x y => kA e x || kA e y
theorem w8 {e : Pf} : ∀ t : Tr, nJ (fun k => e k ≠ []) t → evT e t = if kA e t = true then 2 else 0
  | .is k t, h => by
    have hk : e k ≠ [] := h
    unfold evT kA
    rw [if_neg hk]; simp
  | .no x, h => by
    have := w8 x h
    unfold evT kA
    rw [this]
    cases kA e x <;> simp
  | .both x y, h => by
    have h1 := w8 x h.1
    have h2 := w8 y h.2
    unfold evT kA
    rw [h1, h2]
    cases kA e x <;> cases kA e y <;> rfl
  | .one x y, h => by
    have h1 := w8 x h.1
    have h2 := w8 y h.2
    unfold evT kA
    rw [h1, h2]
    cases kA e x <;> cases kA e y <;> rfl
theorem wE {p : Nat → Prop} (h : ∀ k, k < 3 → p k) : ∀ t : Tr, t.ok = true → nJ p t
  | .is k t, ho => by unfold Tr.ok at ho; simp only [Bool.and_eq_true, decide_eq_true_eq] at ho; exact h k ho.1
  | .no x, ho => wE h x ho
  | .both x y, ho => by unfold Tr.ok at ho; rw [Bool.and_eq_true] at ho; exact ⟨wE h x ho.1, wE h y ho.2⟩
  | .one x y, ho => by unfold Tr.ok at ho; rw [Bool.and_eq_true] at ho; exact ⟨wE h x ho.1, wE h y ho.2⟩
end
section
def tl : List Tok → Nat
  | [] => 0
  | x :: r => x.length + 1 + tl r
theorem pM : ∀ a b : List Tok, tl (a ++ b) = tl a + tl b
  | [], b => by simp [tl]
  | x :: a, b => by rw [List.cons_append, tl, tl, pM a b]; omega
theorem tl_join : ∀ l : List Tok, l ≠ [] → (x1 32 l).length + 1 = tl l
  | [], h => absurd rfl h
  | [x], _ => by simp [x1, tl]
  | x :: y :: r, _ => by
    have := tl_join (y :: r) (by simp)
    rw [x1, tl, ← this]; simp; omega
theorem bG (c : Bool) (l : List Tok) : tl (yR c l) = tl l + if c then 4 else 0 := by
  unfold yR
  cases c with
  | false => simp
  | true => simp [tl, pM, yP, yC]; omega
def Tr.w (t : Tr) : Nat := tl t.tok
def Tr.w1 (t : Tr) : Nat := t.w + if t.isOne then 4 else 0
def Tr.w2 (t : Tr) : Nat := t.w + if t.isBin then 4 else 0
theorem Tr.text_w (t : Tr) : t.text.length + 1 = t.w := tl_join _ t.tok_ne
theorem Tr.w_le (t : Tr) : t.w ≤ t.w1 ∧ t.w1 ≤ t.w2 ∧ t.w2 ≤ t.w + 4 := by
  unfold Tr.w1 Tr.w2
  cases t <;> simp [Tr.isOne, Tr.isBin]
theorem fM (x y : Tr) : (Tr.both x y).w = x.w1 + 4 + y.w2 := by
  unfold Tr.w Tr.w1 Tr.w2 Tr.w
  rw [Tr.tok, pM, bG, tl, bG]; simp [xB]; omega
theorem tC (x y : Tr) : (Tr.one x y).w = x.w + 3 + y.w1 := by
  unfold Tr.w Tr.w1 Tr.w
  rw [Tr.tok, pM, tl, bG]; simp [tOr]; omega
theorem w_is (k : Nat) (t : Tok) : (Tr.is k t).w = (yH k).length + t.length + 4 := by
  unfold Tr.w
  rw [Tr.tok]; simp [tl, tEq]; omega
theorem w_no (x : Tr) : (Tr.no x).w ≤ x.w2 + 4 ∧ x.w + 1 ≤ (Tr.no x).w := by
  cases x with
  | is k t =>
    have := w_is k t
    unfold Tr.w2
    have e : (Tr.no (.is k t)).w = (yH k).length + t.length + 5 := by unfold Tr.w; rw [Tr.tok]; simp [tl, tNe]; omega
    simp [Tr.isBin]; omega
  | no y => unfold Tr.w2 Tr.w; rw [show (Tr.no (.no y)).tok = yZ :: (Tr.no y).tok from rfl, tl]; simp [Tr.isBin, yZ]; omega
  | both y z => unfold Tr.w2 Tr.w; rw [show (Tr.no (.both y z)).tok = yZ :: yR true (Tr.both y z).tok from rfl, tl, bG]; simp [Tr.isBin, yZ]; omega
  | one y z => unfold Tr.w2 Tr.w; rw [show (Tr.no (.one y z)).tok = yZ :: yR true (Tr.one y z).tok from rfl, tl, bG]; simp [Tr.isBin, yZ]; omega
theorem w_no2 {x : Tr} (h : ∀ k t, x ≠ .is k t) : (Tr.no x).w = x.w2 + 4 := by
  unfold Tr.w2 Tr.w
  rw [Tr.tok_no h, tl, bG]; simp [yZ]; omega
theorem fV (e : Pf) : ∀ t : Tr, (zI e t).w ≤ t.w ∧ (zI e t).w1 ≤ t.w1 ∧ (zI e t).w2 ≤ t.w2
  | .is k t => ⟨Nat.le_refl _, Nat.le_refl _, Nat.le_refl _⟩
  | .no x => by
    have ih := fV e x
    have key : (zI e (.no x)).w ≤ (Tr.no x).w := by
      show (Tr.no (zI e x)).w ≤ _
      by_cases hx : ∃ k t, x = .is k t
      · obtain ⟨k, t, rfl⟩ := hx; exact Nat.le_refl _
      · rw [w_no2 (fun k t q => hx ⟨k, t, q⟩)]
        have := (w_no (zI e x)).1
        omega
    exact ⟨key, key, key⟩
  | .both x y => by
    have hx := fV e x
    have hy := fV e y
    have b := fM x y
    have b1 : (Tr.both x y).w1 = (Tr.both x y).w := rfl
    have b2 : (Tr.both x y).w2 = (Tr.both x y).w + 4 := rfl
    have lx := (zI e x).w_le
    have ly := (zI e y).w_le
    unfold zI
    split
    · omega
    · split
      · omega
      · have c := fM (zI e x) (zI e y)
        have c1 : (Tr.both (zI e x) (zI e y)).w1 = (Tr.both (zI e x) (zI e y)).w := rfl
        have c2 : (Tr.both (zI e x) (zI e y)).w2 = (Tr.both (zI e x) (zI e y)).w + 4 := rfl
        omega
  | .one x y => by
    have hx := fV e x
    have hy := fV e y
    have b := tC x y
    have b1 : (Tr.one x y).w1 = (Tr.one x y).w + 4 := rfl
    have b2 : (Tr.one x y).w2 = (Tr.one x y).w + 4 := rfl
    have lx := (zI e x).w_le
    have ly := (zI e y).w_le
    unfold zI
    split
    · omega
    · split
      · omega
      · have c := tC (zI e x) (zI e y)
        have c1 : (Tr.one (zI e x) (zI e y)).w1 = (Tr.one (zI e x) (zI e y)).w + 4 := rfl
        have c2 : (Tr.one (zI e x) (zI e y)).w2 = (Tr.one (zI e x) (zI e y)).w + 4 := rfl
        omega
theorem left_text (e : Pf) (t : Tr) : (zI e t).text.length ≤ t.text.length := by
  have h := (fV e t).1
  have h1 := t.text_w
  have h2 := (zI e t).text_w
  omega
theorem left_may {e : Pf} {t : Tr} (h : t.ok = true) (h1 : t.sz ≤ 15) (h2 : t.text.length ≤ 96) : kB ((zI e t).enc 0) = true := by
  rw [fC (kJ e t h)]
  have := vJ e t
  have := left_text e t
  simp; omega
def z6 (l : List Nd) : List UInt8 := if kB l then (match gN l with | some t => t.text | none => []) else []
def zT (s : List UInt8) : List Tok := xZ 32 [] s
def Tr.fit (t : Tr) : Bool := decide (t.sz ≤ 15) && decide (t.text.length ≤ 96)
def xV (s : List UInt8) : Option Tr := match pOr (zT s).length (zT s) with
  | some (t, []) => if t.fit then some t else none
  | _ => none
def yY (s : List UInt8) : Int := if 96 < s.length then 3 else if s = [] then 0 else match xV s with | some _ => 0 | none => 7
def y7 (s : List UInt8) : List Nd := if 96 < s.length then [] else if s = [] then [] else match xV s with | some t => t.enc 0 | none => []
def vQ (e : Pf) : Bool := (decide (e 0 = []) || wdL (e 0)) && (decide (e 1 = []) || wdL (e 1)) && (decide (e 2 = []) || wdL (e 2))
def zL (l : List Nd) (e : Pf) : Int := if kB l && vQ e then (match gN l with | some t => evT e t | none => 2) else 0
def zN (l : List Nd) (e : Pf) : List Nd := if zL l e = 1 then (match gN l with | some t => (zI e t).enc 0 | none => []) else []
theorem v6 {t : Tr} (h : t.ok = true) : kB (t.enc 0) = t.fit := by rw [fC h]; rfl
theorem xM {t : Tr} {e : Pf} (h : t.ok = true) (hf : t.fit = true) (he : vQ e = true) : zL (t.enc 0) e = evT e t := by
  unfold zL
  rw [v6 h, hf, he, g8 h]; rfl
theorem w7 {l : List Nd} {e : Pf} (h : kB l = false ∨ vQ e = false) : zL l e = 0 := by
  unfold zL
  rcases h with h | h <;> rw [h] <;> simp
theorem bN {e : Pf} (he : vQ e = true) : zL [] e = 2 := by unfold zL; rw [show kB [] = true from rfl, he, dC]; rfl
theorem dJ {t : Tr} (h : t.ok = true) (hf : t.fit = true) : z6 (t.enc 0) = t.text := by
  unfold z6
  rw [v6 h, hf, g8 h]; rfl
theorem mK {t : Tr} {e : Pf} (h : t.ok = true) (hf : t.fit = true) (he : vQ e = true) : zN (t.enc 0) e = if evT e t = 1 then (zI e t).enc 0 else [] := by
  unfold zN
  rw [xM h hf he, g8 h]
theorem dD (b : UInt8) : ∀ (x acc r : List UInt8), b ∉ x → xZ b acc (x ++ r) = xZ b (acc ++ x) r
  | [], acc, r, _ => by simp
  | c :: x, acc, r, h => by
    have hc : c ≠ b := fun e => h (by rw [e]; exact List.mem_cons_self ..)
    rw [List.cons_append, xZ, if_neg hc, dD b x (acc ++ [c]) r (fun q => h (List.mem_cons_of_mem _ q)), List.append_assoc]; rfl
theorem gW (b : UInt8) : ∀ (l : List (List UInt8)), l ≠ [] → (∀ x ∈ l, b ∉ x) → xZ b [] (x1 b l) = l
  | [], h, _ => absurd rfl h
  | [x], _, h => by
    have := dD b x [] [] (h x (List.mem_singleton.2 rfl))
    rw [List.append_nil] at this
    show xZ b [] x = [x]
    rw [this]; rfl
  | x :: y :: r, _, h => by
    rw [x1, dD b x [] _ (h x (List.mem_cons_self ..)), xZ, if_pos rfl, gW b (y :: r) (by simp) fun z hz => h z (List.mem_cons_of_mem _ hz)]; rfl
theorem nV {b : UInt8} (hb : wdB b.toNat = false) : ∀ (l : List UInt8), kM l = true → b ∉ l
  | [], _ => by simp
  | c :: r, h => by
    have hc : wdB c.toNat = true := by
      unfold kM at h
      unfold wdB
      rw [Bool.and_eq_true] at h; exact h.1
    rw [v8 c r hc] at h
    intro hm
    rcases List.mem_cons.1 hm with e | hm
    · subst e; rw [hb] at hc; cases hc
    · exact nV hb r h hm
theorem wdL_no {s : List UInt8} {b : UInt8} (hb : wdB b.toNat = false) (h : wdL s = true) : b ∉ s := by
  unfold wdL at h
  rw [Bool.and_eq_true] at h; exact nV hb s h.2
theorem key_free (k : Nat) : (32 : UInt8) ∉ yH k := by
  unfold yH
  split
  · decide
  · split <;> decide
theorem bA {c : Bool} {l : List Tok} {x : Tok} (h : x ∈ yR c l) : x = yP ∨ x = yC ∨ x ∈ l := by
  unfold yR at h
  cases c with
  | false => exact .inr (.inr h)
  | true =>
    rcases List.mem_cons.1 h with h | h
    · exact .inl h
    · rcases List.mem_append.1 h with h | h
      · exact .inr (.inr h)
      · exact .inr (.inl (List.mem_singleton.1 h))
theorem qD : ∀ t : Tr, t.ok = true → ∀ x ∈ t.tok, (32 : UInt8) ∉ x
  | .is k v, h, x, hx => by
    unfold Tr.ok at h
    simp only [Bool.and_eq_true, decide_eq_true_eq] at h
    rw [Tr.tok] at hx
    simp only [List.mem_cons, List.not_mem_nil, or_false] at hx
    rcases hx with rfl | rfl | rfl
    · exact key_free k
    · decide
    · exact wdL_no (by decide) h.2
  | .no y, h, x, hx => by
    have hy : y.ok = true := h
    cases y with
    | is k v =>
      unfold Tr.ok at hy
      simp only [Bool.and_eq_true, decide_eq_true_eq] at hy
      rw [Tr.tok] at hx
      simp only [List.mem_cons, List.not_mem_nil, or_false] at hx
      rcases hx with rfl | rfl | rfl
      · exact key_free k
      · decide
      · exact wdL_no (by decide) hy.2
    | no z =>
      rw [Tr.tok] at hx
      rcases List.mem_cons.1 hx with rfl | hx
      · decide
      · exact qD _ hy x hx
    | both z u =>
      rw [Tr.tok] at hx
      rcases List.mem_cons.1 hx with rfl | hx
      · decide
      · rcases bA hx with rfl | rfl | hx
        · decide
        · decide
        · exact qD _ hy x hx
    | one z u =>
      rw [Tr.tok] at hx
      rcases List.mem_cons.1 hx with rfl | hx
      · decide
      · rcases bA hx with rfl | rfl | hx
        · decide
        · decide
        · exact qD _ hy x hx
  | .both y z, h, x, hx => by
    unfold Tr.ok at h
    rw [Bool.and_eq_true] at h
    rw [Tr.tok] at hx
    rcases List.mem_append.1 hx with hx | hx
    · rcases bA hx with rfl | rfl | hx
      · decide
      · decide
      · exact qD y h.1 x hx
    · rcases List.mem_cons.1 hx with rfl | hx
      · decide
      · rcases bA hx with rfl | rfl | hx
        · decide
        · decide
        · exact qD z h.2 x hx
  | .one y z, h, x, hx => by
    unfold Tr.ok at h
    rw [Bool.and_eq_true] at h
    rw [Tr.tok] at hx
    rcases List.mem_append.1 hx with hx | hx
    · exact qD y h.1 x hx
    · rcases List.mem_cons.1 hx with rfl | hx
      · decide
      · rcases bA hx with rfl | rfl | hx
        · decide
        · decide
        · exact qD z h.2 x hx
theorem words_text {t : Tr} (h : t.ok = true) : zT t.text = t.tok := gW 32 _ t.tok_ne (qD t h)
theorem pN (t : Tr) : t.text ≠ [] := by
  intro e
  have h := t.text_w
  rw [e] at h
  have : ∀ t : Tr, 5 ≤ t.w := fun t => by
    induction t with
    | is k v => rw [w_is]; unfold yH; split <;> (try split) <;> simp <;> omega
    | no x ih => have := (w_no x).2; omega
    | both x y ihx ihy => rw [fM]; have := y.w_le; omega
    | one x y ihx ihy => rw [tC]; omega
  have := this t
  simp at h; omega
theorem read_text {t : Tr} (h : t.ok = true) (hf : t.fit = true) : xV t.text = some t := by
  unfold xV
  rw [words_text h, or_reads h (Nat.le_refl _)]
  simp [hf]
theorem fit_len {t : Tr} (hf : t.fit = true) : t.text.length ≤ 96 := by unfold Tr.fit at hf; simp at hf; exact hf.2
theorem wK {t : Tr} (h : t.ok = true) (hf : t.fit = true) : yY t.text = 0 ∧ y7 t.text = t.enc 0 := by
  have hl := fit_len hf
  unfold yY y7
  have h96 : ¬ 96 < t.text.length := by omega
  simp only [if_neg h96, if_neg (pN t), read_text h hf]
  exact ⟨trivial, trivial⟩
def Oks (part : List Tok → Option (Tr × List Tok)) : Prop := ∀ ts t r, part ts = some (t, r) → t.ok = true
theorem tU {part : List Tok → Option (Tr × List Tok)} (hp : Oks part) (w : Tok) {mk : Tr → Tr → Tr} (hmk : ∀ a b, a.ok = true → b.ok = true → (mk a b).ok = true) : ∀ (k : Nat) (a : Tr) (ts : List Tok) (t : Tr) (r : List Tok), a.ok = true → kL part w mk k a ts = some (t, r) → t.ok = true
  | 0, a, ts, t, r, ha, h => by simp only [kL, Option.some.injEq, Prod.mk.injEq] at h; rw [← h.1]; exact ha
  | k + 1, a, [], t, r, ha, h => by simp only [kL, Option.some.injEq, Prod.mk.injEq] at h; rw [← h.1]; exact ha
  | k + 1, a, c :: q, t, r, ha, h => by
    rw [kL] at h
    split at h
    · cases hq : part q with
      | none => rw [hq] at h; cases h
      | some x =>
        obtain ⟨b, r'⟩ := x
        rw [hq] at h
        exact tU hp w hmk k (mk a b) r' t r (hmk a b ha (hp _ _ _ hq)) h
    · simp only [Option.some.injEq, Prod.mk.injEq] at h; rw [← h.1]; exact ha
theorem bJ {part : List Tok → Option (Tr × List Tok)} (hp : Oks part) (w : Tok) {mk : Tr → Tr → Tr} (hmk : ∀ a b, a.ok = true → b.ok = true → (mk a b).ok = true) : Oks (x9 part w mk) := fun ts t r h => by
  unfold x9 at h
  cases hq : part ts with
  | none => rw [hq] at h; cases h
  | some x =>
    obtain ⟨a, r'⟩ := x
    rw [hq] at h
    exact tU hp w hmk _ _ _ _ _ (hp _ _ _ hq) h
theorem bQ {a b : Tr} (ha : a.ok = true) (hb : b.ok = true) : (Tr.both a b).ok = true := by unfold Tr.ok; rw [ha, hb]; rfl
theorem fT {a b : Tr} (ha : a.ok = true) (hb : b.ok = true) : (Tr.one a b).ok = true := by unfold Tr.ok; rw [ha, hb]; rfl
theorem keyN_lt {c : Tok} {n : Nat} (h : bS c = some n) : n < 3 ∧ yH n = c := by
  unfold bS at h
  split at h
  · rename_i e; obtain rfl := Option.some.inj h; exact ⟨by decide, e.symm⟩
  · split at h
    · rename_i e; obtain rfl := Option.some.inj h; exact ⟨by decide, e.symm⟩
    · split at h
      · rename_i e; obtain rfl := Option.some.inj h; exact ⟨by decide, e.symm⟩
      · cases h
theorem atom_ok {k s v : Tok} {t : Tr} (h : gQ k s v = some t) : t.ok = true := by
  unfold gQ at h
  cases hk : bS k with
  | none => rw [hk] at h; cases h
  | some n =>
    rw [hk] at h
    have hn := (keyN_lt hk).1
    simp only at h
    split at h
    · rename_i hv
      have ho : (Tr.is n v).ok = true := by unfold Tr.ok; rw [decide_eq_true hn, hv]; rfl
      split at h
      · obtain rfl := Option.some.inj h; exact ho
      · split at h
        · obtain rfl := Option.some.inj h; exact ho
        · cases h
    · cases h
theorem pFac_ok : ∀ n, Oks (xO n)
  | 0 => fun ts t r h => by cases h
  | n + 1 => fun ts t r h => by
    have ih := pFac_ok n
    cases ts with
    | nil => cases h
    | cons c q =>
      rw [xO] at h
      split at h
      · cases hq : xO n q with
        | none => rw [hq] at h; cases h
        | some x =>
          obtain ⟨a, r'⟩ := x
          rw [hq] at h
          simp only [pNo, Option.some.injEq, Prod.mk.injEq] at h
          have ha : a.ok = true := ih _ _ _ hq
          rw [← h.1]; exact ha
      · split at h
        · cases hq : x9 (x9 (xO n) xB .both) tOr .one q with
          | none => rw [hq] at h; cases h
          | some x =>
            obtain ⟨a, r'⟩ := x
            rw [hq] at h
            have h1 := bJ (bJ ih xB (fun a b => bQ)) tOr (fun a b => fT) _ _ _ hq
            cases r' with
            | nil => cases h
            | cons d r2 =>
              rw [jO] at h
              split at h
              · simp only [Option.some.injEq, Prod.mk.injEq] at h; rw [← h.1]; exact h1
              · cases h
        · match q, h with
          | s :: v :: q, h =>
            rw [kP] at h
            cases ha : gQ c s v with
            | none => rw [ha] at h; cases h
            | some x => rw [ha] at h; simp only [Option.some.injEq, Prod.mk.injEq] at h; rw [← h.1]; exact atom_ok ha
          | [], h => cases h
          | [s], h => cases h
theorem pU (n : Nat) : Oks (pOr n) := bJ (bJ (pFac_ok n) xB (fun a b => bQ)) tOr (fun a b => fT)
theorem readM_ok {s : List UInt8} {t : Tr} (h : xV s = some t) : t.ok = true ∧ t.fit = true := by
  unfold xV at h
  split at h
  · rename_i t' hq
    split at h
    · rename_i hf; obtain rfl := Option.some.inj h; exact ⟨pU _ _ _ _ hq, hf⟩
    · cases h
  · cases h
theorem gI (b : UInt8) : ∀ (x y : List (List UInt8)), x ≠ [] → y ≠ [] → x1 b (x ++ y) = x1 b x ++ b :: x1 b y
  | [], _, h, _ => absurd rfl h
  | [a], [], _, h => absurd rfl h
  | [a], c :: y, _, _ => rfl
  | a :: a2 :: x, y, _, h => by
    rw [List.cons_append, List.cons_append, x1, ← List.cons_append, gI b (a2 :: x) y (by simp) h, x1]; simp
theorem fF {t : Tr} (h : t.ok = true) : ∀ (n : Nat) (rest : List Tok), (yP :: (t.tok ++ yC :: rest)).length ≤ n → xO n (yP :: (t.tok ++ yC :: rest)) = some (t, rest) := fun n rest hn => by
  match n, hn with
  | 0, hn => simp at hn
  | n + 1, hn =>
    simp only [List.length_cons] at hn
    rw [qR, (qV t h).2.2 n (yC :: rest) (by omega) (by simp [yC, xB]), kF _ _ _ _ _ _ (by simp [yC, tOr])]
    rfl
end
section
def nC (n : Nd) : List Value := [.int .i64 n.op, .int .i64 n.a, .int .i64 n.b, .int .i64 n.key, .string (mkS n.text)]
theorem yX (n : Nd) : (nC n).length = 5 := rfl
def zC (z : Int) : List Value := [.int .i64 z]
theorem x7 (z : Int) : (zC z).length = 1 := rfl
def SlN (v : Value) (l : List Nd) (ob : List Blk) : Prop := Sl 48 5 v l.length (l.flatMap nC) ob
def SlZ (v : Value) (l : List Int) (ob : List Blk) : Prop := Sl 3 1 v l.length (l.flatMap zC) ob
def ndV (n : Nd) : Value := .agg #[.int .i64 n.op, .int .i64 n.a, .int .i64 n.b, .int .i64 n.key, .string (mkS n.text)]
def pfV (e : Pf) : Value := .agg #[.string (mkS (e 0)), .string (mkS (e 1)), .string (mkS (e 2))]
theorem pY {P : Program} {T : TypeId} {a b c : Nat} (h : (P.info? T).map (fun i => (i.zero.map (·.cells.size), i.size, i.bytes)) = some (some a, b, c)) : ∃ i z, P.info? T = some i ∧ i.zero = some z ∧ i.size = b ∧ z.cells.size = a ∧ i.bytes = c := by
  cases hi : P.info? T with
  | none => rw [hi] at h; cases h
  | some i =>
    rw [hi] at h
    simp only [Option.map_some, Option.some.injEq, Prod.mk.injEq] at h
    cases hz : i.zero with
    | none => rw [hz] at h; simp at h
    | some z => rw [hz] at h; simp at h; exact ⟨i, z, rfl, hz, h.2.1, h.1, h.2.2⟩
theorem xD : ∃ i z, Tryd.prog.info? 48 = some i ∧ i.zero = some z ∧ i.size = 5 ∧ z.cells.size = 5 ∧ i.bytes = 48 := pY (by kernel_rfl)
theorem gJ : ∃ i z, Tryd.prog.info? 3 = some i ∧ i.zero = some z ∧ i.size = 1 ∧ z.cells.size = 1 ∧ i.bytes = 8 := pY (by kernel_rfl)
theorem SlN.add {u : Value} {l : List Nd} {x : Nd} {ob : List Blk} (h : Sl 48 5 u (l.length + 1) (l.flatMap nC ++ nC x) ob) : SlN u (l ++ [x]) ob := Sl.to h (by simp) (by simp)
theorem SlZ.add {u : Value} {l : List Int} {x : Int} {ob : List Blk} (h : Sl 3 1 u (l.length + 1) (l.flatMap zC ++ zC x) ob) : SlZ u (l ++ [x]) ob := Sl.to h (by simp) (by simp)
theorem Sl.front {α : Type} {g : α → List Value} {T : TypeId} {sz : Nat} (hg : ∀ x, (g x).length = sz) {A : Option Addr} {cap : Nat} {l : List α} {ob : List Blk} (h : Sl T sz (.slice A l.length cap) l.length (l.flatMap g) ob) (h0 : l ≠ []) {k : Nat} (hk : k ≤ l.length) :
    Sl T sz (.slice A k cap) (l.take k).length ((l.take k).flatMap g) ob := by
  have hlen : ∀ l : List α, (l.flatMap g).length = l.length * sz := fun l => by
    induction l with
    | nil => simp
    | cons a l ih => rw [List.flatMap_cons, List.length_append, ih, hg, List.length_cons, Nat.succ_mul]; omega
  have hkl : (l.take k).length = k := by rw [List.length_take]; omega
  have htk : (l.flatMap g).take (k * sz) = (l.take k).flatMap g := by
    have e : l.flatMap g = (l.take k).flatMap g ++ (l.drop k).flatMap g := by rw [← List.flatMap_append, List.take_append_drop]
    rw [e, List.take_append_of_le_length (by rw [hlen, hkl]; exact Nat.le_refl _), List.take_of_length_le (by rw [hlen, hkl]; exact Nat.le_refl _)]
  refine ⟨hlen _, ?_⟩
  rcases h.2 with ⟨_, h2, _⟩ | ⟨q, c, cur, h1, h2, h3, h4, h5, h6⟩
  · exact absurd (List.eq_nil_of_length_eq_zero h2) h0
  · injection h1 with e1 e2 e3
    subst e1; subst e3
    refine .inr ⟨q, cap, cur, by rw [hkl], h2, by rw [hkl]; omega, h4, h5, ?_⟩
    rw [hkl, ← htk, ← h6, List.take_take]
    congr 1
    have : k * sz ≤ l.length * sz := Nat.mul_le_mul_right _ hk
    omega
theorem Sl.at0 {T : TypeId} {sz n m cap : Nat} {A : Option Addr} {xs : List Value} {ob : List Blk} (h : Sl T sz (.slice A n cap) m xs ob) (h0 : 0 < m) : ∃ g, A = some ⟨g, 0, none⟩ ∧ m ≤ cap := by
  rcases h.2 with ⟨_, h2, _⟩ | ⟨q, c, cur, h1, h2, h3, _⟩
  · omega
  · injection h1 with e1 e2 e3
    exact ⟨q, e1, by omega⟩
theorem wW (e : Pf) : ∀ (k : Nat), k < 3 → xQ Tryd.prog 9 #[.string (mkS (e 0)), .string (mkS (e 1)), .string (mkS (e 2))] k = some (.string (mkS (e k)))
  | 0, _ => by kernel_rfl
  | 1, _ => by kernel_rfl
  | 2, _ => by kernel_rfl
theorem wd_mk (s : List UInt8) : hU (mkS s) = wdL s := by unfold hU wdL; rw [k0, fA]
structure PfS (e : Pf) : Prop where
  h0 : (e 0).length ≤ 1000000
  h1 : (e 1).length ≤ 1000000
  h2 : (e 2).length ≤ 1000000
theorem PfS.at {e : Pf} (h : PfS e) {k : Nat} (hk : k < 3) : (e k).length ≤ 1000000 := by
  match k, hk with
  | 0, _ => exact h.h0
  | 1, _ => exact h.h1
  | 2, _ => exact h.h2
end
section
set_option linter.unnecessarySimpa false
theorem tL {P : Program} {ρ : Operand → Value} {o : Oper} {t t' : TypeId} {x y : Operand} {k q : IntKind} {i j : Int} (ho : o.op = .call { callee := .builtin .max, args := #[x, y], argTypes := #[t, t'] }) (hx : ρ x = .int k i) (hy : ρ y = .int q j) (w : World) : (execOp ρ o).run P w = .ok (.value (.int k (max i j))) w := by
  unfold execOp
  have e : max i j = if i < j then j else i := by split <;> omega
  simp [ho, resolve, invoke, builtin, Builtin.max_, Builtin.max2, hx, hy, e]
theorem pL {c : Int} : wdB c = (jX c || jE c || decide (c = 95)) := rfl
theorem r1low_any (c : UInt8) (W : World) : Calls Tryd.prog 85 #[.int .u8 (c.toNat : Int)] W fun e w' => e = .returned (.bool (jX (c.toNat : Int))) ∧ Below W.heap.size W w' := by
  refine zU (n := 9) Tryd.func85 rfl (by kernel_rfl) (by kernel_rfl) (ZO (Zv (.bool false) (ZR (Zv (.int .u8 (c.toNat : Int)) ?_))))
  by_cases h1 : (97 : Int) ≤ (c.toNat : Int)
  · refine x8 (p := (97 : Int) ≤ (c.toNat : Int)) true (by kernel_rfl) (fun _ => by kernel_rfl) (decide_eq_true (h1)) ?_
    refine Zv (.bool true) (Zv (.int .u8 (c.toNat : Int)) ?_)
    by_cases h2 : (c.toNat : Int) ≤ 122
    · refine x8 (p := (c.toNat : Int) ≤ 122) true (by kernel_rfl) (fun _ => by kernel_rfl) (decide_eq_true (h2)) ?_
      exact Zv (.bool true) (Zv (.bool true) (ZN (zG (ZF (.bool true) Tryd.results85 (fun w hO => ⟨by rw [show jX (c.toNat : Int) = true from by unfold jX; simp; try omega], hO.below⟩)))))
    exact Zd (p := (c.toNat : Int) ≤ 122) false (decide_eq_false (h2)) (Zv (.bool false) (Zv (.bool false) (ZN (zG (ZF (.bool false) Tryd.results85 (fun w hO => ⟨by rw [show jX (c.toNat : Int) = false from by unfold jX; simp; try omega], hO.below⟩))))))
  exact Zd (p := (97 : Int) ≤ (c.toNat : Int)) false (decide_eq_false (h1)) (Zv (.bool false) (Zk (Zk (Zv (.bool false) (Zv (.bool false) (ZN (zG (ZF (.bool false) Tryd.results85 (fun w hO => ⟨by rw [show jX (c.toNat : Int) = false from by unfold jX; simp; try omega], hO.below⟩)))))))))
theorem tP (c : UInt8) (W : World) : Calls Tryd.prog 86 #[.int .u8 (c.toNat : Int)] W fun e w' => e = .returned (.bool (jE (c.toNat : Int))) ∧ Below W.heap.size W w' := by
  refine zU (n := 9) Tryd.func86 rfl (by kernel_rfl) (by kernel_rfl) (ZO (Zv (.bool false) (ZR (Zv (.int .u8 (c.toNat : Int)) ?_))))
  by_cases h1 : (48 : Int) ≤ (c.toNat : Int)
  · refine x8 (p := (48 : Int) ≤ (c.toNat : Int)) true (by kernel_rfl) (fun _ => by kernel_rfl) (decide_eq_true (h1)) ?_
    refine Zv (.bool true) (Zv (.int .u8 (c.toNat : Int)) ?_)
    by_cases h2 : (c.toNat : Int) ≤ 57
    · refine x8 (p := (c.toNat : Int) ≤ 57) true (by kernel_rfl) (fun _ => by kernel_rfl) (decide_eq_true (h2)) ?_
      exact Zv (.bool true) (Zv (.bool true) (ZN (zG (ZF (.bool true) Tryd.results86 (fun w hO => ⟨by rw [show jE (c.toNat : Int) = true from by unfold jE; simp; try omega], hO.below⟩)))))
    exact Zd (p := (c.toNat : Int) ≤ 57) false (decide_eq_false (h2)) (Zv (.bool false) (Zv (.bool false) (ZN (zG (ZF (.bool false) Tryd.results86 (fun w hO => ⟨by rw [show jE (c.toNat : Int) = false from by unfold jE; simp; try omega], hO.below⟩))))))
  exact Zd (p := (48 : Int) ≤ (c.toNat : Int)) false (decide_eq_false (h1)) (Zv (.bool false) (Zk (Zk (Zv (.bool false) (Zv (.bool false) (ZN (zG (ZF (.bool false) Tryd.results86 (fun w hO => ⟨by rw [show jE (c.toNat : Int) = false from by unfold jE; simp; try omega], hO.below⟩)))))))))
theorem dH (s : List UInt8) (W : World) (hs : s.length ≤ 1000000) : Calls Tryd.prog 76 #[.string (mkS s)] W fun e w' => e = .returned (.bool (wdL s)) ∧ Below W.heap.size W w' := by
  have hsz := k0 s
  refine zU (n := 36) Tryd.func76 rfl (by kernel_rfl) (by kernel_rfl) (ZO (Zv (.bool false) (ZN (zF (ZO (Zv (.string (mkS s)) (Zv (.int .i64 ((mkS s).size)) ?_)))))))
  by_cases h1 : ((mkS s).size : Int) < 1
  · refine x8 (p := ((mkS s).size : Int) < 1) true (by kernel_rfl) (fun _ => by kernel_rfl) (decide_eq_true (h1)) ?_
    refine Zv (.bool true) (Zk (Zk (Zk (Zv (.bool true) (ZY (ZO (Zv (.bool false) (zK ?_))))))))
    exact z8 (zG (z5 (ZF (.bool false) Tryd.results76 (fun w hO => ⟨by rw [show wdL s = false from by unfold wdL; rw [decide_eq_false (by omega)]; rfl], hO.below⟩))))
  refine Zd (p := ((mkS s).size : Int) < 1) false (decide_eq_false (h1)) (Zv (.bool false) (Zv (.string (mkS s)) (Zv (.int .i64 ((mkS s).size)) ?_)))
  by_cases h2 : (12 : Int) < (mkS s).size
  · refine x8 (p := (12 : Int) < (mkS s).size) true (by kernel_rfl) (fun _ => by kernel_rfl) (decide_eq_true (h2)) ?_
    refine Zv (.bool true) (ZY (ZO (Zv (.bool false) (ZN (zG (z5 (ZF (.bool false) Tryd.results76 ?_)))))))
    exact fun w hO => ⟨by rw [show wdL s = false from by unfold wdL; rw [decide_eq_false (by omega)]; rfl], hO.below⟩
  refine Zd (p := (12 : Int) < (mkS s).size) false (decide_eq_false (h2)) (Zv (.bool false) (ZX (ZB (zF (ZO (Zv (.int .i64 0) (zK ?_)))))))
  refine z8 (zP (xT (fun L f m => ∃ (i : Nat) (j : Nat → Value), (i ≤ s.length ∧ kM (s.drop i) = kM s) ∧ L = [] ∧ f = qT j [(0, .string (mkS s)), (3, .int .i64 (i : Int))] ∧ m = s.length - i) (s.length - 0) ⟨0, _, ⟨Nat.zero_le _, by rw [List.drop_zero]⟩, rfl, ZU, rfl⟩ ?_))
  rintro L f m ⟨i, j, hrel, rfl, rfl, rfl⟩
  have hi6 := hrel.1
  refine zF (ZO (Zv (.int .i64 (i : Int)) (Zv (.string (mkS s)) (Zv (.int .i64 ((mkS s).size)) ?_))))
  by_cases h3 : (i : Int) < (mkS s).size
  · have hi : i < s.length := by omega
    obtain ⟨c, hc⟩ : ∃ c, s[i] = c := ⟨_, rfl⟩
    have hdr : s.drop i = c :: s.drop (i + 1) := by rw [← hc]; exact List.drop_eq_getElem_cons hi
    refine Zd (p := (i : Int) < (mkS s).size) true (decide_eq_true (h3)) (ZY (ZB (zF (zP (ZO (Zv (.string (mkS s)) (Zv (.int .i64 (i : Int)) ?_)))))))
    refine zM (.int .u8 (c.toNat : Int)) (by kernel_rfl) (fun w => by rw [← hc]; exact dF (s := s) (k := .i64) (j := (i : Int)) rfl (by kernel_rfl) (by kernel_rfl) Tryd.underlying9 (by omega) (by omega) w) (Zc (k := 85) (args := #[.int .u8 (c.toNat : Int)]) (.bool (jX (c.toNat : Int))) (fun w _ => r1low_any c w) ?_)
    cases h4 : jX (c.toNat : Int) with
    | true =>
      refine Zv (.bool false) (Zv (.bool false) (Zk (Zk (Zk (Zk (Zk (Zv (.bool false) (Zv (.bool false) (Zk (Zk (Zk ?_)))))))))))
      refine Zk (Zv (.bool false) (ZX (x6 (zJ (z8 (z7 (Zv (.int .i64 (i : Int)) (Zu (k := .i64) (((i + 1 : Nat) : Int)) (IntWalk.i64_in _ (by omega)) (Zv (.int .i64 ((i + 1 : Nat) : Int)) ?_)))))))))
      refine zK ?_
      have hnext : kM (s.drop (i + 1)) = kM s := by rw [← hrel.2, hdr]; refine (v8 c _ ?_).symm; rw [pL]; simp [h1, h2, h3, h4]
      exact zS (m' := s.length - (i + 1)) (by omega) ⟨i + 1, _, ⟨by omega, hnext⟩, rfl, ZU, rfl⟩
    | false =>
      refine Zv (.bool true) (Zv (.bool true) (Zv (.string (mkS s)) (Zv (.int .i64 (i : Int)) (zM (.int .u8 (c.toNat : Int)) (by kernel_rfl) (fun w => by rw [← hc]; exact dF (s := s) (k := .i64) (j := (i : Int)) rfl (by kernel_rfl) (by kernel_rfl) Tryd.underlying9 (by omega) (by omega) w) (Zc (k := 86) (args := #[.int .u8 (c.toNat : Int)]) (.bool (jE (c.toNat : Int))) (fun w _ => tP c w) ?_)))))
      cases h5 : jE (c.toNat : Int) with
      | true =>
        refine Zv (.bool false) (Zv (.bool false) (Zv (.bool false) (Zk (Zk (Zk (Zk (Zv (.bool false) (ZX (x6 ?_)))))))))
        refine zJ (z8 (z7 (Zv (.int .i64 (i : Int)) (Zu (k := .i64) (((i + 1 : Nat) : Int)) (IntWalk.i64_in _ (by omega)) (Zv (.int .i64 ((i + 1 : Nat) : Int)) (zK ?_))))))
        have hnext : kM (s.drop (i + 1)) = kM s := by rw [← hrel.2, hdr]; refine (v8 c _ ?_).symm; rw [pL]; simp [h1, h2, h3, h4, h5]
        exact zS (m' := s.length - (i + 1)) (by omega) ⟨i + 1, _, ⟨by omega, hnext⟩, rfl, ZU, rfl⟩
      | false =>
        refine Zv (.bool true) (Zv (.bool true) (Zv (.bool true) (Zv (.string (mkS s)) (Zv (.int .i64 (i : Int)) (zM (.int .u8 (c.toNat : Int)) (by kernel_rfl) (fun w => by rw [← hc]; exact dF (s := s) (k := .i64) (j := (i : Int)) rfl (by kernel_rfl) (by kernel_rfl) Tryd.underlying9 (by omega) (by omega) w) ?_)))))
        by_cases h6 : (c.toNat : Int) = 95
        · refine dE (p := (c.toNat : Int) = 95) true (by kernel_rfl) (fun _ => by kernel_rfl) (decide_eq_true (h6)) ?_
          refine Zv (.bool false) (ZX (x6 (zJ (z8 (z7 (Zv (.int .i64 (i : Int)) (Zu (k := .i64) (((i + 1 : Nat) : Int)) (IntWalk.i64_in _ (by omega)) (Zv (.int .i64 ((i + 1 : Nat) : Int)) (zK ?_)))))))))
          have hnext : kM (s.drop (i + 1)) = kM s := by rw [← hrel.2, hdr]; refine (v8 c _ ?_).symm; rw [pL]; simp [h1, h2, h3, h4, h5, h6]
          exact zS (m' := s.length - (i + 1)) (by omega) ⟨i + 1, _, ⟨by omega, hnext⟩, rfl, ZU, rfl⟩
        refine Zn (p := (c.toNat : Int) = 95) false (decide_eq_false (h6)) (Zv (.bool true) (ZY (ZO (Zv (.bool false) (ZN (zG (zD ?_)))))))
        exact z5 (yE (zD (z5 (ZF (.bool false) Tryd.results76 (fun w hO => ⟨by rw [show wdL s = false from by unfold wdL; rw [← hrel.2, hdr, d9 c _ (by rw [pL]; simp [h1, h2, h3, h4, h5, h6]; try omega)]; simp], hO.below⟩)))))
  refine Zd (p := (i : Int) < (mkS s).size) false (decide_eq_false (h3)) (ZX (xN (yG (zY (zZ (z8 (ZO (Zv (.bool true) ?_))))))))
  exact ZN (zG (ZF (.bool true) Tryd.results76 (fun w hO => ⟨by rw [show wdL s = true from by unfold wdL; rw [← hrel.2, List.drop_of_length_le (by omega)]; simp [kM]; omega], hO.below⟩)))
theorem tR (n : Nd) (W : World) (hs : n.text.length ≤ 1000000) : Calls Tryd.prog 73 #[ndV n] W fun e w' => e = .returned (.bool (xH n)) ∧ Below W.heap.size W w' := by
  refine zU (n := 31) Tryd.func73 rfl (by kernel_rfl) (by kernel_rfl) (ZO (Zb (ndV n) (fun b1 => Zv (.bool false) (ZR (Zv (.pointer (some ⟨b1, 0, none⟩)) (Zl 0 ⟨b1, (ndV n).cells, 48⟩ (off := 0) (.int .i64 n.op) ?_))))))
  by_cases h1 : (n.op : Int) = 1
  · refine x8 (p := (n.op : Int) = 1) true (by kernel_rfl) (fun _ => by kernel_rfl) (decide_eq_true (h1)) ?_
    refine Zv (.bool true) (Zv (.pointer (some ⟨b1, 3, none⟩)) (Zl 0 ⟨b1, (ndV n).cells, 48⟩ (off := 3) (.int .i64 n.key) ?_))
    by_cases h2 : (0 : Int) ≤ n.key
    · refine x8 (p := (0 : Int) ≤ n.key) true (by kernel_rfl) (fun _ => by kernel_rfl) (decide_eq_true (h2)) ?_
      refine Zv (.bool true) (Zv (.bool true) (Zv (.pointer (some ⟨b1, 3, none⟩)) (Zl 0 ⟨b1, (ndV n).cells, 48⟩ (off := 3) (.int .i64 n.key) ?_)))
      by_cases h3 : (n.key : Int) < 3
      · refine x8 (p := (n.key : Int) < 3) true (by kernel_rfl) (fun _ => by kernel_rfl) (decide_eq_true (h3)) ?_
        refine Zv (.bool true) (Zv (.bool true) (Zv (.pointer (some ⟨b1, 4, none⟩)) (Zl 0 ⟨b1, (ndV n).cells, 48⟩ (off := 4) (.string (mkS n.text)) (Zc (k := 76) (args := #[.string (mkS n.text)]) (.bool (wdL n.text)) (fun w _ => dH n.text w hs) (Zv (.bool (wdL n.text)) (Zv (.bool (wdL n.text)) ?_))))))
        cases h4 : wdL n.text with
        | true =>
          refine Zv (.pointer (some ⟨b1, 1, none⟩)) (Zl 0 ⟨b1, (ndV n).cells, 48⟩ (off := 1) (.int .i64 n.a) ?_)
          by_cases h5 : (n.a : Int) = 0
          · refine x8 (p := (n.a : Int) = 0) true (by kernel_rfl) (fun _ => by kernel_rfl) (decide_eq_true (h5)) ?_
            refine Zv (.bool true) (Zv (.bool true) (Zv (.pointer (some ⟨b1, 2, none⟩)) (Zl 0 ⟨b1, (ndV n).cells, 48⟩ (off := 2) (.int .i64 n.b) ?_)))
            by_cases h6 : (n.b : Int) = 0
            · refine x8 (p := (n.b : Int) = 0) true (by kernel_rfl) (fun _ => by kernel_rfl) (decide_eq_true (h6)) ?_
              exact Zv (.bool true) (Zv (.bool true) (ZN (zG (ZF (.bool true) Tryd.results73 (fun w hO => ⟨by rw [show xH n = true from by unfold xH; simp [h1, h2, h3, h4, h5, h6]; try omega], hO.below⟩)))))
            exact Zd (p := (n.b : Int) = 0) false (decide_eq_false (h6)) (Zv (.bool false) (Zv (.bool false) (ZN (zG (ZF (.bool false) Tryd.results73 (fun w hO => ⟨by rw [show xH n = false from by unfold xH; simp [h1, h2, h3, h4, h5, h6]; try omega], hO.below⟩))))))
          refine Zd (p := (n.a : Int) = 0) false (decide_eq_false (h5)) (Zv (.bool false) (Zv (.bool false) (Zk (Zk (Zk (Zv (.bool false) (Zv (.bool false) (ZN (zG (ZF (.bool false) Tryd.results73 ?_))))))))))
          exact fun w hO => ⟨by rw [show xH n = false from by unfold xH; simp [h1, h2, h3, h4, h5]; try omega], hO.below⟩
        | false =>
          refine Zk (Zk (Zk (Zv (.bool false) (Zv (.bool false) (Zk (Zk (Zk (Zv (.bool false) (Zv (.bool false) (zK (z8 ?_)))))))))))
          exact zG (ZF (.bool false) Tryd.results73 (fun w hO => ⟨by rw [show xH n = false from by unfold xH; simp [h1, h2, h3, h4]; try omega], hO.below⟩))
      refine Zd (p := (n.key : Int) < 3) false (decide_eq_false (h3)) (Zv (.bool false) (Zv (.bool false) (Zk (Zk (Zk (Zv (.bool false) (Zv (.bool false) (Zk (Zk (Zk (Zv (.bool false) ?_)))))))))))
      exact Zv (.bool false) (Zk (Zk (Zk (Zv (.bool false) (Zv (.bool false) (ZN (zG (ZF (.bool false) Tryd.results73 (fun w hO => ⟨by rw [show xH n = false from by unfold xH; simp [h1, h2, h3]; try omega], hO.below⟩)))))))))
    refine Zd (p := (0 : Int) ≤ n.key) false (decide_eq_false (h2)) (Zv (.bool false) (Zv (.bool false) (Zk (Zk (Zk (Zv (.bool false) (Zv (.bool false) (Zk (Zk (Zk (Zv (.bool false) ?_)))))))))))
    refine Zv (.bool false) (Zk (Zk (Zk (Zv (.bool false) (Zv (.bool false) (Zk (Zk (Zk (Zv (.bool false) (Zv (.bool false) (zK ?_)))))))))))
    exact z8 (zG (ZF (.bool false) Tryd.results73 (fun w hO => ⟨by rw [show xH n = false from by unfold xH; simp [h1, h2]; try omega], hO.below⟩)))
  refine Zd (p := (n.op : Int) = 1) false (decide_eq_false (h1)) (Zv (.bool false) (Zk (Zk (Zk (Zv (.bool false) (Zv (.bool false) (Zk (Zk (Zk (Zv (.bool false) (Zv (.bool false) ?_)))))))))))
  refine Zk (Zk (Zk (Zv (.bool false) (Zv (.bool false) (Zk (Zk (Zk (Zv (.bool false) (Zv (.bool false) (Zk (Zk ?_)))))))))))
  exact Zk (Zv (.bool false) (Zv (.bool false) (ZN (zG (ZF (.bool false) Tryd.results73 (fun w hO => ⟨by rw [show xH n = false from by unfold xH; simp [h1]; try omega], hO.below⟩))))))
theorem rd_key : ∀ (k : Nat), k < 3 → xQ Tryd.prog 9 #[.string ⟨#[111, 115]⟩, .string ⟨#[97, 114, 99, 104]⟩, .string ⟨#[97, 98, 105]⟩] (0 + k * 1) = some (.string (mkS (yH k)))
  | 0, _ => by kernel_rfl
  | 1, _ => by kernel_rfl
  | 2, _ => by kernel_rfl
theorem dI (k : Nat) (hk : k < 3) (W : World) : Calls Tryd.prog 83 #[.int .i64 (k : Int)] W fun e w' => e = .returned (.string (mkS (yH k))) ∧ Below W.heap.size W w' := by
  refine zU (n := 7) Tryd.func83 rfl (by kernel_rfl) (by kernel_rfl) (ZO (Zv (.string ⟨#[]⟩) (ZR (g0 9 #[.string ⟨#[111, 115]⟩, .string ⟨#[97, 114, 99, 104]⟩, .string ⟨#[97, 98, 105]⟩] (by kernel_rfl) rfl (fun _ => by kernel_rfl) (fun b1 => Zv (.int .i64 (k : Int)) (zM (.pointer (some ⟨b1, 0 + k * 1, none⟩)) (by kernel_rfl) (ZA (b := b1) (off := 0) (c := 3) (n := 3) (k := .i64) (j := (k : Int)) (e := 9) (sz := 1) rfl) (qH 0 ⟨b1, #[.string ⟨#[111, 115]⟩, .string ⟨#[97, 114, 99, 104]⟩, .string ⟨#[97, 98, 105]⟩], 9⟩ (off := 0 + k * 1) (.string (mkS (yH k))) (by kernel_rfl) rfl (by kernel_rfl) (by kernel_rfl) (rd_key k hk) ?_)))))))
  exact Zv (.string (mkS (yH k))) (ZN (zG (ZF (.string (mkS (yH k))) Tryd.results83 (fun w hO => ⟨rfl, hO.below⟩))))
def yA (c : Bool) (s : List UInt8) : List UInt8 := if c then [40, 32] ++ s ++ [32, 41] else s
theorem xP (s : List UInt8) (c : Bool) (W : World) (hs : s.length ≤ 1000000) : Calls Tryd.prog 84 #[.string (mkS s), .bool c] W fun e w' => e = .returned (.string (mkS (yA c s))) ∧ Below W.heap.size W w' := by
  refine zU (n := 10) Tryd.func84 rfl (by kernel_rfl) (by kernel_rfl) (ZO (Zv (.string ⟨#[]⟩) (ZN (zF (ZO (Zv (.bool c) (zK (z8 ?_))))))))
  cases h1 : c with
  | true =>
    refine Zt (ZO (Zv (.string (mkS s)) (zM (.string (mkS ([40, 32] ++ s))) (by kernel_rfl) (y9 (a := [40, 32]) (b := s) rfl (by kernel_rfl) (by kernel_rfl) (by first | omega | (simp only [List.length_append, List.length_cons, List.length_nil]; omega))) (zM (.string (mkS (([40, 32] ++ s) ++ [32, 41]))) (by kernel_rfl) (y9 (a := ([40, 32] ++ s)) (b := [32, 41]) rfl (by kernel_rfl) (by kernel_rfl) (by first | omega | (simp only [List.length_append, List.length_cons, List.length_nil]; omega))) (Zv (.string (mkS (([40, 32] ++ s) ++ [32, 41]))) (ZN (zG (z5 (ZF (.string (mkS (([40, 32] ++ s) ++ [32, 41]))) Tryd.results84 ?_)))))))))
    exact fun w hO => ⟨rfl, hO.below⟩
  | false =>
    exact Zf (ZB (ZO (Zv (.string (mkS s)) (Zv (.string (mkS s)) (ZN (zG (ZF (.string (mkS s)) Tryd.results84 (fun w hO => ⟨rfl, hO.below⟩))))))))
theorem pf_bad {e : Pf} {k : Nat} (hk : k < 3) (h : (decide (e k = []) || wdL (e k)) = false) : vQ e = false := by
  unfold vQ
  match k, hk with
  | 0, _ => rw [h]; simp
  | 1, _ => rw [h]; simp
  | 2, _ => rw [h]; simp
theorem nN (e : Pf) (W : World) (he : PfS e) : Calls Tryd.prog 59 #[pfV e] W fun x w' => x = .returned (.bool (vQ e)) ∧ Below W.heap.size W w' := by
  refine zU (n := 21) Tryd.func59 rfl (by kernel_rfl) (by kernel_rfl) (ZO (Zb (pfV e) (fun b1 => Zv (.bool false) (ZN (zF (ZO (Zv (.int .i64 0) (zK ?_))))))))
  refine z8 (zP (xT (fun L f m => ∃ (k : Nat) (j : Nat → Value), (k ≤ 3 ∧ ∀ i, i < k → (decide (e i = []) || wdL (e i)) = true) ∧ L = [⟨b1, (pfV e).cells, 33⟩] ∧ f = qT j [(1, .pointer (some ⟨b1, 0, none⟩)), (3, .int .i64 (k : Int))] ∧ m = 3 - k) (3 - 0) ⟨0, _, ⟨by omega, fun i hi => absurd hi (Nat.not_lt_zero _)⟩, rfl, ZU, rfl⟩ ?_))
  rintro L f m ⟨k, j, hrel, rfl, rfl, rfl⟩
  have hk6 := hrel.1
  refine zF (ZO (Zv (.int .i64 (k : Int)) ?_))
  by_cases h1 : (k : Int) < 3
  · have hk3 : k < 3 := by omega
    have hek := he.at hk3
    refine Zd (p := (k : Int) < 3) true (decide_eq_true (h1)) (ZY (ZB (zF (zP (ZO (Zv (.int .i64 (k : Int)) (Zv (.pointer (some ⟨b1, 0, none⟩)) ?_)))))))
    refine zM (.pointer (some ⟨b1, k, none⟩)) (by kernel_rfl) (xK (b := b1) (off := 0) (k := .i64) (j := (k : Int)) (n := 3) (e := 9) (sz := 1) rfl (by kernel_rfl) (by kernel_rfl) (by kernel_rfl) (by kernel_rfl) (by omega) (by omega) (by omega)) (qH 0 ⟨b1, (pfV e).cells, 33⟩ (off := k) (.string (mkS (e k))) (by kernel_rfl) rfl (by kernel_rfl) (by kernel_rfl) (wW e k hk3) ?_)
    by_cases h2 : ((e k) : List UInt8) = []
    · refine zM (.bool false) (by kernel_rfl) (xJ (a := (e k)) (b := ([])) rfl (by kernel_rfl) (by kernel_rfl) (decide_eq_true (h2))) ?_
      refine Zv (.bool false) (Zk (Zk (Zk (Zk (Zk (Zk (Zv (.bool false) (ZX (x6 ?_)))))))))
      exact zJ (z8 (z7 (Zv (.int .i64 (k : Int)) (Zu (k := .i64) (((k + 1 : Nat) : Int)) (IntWalk.i64_in _ (by omega)) (Zv (.int .i64 ((k + 1 : Nat) : Int)) (zK (zS (m' := 3 - (k + 1)) (by omega) ⟨k + 1, _, ⟨by omega, fun i hi => by rcases Nat.lt_succ_iff_lt_or_eq.1 hi with q | rfl; exact hrel.2 i q; simp [h2]⟩, rfl, ZU, rfl⟩)))))))
    refine zM (.bool true) (by kernel_rfl) (xJ (a := (e k)) (b := ([])) rfl (by kernel_rfl) (by kernel_rfl) (decide_eq_false (h2))) (Zv (.bool true) (Zv (.int .i64 (k : Int)) (Zv (.pointer (some ⟨b1, 0, none⟩)) (zM (.pointer (some ⟨b1, k, none⟩)) (by kernel_rfl) (xK (b := b1) (off := 0) (k := .i64) (j := (k : Int)) (n := 3) (e := 9) (sz := 1) rfl (by kernel_rfl) (by kernel_rfl) (by kernel_rfl) (by kernel_rfl) (by omega) (by omega) (by omega)) (qH 0 ⟨b1, (pfV e).cells, 33⟩ (off := k) (.string (mkS (e k))) (by kernel_rfl) rfl (by kernel_rfl) (by kernel_rfl) (wW e k hk3) (Zc (k := 76) (args := #[.string (mkS (e k))]) (.bool (wdL (e k))) (fun w _ => dH (e k) w hek) ?_))))))
    cases h3 : wdL (e k) with
    | true =>
      refine Zv (.bool false) (Zv (.bool false) (ZX (x6 (zJ (z8 (z7 (Zv (.int .i64 (k : Int)) (Zu (k := .i64) (((k + 1 : Nat) : Int)) (IntWalk.i64_in _ (by omega)) (Zv (.int .i64 ((k + 1 : Nat) : Int)) ?_)))))))))
      exact zK (zS (m' := 3 - (k + 1)) (by omega) ⟨k + 1, _, ⟨by omega, fun i hi => by rcases Nat.lt_succ_iff_lt_or_eq.1 hi with q | rfl; exact hrel.2 i q; simp [h2, h3]⟩, rfl, ZU, rfl⟩)
    | false =>
      refine Zv (.bool true) (Zv (.bool true) (ZY (ZO (Zv (.bool false) (ZN (zG (zD ?_)))))))
      exact z5 (yE (zD (z5 (ZF (.bool false) Tryd.results59 (fun w hO => ⟨by rw [pf_bad hk3 (by simp [h2, h3])], hO.below⟩)))))
  refine Zd (p := (k : Int) < 3) false (decide_eq_false (h1)) (ZX (xN (yG (zY (zZ (z8 (ZO (Zv (.bool true) ?_))))))))
  exact ZN (zG (ZF (.bool true) Tryd.results59 (fun w hO => ⟨by rw [show vQ e = true from by unfold vQ; rw [hrel.2 0 (by omega), hrel.2 1 (by omega), hrel.2 2 (by omega)]; rfl], hO.below⟩)))
end
end Go.Proofs.YthanpjfmlipdnaaDoor
