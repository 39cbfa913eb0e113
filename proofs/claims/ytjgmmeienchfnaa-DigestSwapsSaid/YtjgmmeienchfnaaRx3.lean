/-
  A region that draws its order and makes variables beside what it reads: what only reads blocks that were there at its start is taken first; the rest in each order that may come up. No condition.
-/
import Derived.Test.YtjgmmeienchfnaaRx2
import Derived.Deep.RegionHeld3
namespace Go.Proofs.Ytjgmmeienchfnaa
open Go.RowKit
set_option linter.unusedVariables false
set_option linter.unusedSimpArgs false

theorem Own.sub {M : List Nat} {W w : World} {L0 : List Blk} : ∀ (E : List Blk), Own M W w (E ++ L0) → Own M W w L0
  | [], h => h
  | e :: E, h => Own.sub E ⟨h.os, h.tape, h.output, h.size, h.drawn, h.kept, fun x hx => h.held x (List.mem_cons_of_mem _ hx), fun x hx => h.base x (List.mem_cons_of_mem _ hx), by
      have := h.apart
      rw [List.cons_append, List.map_cons, List.nodup_cons] at this
      exact this.2⟩
theorem Own.swap {M : List Nat} {W w : World} {x y : Blk} {L : List Blk} (h : Own M W w (x :: y :: L)) : Own M W w (y :: x :: L) :=
  ⟨h.os, h.tape, h.output, h.size, h.drawn, h.kept, fun z hz => h.held z (by simp only [List.mem_cons] at hz ⊢; rcases hz with h | h | h <;> simp [h]), fun z hz => h.base z (by simp only [List.mem_cons] at hz ⊢; rcases hz with h | h | h <;> simp [h]), by
    have := h.apart
    simp only [List.map_cons, List.nodup_cons, List.mem_cons, not_or] at this ⊢
    exact ⟨⟨fun e => this.1.1 e.symm, this.2.1⟩, this.1.2, this.2.2⟩⟩
section
variable {M : List Nat} {P : Program} {n : Nat} {ops : Array Oper} {W : World} {Q : Exit → Act → World → Prop} {L0 L : List Blk} {f : Nat → Value} {fuel : Nat} {listed : Array Bool}
def PQ (Q : Exit → Act → World → Prop) : Prop := ∀ c (a : Act) d v w, Q (.panic c) (a.put d v) w → Q (.panic c) a w
theorem pq_seq {K : Act → World → Prop} (h : PQ Q) : PQ (Exit.then K Q) := fun c a d v w h2 => h c a d v w h2
theorem pq_block {id : Nat} (h : PQ Q) : PQ (Exit.inBlock id Q) := fun c a d v w h2 => h c a d v w h2
theorem pq_round {Inv : List Blk → (Nat → Value) → Nat → Prop} {m : Nat} (h : PQ Q) : PQ (Round M n W Inv m Q) := fun c a d v w h2 => h c a d v w h2
theorem pq_body {fn : Func} {R : Ending → World → Prop} : PQ (bodyPost P fn R) := fun c a d v w h2 => by cases d <;> exact h2
structure HSeg (M : List Nat) (P : Program) (n : Nat) (ops : Array Oper) (W : World) (L0 : List Blk) (Q : Exit → Act → World → Prop) (fuel : Nat) (listed : Array Bool) (L : List Blk) (f : Nat → Value) : Prop where
  go : ∀ w, Own M W w L → wpAnyH P .any ops Q (fun w => Own M W w L0) fuel listed (Fr n f) w
structure HStep (M : List Nat) (P : Program) (n : Nat) (ops : Array Oper) (W : World) (L0 : List Blk) (Q : Exit → Act → World → Prop) (fuel : Nat) (listed : Array Bool) (i : Nat) (L : List Blk) (f : Nat → Value) : Prop where
  go : ∀ w, Own M W w L → wpOp P ops Q i (fun a' w' => Own M W w' L0 ∧ wpAnyH P .any ops Q (fun w => Own M W w L0) fuel (listed.setIfInBounds i true) a' w') (Fr n f) w
theorem ok_anyh {id : Nat} {l : List Oper} (hm : P.follows .mixedOrders = true) (h : HSeg M P n l.toArray W L Q l.length (Array.replicate l.length false) L f) : Ok M P n W Q (.region id l.toArray true) L f := ⟨fun w hO => by
  have := wp_region_held (id := id) (S := fun w => Own M W w L) hm (ops := l.toArray) (Q := Q) (a := Fr n f) (w := w) (by simpa using h.go _ hO.drew)
  exact this⟩
theorem h_done (hr : Region.ready .any ops listed = []) (h : Fin M n W Q .normal L f) : HSeg M P n ops W L0 Q fuel listed L f := ⟨fun w hO => wpAnyH_done hr (h.go w hO) fuel⟩
theorem h_take (i : Nat) (E : List Blk) (oi : Oper) (v : Value) (hi : ops[i]? = some oi) (hs : Region.noSelect ops = true) (hf : Region.free .any ops listed i = true) (hr : (Region.ready .any ops listed).contains i = true)
    (hQ : PQ Q) (hw : want ops n f oi = true) (hv : ∀ w, Own M W w L0 → (execOp (ev n f) oi).run P w = .ok (.value v) w)
    (h : HSeg M P n ops W L0 Q fuel (listed.setIfInBounds i true) (E ++ L0) (upd f oi.dst v)) : HSeg M P n ops W L0 Q (fuel + 1) listed (E ++ L0) f := ⟨fun w hO => by
  refine wpAnyH_take hi hs hf hr (fun c a w h => hQ c a _ _ w h) (Or.inl ⟨by rw [want_eq]; exact hw, fun w hw' => by rw [Fr_eval]; exact hv w hw'⟩) (hO.sub E) ?_
  rw [Fr_put]
  exact h.go w hO⟩
theorem h_skip (i : Nat) (E : List Blk) (oi : Oper) (hi : ops[i]? = some oi) (hs : Region.noSelect ops = true) (hf : Region.free .any ops listed i = true) (hr : (Region.ready .any ops listed).contains i = true)
    (hQ : PQ Q) (hw : want ops n f oi = false)
    (h : HSeg M P n ops W L0 Q fuel (listed.setIfInBounds i true) (E ++ L0) (upd f oi.dst undef)) : HSeg M P n ops W L0 Q (fuel + 1) listed (E ++ L0) f := ⟨fun w hO => by
  refine wpAnyH_take hi hs hf hr (fun c a w h => hQ c a _ _ w h) (Or.inr ⟨by rw [want_eq]; exact hw, rfl⟩) (hO.sub E) ?_
  rw [Fr_put]
  exact h.go w hO⟩
theorem h_load (i : Nat) (E : List Blk) (oi : Oper) (k : Nat) (x : Blk) {ty : TypeId} {p : Operand} {off : Nat} (v : Value) (hi : ops[i]? = some oi) (hs : Region.noSelect ops = true) (hf : Region.free .any ops listed i = true) (hr : (Region.ready .any ops listed).contains i = true)
    (hQ : PQ Q) (hw : want ops n f oi = true) (ho : oi.op = .load ty p) (hL : L0[k]? = some x) (hp : ev n f p = .pointer (some ⟨x.b, off, none⟩)) (hv : readAt P ty x.cs off = some v)
    (h : HSeg M P n ops W L0 Q fuel (listed.setIfInBounds i true) (E ++ L0) (upd f oi.dst v)) : HSeg M P n ops W L0 Q (fuel + 1) listed (E ++ L0) f :=
  h_take i E oi v hi hs hf hr hQ hw (fun _ hO => run_load_op ho hp (run_readAt hv (hO.get hL))) h
theorem h_one (i : Nat) (hr : Region.ready .any ops listed = [i]) (h : HStep M P n ops W L0 Q fuel listed i L f) : HSeg M P n ops W L0 Q (fuel + 1) listed L f := ⟨fun w hO =>
  wpAnyH_all hr (by simp) fun j hj => by obtain rfl : j = i := by simpa using hj
                                         exact h.go w hO⟩
theorem h_two (i j : Nat) (hr : Region.ready .any ops listed = [i, j]) (h : HStep M P n ops W L0 Q fuel listed i L f) (h' : HStep M P n ops W L0 Q fuel listed j L f) : HSeg M P n ops W L0 Q (fuel + 1) listed L f := ⟨fun w hO =>
  wpAnyH_all hr (by simp) fun k hk => by
    rcases List.mem_cons.1 hk with rfl | hk
    · exact h.go w hO
    · obtain rfl : k = j := by simpa using hk
      exact h'.go w hO⟩
theorem h_three (i j k : Nat) (hr : Region.ready .any ops listed = [i, j, k]) (h : HStep M P n ops W L0 Q fuel listed i L f) (h' : HStep M P n ops W L0 Q fuel listed j L f) (h'' : HStep M P n ops W L0 Q fuel listed k L f) : HSeg M P n ops W L0 Q (fuel + 1) listed L f := ⟨fun w hO =>
  wpAnyH_all hr (by simp) fun m hm => by
    simp only [List.mem_cons, List.not_mem_nil, or_false] at hm
    rcases hm with rfl | rfl | rfl
    · exact h.go w hO
    · exact h'.go w hO
    · exact h''.go w hO⟩
theorem hs_step {i : Nat} {oi : Oper} (hi : ops[i]? = some oi) (hw : want ops n f oi = true) (h : ∀ w, Own M W w L → oi.wp P (Fr n f) w (fun a' w' => Own M W w' L0 ∧ wpAnyH P .any ops Q (fun w => Own M W w L0) fuel (listed.setIfInBounds i true) a' w') Q) : HStep M P n ops W L0 Q fuel listed i L f := ⟨fun w hO => by
  unfold wpOp
  simp only [hi]
  rw [want_eq, hw, if_pos rfl]
  exact .inl (h w hO)⟩
theorem hs_val {i : Nat} (E : List Blk) (oi : Oper) (v : Value) (hi : ops[i]? = some oi) (hw : want ops n f oi = true) (hv : ∀ w, Own M W w (E ++ L0) → (execOp (ev n f) oi).run P w = .ok (.value v) w)
    (h : HSeg M P n ops W L0 Q fuel (listed.setIfInBounds i true) (E ++ L0) (upd f oi.dst v)) : HStep M P n ops W L0 Q fuel listed i (E ++ L0) f :=
  hs_step hi hw fun w hO => wp_val v (hv w hO) ⟨hO.sub E, h.go w hO⟩
theorem hs_call {i : Nat} (E : List Blk) (oi : Oper) {k : FuncId} {args : Array Value} (v : Value) (hi : ops[i]? = some oi) (hw : want ops n f oi = true) (he : ∀ w, (execOp (ev n f) oi).run P w = .ok (.enter k args) w)
    (hc : ∀ w, Own M W w (E ++ L0) → Calls P k args w fun e w' => e = .returned v ∧ Below w.heap.size w w') (h : HSeg M P n ops W L0 Q fuel (listed.setIfInBounds i true) (E ++ L0) (upd f oi.dst v)) : HStep M P n ops W L0 Q fuel listed i (E ++ L0) f :=
  hs_step hi hw fun w hO => wp_enter (he w) ((hc w hO).mono fun e w' ⟨e1, e2⟩ => ⟨v, e1, (hO.on e2).sub E, h.go w' (hO.on e2)⟩)
theorem hs_alloc {i : Nat} (E : List Blk) (oi : Oper) {T : TypeId} (z : Value) (hi : ops[i]? = some oi) (hw : want ops n f oi = true) (ho : oi.op = .alloc T) (hz : (P.info? T).map (·.zero) = some (some z))
    (h : ∀ b, HSeg M P n ops W L0 Q fuel (listed.setIfInBounds i true) ((⟨b, z.cells, T⟩ :: E) ++ L0) (upd f oi.dst (.pointer (some ⟨b, 0, none⟩)))) : HStep M P n ops W L0 Q fuel listed i (E ++ L0) f :=
  hs_step hi hw fun w hO => by
    cases hq : P.info? T with
    | none => rw [hq] at hz; cases hz
    | some t =>
      rw [hq] at hz
      have hz' : t.zero = some z := Option.some.inj hz
      have hO' := hO.alloc z.cells T
      refine wp_val (.pointer (some ⟨w.heap.size, 0, none⟩)) (w' := w.alloc (.cells z.cells T)) ?_ ⟨Own.sub (⟨w.heap.size, z.cells, T⟩ :: E) hO', (h w.heap.size).go _ hO'⟩
      unfold execOp
      simp [ho, Instr.alloc, zeroValue, typeInfo, hq, hz', newVar, newRow, Sem.run_bind]
/-- A store into a block that the region has made. -/
theorem hs_store {i : Nat} (E : List Blk) (oi : Oper) (k : Nat) (x : Blk) {T : TypeId} {p q : Operand} {off : Nat} (v : Value) (hi' : ops[i]? = some oi) (hw : want ops n f oi = true) (ho : oi.op = .store T p q) (hd : oi.dst = none) (hL : E[k]? = some x)
    (hp : ev n f p = .pointer (some ⟨x.b, off, none⟩)) (hq : ev n f q = v) (hi : ((P.info? T).map fun t => Nat.beq v.cells.size t.size && Nat.ble (off + t.size) x.cs.size) = some true) (h1 : (v.cells.toList.all fun u => u.oneCell') = true)
    (h : HSeg M P n ops W L0 Q fuel (listed.setIfInBounds i true) (E.set k ⟨x.b, storeIn x.cs off v.cells, x.ty⟩ ++ L0) f) : HStep M P n ops W L0 Q fuel listed i (E ++ L0) f :=
  hs_step hi' hw fun w hO => by
    have hkE := (List.getElem?_eq_some_iff.1 hL).1
    have hL' : (E ++ L0)[k]? = some x := by rw [List.getElem?_append_left hkE]; exact hL
    have hset : (E ++ L0).set k ⟨x.b, storeIn x.cs off v.cells, x.ty⟩ = E.set k ⟨x.b, storeIn x.cs off v.cells, x.ty⟩ ++ L0 := List.set_append_left _ _ hkE
    cases hz : P.info? T with
    | none => rw [hz] at hi; cases hi
    | some t =>
      rw [hz] at hi
      have e : (Nat.beq v.cells.size t.size && Nat.ble (off + t.size) x.cs.size) = true := Option.some.inj hi
      rw [Bool.and_eq_true] at e
      have hs := Nat.eq_of_beq_eq_true e.1
      have hle := Nat.le_of_ble_eq_true e.2
      have hst := run_storeCells_at (P := P) x.b off x.ty v.cells.toList 0 x.cs w (hO.get hL') (by simp; omega) (List.all_eq_true.1 h1)
      have hO' := hO.put hL' (storeIn x.cs off v.cells)
      rw [hset] at hO'
      unfold Oper.wp
      rw [Fr_eval]
      have hr : (execOp (ev n f) oi).run P w = .ok .skip (w.setRow x.b (storeIn x.cs off v.cells)) := by
        unfold execOp
        simp only [ho, hp, hq, Instr.storeAt, Instr.sureAddr, Sem.run_bind, Sem.run_pure, Result.andThen_ok, storeVar, sizeOf, typeInfo, hz, hs, run_program]
        simp only [ne_eq, not_true_eq_false, if_false]
        have : (storeCells ⟨x.b, off, none⟩ v.cells.toList).run P w = .ok () (w.setRow x.b (storeIn x.cs off v.cells)) := by
          rw [hst]; unfold storeIn; simp
        simp [this]
      rw [hr]
      show Own M W _ L0 ∧ wpAnyH P .any ops Q (fun w => Own M W w L0) fuel (listed.setIfInBounds i true) ((Fr n f).put oi.dst undef) _
      rw [Fr_put, hd]
      exact ⟨Own.sub _ hO', h.go _ hO'⟩
theorem ok_swap {c : Code} {x y : Blk} (h : Ok M P n W Q c (x :: y :: L) f) : Ok M P n W Q c (y :: x :: L) f := ⟨fun w hO => h.go w hO.swap⟩
theorem fin_swap {e : Exit} {x y : Blk} (h : Fin M n W Q e (x :: y :: L) f) : Fin M n W Q e (y :: x :: L) f := ⟨fun w hO => h.go w hO.swap⟩
end
end Go.Proofs.Ytjgmmeienchfnaa
