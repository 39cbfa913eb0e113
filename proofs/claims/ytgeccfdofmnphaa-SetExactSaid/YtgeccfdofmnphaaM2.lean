/-
  What the statements' proofs lean on, part 2: each part begins with a remark that says what it proves and on what conditions.
-/
import Derived.Deep.RegionHeld3
import Derived.Laws.AppendOwn
import Derived.Laws.Slices
import Derived.Laws.MakeOwn
import Derived.Lib.BufferWrite
import Derived.Lib.UnsafeStr
import Derived.IntWalk
import Derived.Outline
import Derived.StillTailTactics
import Derived.Laws.StructEq
import Derived.WalkLawsBesides
import Derived.Test.YtgeccfdofmnphaaM1

section
/-
  A region that draws its order and makes variables beside what it reads: what only reads blocks that were there at its start is taken first; the rest in each order that may come up. No condition.
-/
namespace Go.Proofs.Ytgeccfdofmnphaa
open Go.RowKit
set_option linter.unusedVariables false
set_option linter.unusedSimpArgs false

theorem Own.sub {M : List Nat} {W w : World} {L0 : List Blk} : ∀ (E : List Blk), Own M W w (E ++ L0) → Own M W w L0
  | [], h => h
  | e :: E, h => Own.sub E ⟨h.os, h.tape, h.output, h.size, h.drawn, h.kept, fun x hx => h.held x (List.mem_cons_of_mem _ hx), fun x hx => h.base x (List.mem_cons_of_mem _ hx), by
      have := h.apart
      rw [List.cons_append, List.map_cons, List.nodup_cons] at this
      exact this.2⟩
theorem Own.swap {M : List Nat} {W w : World} {x y : Blk} {L : List Blk} (h : Own M W w (x :: y :: L)) : Own M W w (y :: x :: L) :=
  ⟨h.os, h.tape, h.output, h.size, h.drawn, h.kept, fun z hz => h.held z (by simp only [List.mem_cons] at hz ⊢; rcases hz with h | h | h <;> simp [h]), fun z hz => h.base z (by simp only [List.mem_cons] at hz ⊢; rcases hz with h | h | h <;> simp [h]), by
    have := h.apart
    simp only [List.map_cons, List.nodup_cons, List.mem_cons, not_or] at this ⊢
    exact ⟨⟨fun e => this.1.1 e.symm, this.2.1⟩, this.1.2, this.2.2⟩⟩
section
variable {M : List Nat} {P : Program} {n : Nat} {ops : Array Oper} {W : World} {Q : Exit → Act → World → Prop} {L0 L : List Blk} {f : Nat → Value} {fuel : Nat} {listed : Array Bool}
def PQ (Q : Exit → Act → World → Prop) : Prop := ∀ c (a : Act) d v w, Q (.panic c) (a.put d v) w → Q (.panic c) a w
theorem pq_seq {K : Act → World → Prop} (h : PQ Q) : PQ (Exit.then K Q) := fun c a d v w h2 => h c a d v w h2
theorem pq_block {id : Nat} (h : PQ Q) : PQ (Exit.inBlock id Q) := fun c a d v w h2 => h c a d v w h2
theorem pq_round {Inv : List Blk → (Nat → Value) → Nat → Prop} {m : Nat} (h : PQ Q) : PQ (Round M n W Inv m Q) := fun c a d v w h2 => h c a d v w h2
theorem pq_body {fn : Func} {R : Ending → World → Prop} : PQ (bodyPost P fn R) := fun c a d v w h2 => by cases d <;> exact h2
structure HSeg (M : List Nat) (P : Program) (n : Nat) (ops : Array Oper) (W : World) (L0 : List Blk) (Q : Exit → Act → World → Prop) (fuel : Nat) (listed : Array Bool) (L : List Blk) (f : Nat → Value) : Prop where
  go : ∀ w, Own M W w L → wpAnyH P .any ops Q (fun w => Own M W w L0) fuel listed (Fr n f) w
structure HStep (M : List Nat) (P : Program) (n : Nat) (ops : Array Oper) (W : World) (L0 : List Blk) (Q : Exit → Act → World → Prop) (fuel : Nat) (listed : Array Bool) (i : Nat) (L : List Blk) (f : Nat → Value) : Prop where
  go : ∀ w, Own M W w L → wpOp P ops Q i (fun a' w' => Own M W w' L0 ∧ wpAnyH P .any ops Q (fun w => Own M W w L0) fuel (listed.setIfInBounds i true) a' w') (Fr n f) w
theorem ok_anyh {id : Nat} {l : List Oper} (hm : P.follows .mixedOrders = true) (h : HSeg M P n l.toArray W L Q l.length (Array.replicate l.length false) L f) : Ok M P n W Q (.region id l.toArray true) L f := ⟨fun w hO => by
  have := wp_region_held (id := id) (S := fun w => Own M W w L) hm (ops := l.toArray) (Q := Q) (a := Fr n f) (w := w) (by simpa using h.go _ hO.drew)
  exact this⟩
theorem h_done (hr : Region.ready .any ops listed = []) (h : Fin M n W Q .normal L f) : HSeg M P n ops W L0 Q fuel listed L f := ⟨fun w hO => wpAnyH_done hr (h.go w hO) fuel⟩
theorem h_take (i : Nat) (E : List Blk) (oi : Oper) (v : Value) (hi : ops[i]? = some oi) (hs : Region.noSelect ops = true) (hf : Region.free .any ops listed i = true) (hr : (Region.ready .any ops listed).contains i = true)
    (hQ : PQ Q) (hw : want ops n f oi = true) (hv : ∀ w, Own M W w L0 → (execOp (ev n f) oi).run P w = .ok (.value v) w)
    (h : HSeg M P n ops W L0 Q fuel (listed.setIfInBounds i true) (E ++ L0) (upd f oi.dst v)) : HSeg M P n ops W L0 Q (fuel + 1) listed (E ++ L0) f := ⟨fun w hO => by
  refine wpAnyH_take hi hs hf hr (fun c a w h => hQ c a _ _ w h) (Or.inl ⟨by rw [want_eq]; exact hw, fun w hw' => by rw [Fr_eval]; exact hv w hw'⟩) (hO.sub E) ?_
  rw [Fr_put]
  exact h.go w hO⟩
theorem h_skip (i : Nat) (E : List Blk) (oi : Oper) (hi : ops[i]? = some oi) (hs : Region.noSelect ops = true) (hf : Region.free .any ops listed i = true) (hr : (Region.ready .any ops listed).contains i = true)
    (hQ : PQ Q) (hw : want ops n f oi = false)
    (h : HSeg M P n ops W L0 Q fuel (listed.setIfInBounds i true) (E ++ L0) (upd f oi.dst undef)) : HSeg M P n ops W L0 Q (fuel + 1) listed (E ++ L0) f := ⟨fun w hO => by
  refine wpAnyH_take hi hs hf hr (fun c a w h => hQ c a _ _ w h) (Or.inr ⟨by rw [want_eq]; exact hw, rfl⟩) (hO.sub E) ?_
  rw [Fr_put]
  exact h.go w hO⟩
theorem h_load (i : Nat) (E : List Blk) (oi : Oper) (k : Nat) (x : Blk) {ty : TypeId} {p : Operand} {off : Nat} (v : Value) (hi : ops[i]? = some oi) (hs : Region.noSelect ops = true) (hf : Region.free .any ops listed i = true) (hr : (Region.ready .any ops listed).contains i = true)
    (hQ : PQ Q) (hw : want ops n f oi = true) (ho : oi.op = .load ty p) (hL : L0[k]? = some x) (hp : ev n f p = .pointer (some ⟨x.b, off, none⟩)) (hv : readAt P ty x.cs off = some v)
    (h : HSeg M P n ops W L0 Q fuel (listed.setIfInBounds i true) (E ++ L0) (upd f oi.dst v)) : HSeg M P n ops W L0 Q (fuel + 1) listed (E ++ L0) f :=
  h_take i E oi v hi hs hf hr hQ hw (fun _ hO => run_load_op ho hp (run_readAt hv (hO.get hL))) h
theorem h_one (i : Nat) (hr : Region.ready .any ops listed = [i]) (h : HStep M P n ops W L0 Q fuel listed i L f) : HSeg M P n ops W L0 Q (fuel + 1) listed L f := ⟨fun w hO =>
  wpAnyH_all hr (by simp) fun j hj => by obtain rfl : j = i := by simpa using hj
                                         exact h.go w hO⟩
theorem h_two (i j : Nat) (hr : Region.ready .any ops listed = [i, j]) (h : HStep M P n ops W L0 Q fuel listed i L f) (h' : HStep M P n ops W L0 Q fuel listed j L f) : HSeg M P n ops W L0 Q (fuel + 1) listed L f := ⟨fun w hO =>
  wpAnyH_all hr (by simp) fun k hk => by
    rcases List.mem_cons.1 hk with rfl | hk
    · exact h.go w hO
    · obtain rfl : k = j := by simpa using hk
      exact h'.go w hO⟩
theorem h_three (i j k : Nat) (hr : Region.ready .any ops listed = [i, j, k]) (h : HStep M P n ops W L0 Q fuel listed i L f) (h' : HStep M P n ops W L0 Q fuel listed j L f) (h'' : HStep M P n ops W L0 Q fuel listed k L f) : HSeg M P n ops W L0 Q (fuel + 1) listed L f := ⟨fun w hO =>
  wpAnyH_all hr (by simp) fun m hm => by
    simp only [List.mem_cons, List.not_mem_nil, or_false] at hm
    rcases hm with rfl | rfl | rfl
    · exact h.go w hO
    · exact h'.go w hO
    · exact h''.go w hO⟩
theorem hs_step {i : Nat} {oi : Oper} (hi : ops[i]? = some oi) (hw : want ops n f oi = true) (h : ∀ w, Own M W w L → oi.wp P (Fr n f) w (fun a' w' => Own M W w' L0 ∧ wpAnyH P .any ops Q (fun w => Own M W w L0) fuel (listed.setIfInBounds i true) a' w') Q) : HStep M P n ops W L0 Q fuel listed i L f := ⟨fun w hO => by
  unfold wpOp
  simp only [hi]
  rw [want_eq, hw, if_pos rfl]
  exact .inl (h w hO)⟩
theorem hs_val {i : Nat} (E : List Blk) (oi : Oper) (v : Value) (hi : ops[i]? = some oi) (hw : want ops n f oi = true) (hv : ∀ w, Own M W w (E ++ L0) → (execOp (ev n f) oi).run P w = .ok (.value v) w)
    (h : HSeg M P n ops W L0 Q fuel (listed.setIfInBounds i true) (E ++ L0) (upd f oi.dst v)) : HStep M P n ops W L0 Q fuel listed i (E ++ L0) f :=
  hs_step hi hw fun w hO => wp_val v (hv w hO) ⟨hO.sub E, h.go w hO⟩
theorem hs_call {i : Nat} (E : List Blk) (oi : Oper) {k : FuncId} {args : Array Value} (v : Value) (hi : ops[i]? = some oi) (hw : want ops n f oi = true) (he : ∀ w, (execOp (ev n f) oi).run P w = .ok (.enter k args) w)
    (hc : ∀ w, Own M W w (E ++ L0) → Calls P k args w fun e w' => e = .returned v ∧ Below w.heap.size w w') (h : HSeg M P n ops W L0 Q fuel (listed.setIfInBounds i true) (E ++ L0) (upd f oi.dst v)) : HStep M P n ops W L0 Q fuel listed i (E ++ L0) f :=
  hs_step hi hw fun w hO => wp_enter (he w) ((hc w hO).mono fun e w' ⟨e1, e2⟩ => ⟨v, e1, (hO.on e2).sub E, h.go w' (hO.on e2)⟩)
theorem hs_alloc {i : Nat} (E : List Blk) (oi : Oper) {T : TypeId} (z : Value) (hi : ops[i]? = some oi) (hw : want ops n f oi = true) (ho : oi.op = .alloc T) (hz : (P.info? T).map (·.zero) = some (some z))
    (h : ∀ b, HSeg M P n ops W L0 Q fuel (listed.setIfInBounds i true) ((⟨b, z.cells, T⟩ :: E) ++ L0) (upd f oi.dst (.pointer (some ⟨b, 0, none⟩)))) : HStep M P n ops W L0 Q fuel listed i (E ++ L0) f :=
  hs_step hi hw fun w hO => by
    cases hq : P.info? T with
    | none => rw [hq] at hz; cases hz
    | some t =>
      rw [hq] at hz
      have hz' : t.zero = some z := Option.some.inj hz
      have hO' := hO.alloc z.cells T
      refine wp_val (.pointer (some ⟨w.heap.size, 0, none⟩)) (w' := w.alloc (.cells z.cells T)) ?_ ⟨Own.sub (⟨w.heap.size, z.cells, T⟩ :: E) hO', (h w.heap.size).go _ hO'⟩
      unfold execOp
      simp [ho, Instr.alloc, zeroValue, typeInfo, hq, hz', newVar, newRow, Sem.run_bind]
/-- A store into a block that the region has made. -/
theorem hs_store {i : Nat} (E : List Blk) (oi : Oper) (k : Nat) (x : Blk) {T : TypeId} {p q : Operand} {off : Nat} (v : Value) (hi' : ops[i]? = some oi) (hw : want ops n f oi = true) (ho : oi.op = .store T p q) (hd : oi.dst = none) (hL : E[k]? = some x)
    (hp : ev n f p = .pointer (some ⟨x.b, off, none⟩)) (hq : ev n f q = v) (hi : ((P.info? T).map fun t => Nat.beq v.cells.size t.size && Nat.ble (off + t.size) x.cs.size) = some true) (h1 : (v.cells.toList.all fun u => u.oneCell') = true)
    (h : HSeg M P n ops W L0 Q fuel (listed.setIfInBounds i true) (E.set k ⟨x.b, storeIn x.cs off v.cells, x.ty⟩ ++ L0) f) : HStep M P n ops W L0 Q fuel listed i (E ++ L0) f :=
  hs_step hi' hw fun w hO => by
    have hkE := (List.getElem?_eq_some_iff.1 hL).1
    have hL' : (E ++ L0)[k]? = some x := by rw [List.getElem?_append_left hkE]; exact hL
    have hset : (E ++ L0).set k ⟨x.b, storeIn x.cs off v.cells, x.ty⟩ = E.set k ⟨x.b, storeIn x.cs off v.cells, x.ty⟩ ++ L0 := List.set_append_left _ _ hkE
    cases hz : P.info? T with
    | none => rw [hz] at hi; cases hi
    | some t =>
      rw [hz] at hi
      have e : (Nat.beq v.cells.size t.size && Nat.ble (off + t.size) x.cs.size) = true := Option.some.inj hi
      rw [Bool.and_eq_true] at e
      have hs := Nat.eq_of_beq_eq_true e.1
      have hle := Nat.le_of_ble_eq_true e.2
      have hst := run_storeCells_at (P := P) x.b off x.ty v.cells.toList 0 x.cs w (hO.get hL') (by simp; omega) (List.all_eq_true.1 h1)
      have hO' := hO.put hL' (storeIn x.cs off v.cells)
      rw [hset] at hO'
      unfold Oper.wp
      rw [Fr_eval]
      have hr : (execOp (ev n f) oi).run P w = .ok .skip (w.setRow x.b (storeIn x.cs off v.cells)) := by
        unfold execOp
        simp only [ho, hp, hq, Instr.storeAt, Instr.sureAddr, Sem.run_bind, Sem.run_pure, Result.andThen_ok, storeVar, sizeOf, typeInfo, hz, hs, run_program]
        simp only [ne_eq, not_true_eq_false, if_false]
        have : (storeCells ⟨x.b, off, none⟩ v.cells.toList).run P w = .ok () (w.setRow x.b (storeIn x.cs off v.cells)) := by
          rw [hst]; unfold storeIn; simp
        simp [this]
      rw [hr]
      show Own M W _ L0 ∧ wpAnyH P .any ops Q (fun w => Own M W w L0) fuel (listed.setIfInBounds i true) ((Fr n f).put oi.dst undef) _
      rw [Fr_put, hd]
      exact ⟨Own.sub _ hO', h.go _ hO'⟩
theorem ok_swap {c : Code} {x y : Blk} (h : Ok M P n W Q c (x :: y :: L) f) : Ok M P n W Q c (y :: x :: L) f := ⟨fun w hO => h.go w hO.swap⟩
theorem fin_swap {e : Exit} {x y : Blk} (h : Fin M n W Q e (x :: y :: L) f) : Fin M n W Q e (y :: x :: L) f := ⟨fun w hO => h.go w hO.swap⟩
end
end Go.Proofs.Ytgeccfdofmnphaa
end

section
/-
  Slices that the call has made: what they hold, append, an element's address and value. No condition of their own but the bounds that each theorem names.
-/
namespace Go.Proofs.Ytgeccfdofmnphaa
open Go.RowKit
set_option linter.unusedVariables false
set_option linter.unusedSimpArgs false

/-- The slice value v has n elements of type T (sz cells each), the cells xs; it is nil, or it lies at the head of the one block of ob. -/
def Sl (T : TypeId) (sz : Nat) (v : Value) (n : Nat) (xs : List Value) (ob : List Blk) : Prop :=
  xs.length = n * sz ∧ ((v = .slice none 0 0 ∧ n = 0 ∧ ob = []) ∨
    ∃ g cap cur, v = .slice (some ⟨g, 0, none⟩) n cap ∧ ob = [⟨g, cur, T⟩] ∧ n ≤ cap ∧ cap ≤ maxLen ∧ cur.size = cap * sz ∧ cur.toList.take (n * sz) = xs)
theorem Sl.nil (T : TypeId) (sz : Nat) : Sl T sz (.slice none 0 0) 0 [] [] := ⟨by simp, .inl ⟨rfl, rfl, rfl⟩⟩
/-- The list of blocks in another order, or with some left out. -/
theorem Own.take {M : List Nat} {W w : World} {L L' : List Blk} (h : Own M W w L) (hs : ∀ x ∈ L', x ∈ L) (hn : (L'.map Blk.b).Nodup) : Own M W w L' :=
  ⟨h.os, h.tape, h.output, h.size, h.drawn, h.kept, fun x hx => h.held x (hs x hx), fun x hx => h.base x (hs x hx), hn⟩
theorem Own.move {M : List Nat} {W w : World} {E ob L0 : List Blk} {x : Blk} (h : Own M W w (x :: (E ++ ob ++ L0))) : Own M W w (E ++ [x] ++ L0) := by
  refine h.take (fun y hy => ?_) ?_
  · simp only [List.mem_append, List.mem_cons, List.not_mem_nil, or_false] at hy ⊢
    rcases hy with (hy | hy) | hy
    · exact .inr (.inl (.inl hy))
    · exact .inl hy
    · exact .inr (.inr hy)
  · have h1 := h.apart
    have h2 : ((x :: (E ++ L0)).map Blk.b).Nodup := by
      refine h1.sublist (List.Sublist.map _ (List.Sublist.cons_cons _ ?_))
      rw [List.append_assoc]
      exact List.Sublist.append (List.Sublist.refl E) (List.sublist_append_right ob L0)
    have hp : (E ++ [x] ++ L0).Perm (x :: (E ++ L0)) := by
      rw [List.append_assoc]; exact List.perm_middle
    exact (hp.map Blk.b).nodup_iff.2 h2
theorem drew_own {M : List Nat} {W w : World} {L : List Blk} (h : Own M W w L) : Own M W w.drew L := h.drew
section
variable {M : List Nat} {P : Program} {W w : World} {E ob L0 : List Blk}
/-- append, precisely: in place, or in a new block in the old one's stead. -/
theorem own_append {t ty T : TypeId} {i : TypeInfo} {z : Value} {sz : Nat} (ht : P.underlying t = some (.slice T)) (hi : P.info? T = some i) (hz : i.zero = some z) (hsz : i.size = sz) (hzs : z.cells.size = sz)
    {v : Value} {n : Nat} {xs : List Value} (hv : Sl T sz v n xs ob) (hO : Own M W w (E ++ ob ++ L0))
    {a : Addr} {m c : Nat} {news : List Value} (hl : news.length = m * sz) (hnews : ∀ j u, news[j]? = some u → w.cell? (a.add j) = some u) (h1 : ∀ u ∈ news, u.oneCell' = true)
    (h63 : n + m ≤ maxLen) (hbytes : (n + m) * i.bytes ≤ 140737488355328) :
    ∃ v' w' ob', (Builtin.append_ #[t, t] ty #[v, .slice (some a) m c]).run P w = .ok v' w' ∧ Sl T sz v' (n + m) (xs ++ news) ob' ∧ Own M W w' (E ++ ob' ++ L0) := by
  subst hsz
  have hsmall : n + m ≤ 9223372036854775807 := by simp only [maxLen] at h63; omega
  have hlen : (xs ++ news).length = (n + m) * i.size := by rw [List.length_append, hv.1, hl, Nat.add_mul]
  rcases hv.2 with ⟨rfl, rfl, rfl⟩ | ⟨g, cap, cur, rfl, rfl, hnc, hcm, hcs, htake⟩
  · have hx : xs = [] := List.eq_nil_of_length_eq_zero (by simpa using hv.1)
    subst hx
    by_cases hm : m = 0
    · subst hm
      have hn : news = [] := List.eq_nil_of_length_eq_zero (by simpa using hl)
      subst hn
      refine ⟨.slice none 0 0, w, [], ?_, Sl.nil T i.size, hO⟩
      simp [Builtin.append_, run_underlying ht, sizeOf, typeInfo, hi, Builtin.lenOf, Builtin.firstCells, loadCells, loadCellsFrom]
    · have hr := run_append_nil (P := P) w t ty T i z ht hi hz a m c news hl hnews (by omega) (by omega) (by have hb := hbytes; simp only [Nat.zero_add] at hb; omega)
      have hge := grownCap_ge w m 0 T
      have hcm := grownCap_le_maxLen w m 0 T (by simpa using h63)
      refine ⟨_, _, [⟨w.heap.size, news.toArray ++ Builtin.zeroCells z.cells (grownCap w m 0 T - m), T⟩], hr, ⟨by simpa using hlen, .inr ⟨w.heap.size, _, _, by simp, rfl, by simpa using hge, hcm, ?_, ?_⟩⟩, ?_⟩
      · simp only [Array.size_append, List.size_toArray, size_zeroCells, hzs, hl, ← Nat.add_mul]
        congr 1
        omega
      · simp only [Array.toList_append, Nat.zero_add, List.nil_append]
        rw [← hl]
        exact List.take_left
      · have := (drew_own hO).alloc (news.toArray ++ Builtin.zeroCells z.cells (grownCap w m 0 T - m)) T
        exact Own.move (ob := []) this
  · by_cases hroom : n + m ≤ cap
    · have hfit : n * i.size + news.length ≤ cur.size := by rw [hl, hcs, ← Nat.add_mul]; exact Nat.mul_le_mul_right _ hroom
      have hk : (E ++ [Blk.mk g cur T] ++ L0)[E.length]? = some ⟨g, cur, T⟩ := by simp
      have hg := hO.get hk
      have hr := run_append_room (P := P) w t ty T i ht hi g n cap cur hg a m c news hl hnews h1 hroom hfit
      refine ⟨_, _, [⟨g, (cur.toList.take (n * i.size) ++ news ++ cur.toList.drop (n * i.size + news.length)).toArray, T⟩], hr, ⟨hlen, .inr ⟨g, cap, _, rfl, rfl, hroom, hcm, ?_, ?_⟩⟩, ?_⟩
      · simp only [List.size_toArray, List.length_append, List.length_take, List.length_drop, Array.length_toList]
        omega
      · rw [htake, ← hlen]
        exact List.take_left
      · have := hO.put hk (cur.toList.take (n * i.size) ++ news ++ cur.toList.drop (n * i.size + news.length)).toArray
        have e : (E ++ [Blk.mk g cur T] ++ L0).set E.length ⟨g, (cur.toList.take (n * i.size) ++ news ++ cur.toList.drop (n * i.size + news.length)).toArray, T⟩ = E ++ [⟨g, (cur.toList.take (n * i.size) ++ news ++ cur.toList.drop (n * i.size + news.length)).toArray, T⟩] ++ L0 := by simp
        rw [e] at this; exact this
    · have hk : (E ++ [Blk.mk g cur T] ++ L0)[E.length]? = some ⟨g, cur, T⟩ := by simp
      have hg := hO.get hk
      have holds : ∀ j u, xs[j]? = some u → w.cell? ((⟨g, 0, none⟩ : Addr).add j) = some u := fun j u hj => by
        rw [add_off, cell_of_row w g (0 + j) cur T _ hg]
        rw [← htake, List.getElem?_take] at hj
        split at hj
        · simpa using hj
        · cases hj
      have hr := run_append_grow (P := P) w t ty T i z ht hi hz ⟨g, 0, none⟩ n cap xs hv.1 holds a m c news hl hnews (by omega) (by omega) (growslice_fits (by omega) hbytes)
      have hge := grownCap_ge w (n + m) cap T
      have hcm := grownCap_le_maxLen w (n + m) cap T h63
      refine ⟨_, _, [⟨w.heap.size, xs.toArray ++ news.toArray ++ Builtin.zeroCells z.cells (grownCap w (n + m) cap T - (n + m)), T⟩], hr, ⟨hlen, .inr ⟨w.heap.size, _, _, rfl, rfl, hge, hcm, ?_, ?_⟩⟩, ?_⟩
      · simp only [Array.size_append, List.size_toArray, size_zeroCells, hzs, hv.1, hl, ← Nat.add_mul]
        congr 1
        omega
      · simp only [Array.toList_append, List.append_assoc]
        rw [← List.append_assoc, ← hlen]
        exact List.take_left
      · exact Own.move ((drew_own hO).alloc (xs.toArray ++ news.toArray ++ Builtin.zeroCells z.cells (grownCap w (n + m) cap T - (n + m))) T)
/-- append of nothing (a nil slice). -/
theorem own_append_nil {t ty T : TypeId} {i : TypeInfo} (ht : P.underlying t = some (.slice T)) (hi : P.info? T = some i) {sz : Nat} {v : Value} {n : Nat} {xs : List Value} (hv : Sl T sz v n xs ob) (m0 : Nat) :
    (Builtin.append_ #[t, t] ty #[v, .slice none 0 0]).run P w = .ok v w := by
  rcases hv.2 with ⟨rfl, rfl, rfl⟩ | ⟨g, cap, cur, rfl, rfl, hnc, hcm, hcs, htake⟩
  · simp [Builtin.append_, run_underlying ht, sizeOf, typeInfo, hi, Builtin.lenOf, Builtin.firstCells]
  · simp [Builtin.append_, run_underlying ht, sizeOf, typeInfo, hi, Builtin.lenOf, Builtin.firstCells, hnc, storeCells]
end
section
variable {M : List Nat} {P : Program} {n0 : Nat} {ops : Array Oper} {W : World} {Q : Exit → Act → World → Prop} {rest : List Oper} {o : Oper} {E ob L0 : List Blk} {f : Nat → Value}
/-- The operation append(s, x..): s a slice of the call's own. -/
theorem s_append {t T : TypeId} {s x : Operand} {i : TypeInfo} {z : Value} {sz : Nat} (hw : want ops n0 f o = true) (ho : o.op = .call { callee := .builtin .append, args := #[s, x], argTypes := #[t, t] })
    (ht : P.underlying t = some (.slice T)) (hi : P.info? T = some i) (hz : i.zero = some z) (hsz : i.size = sz) (hzs : z.cells.size = sz)
    {v : Value} {n : Nat} {xs : List Value} (hs : ev n0 f s = v) (hv : Sl T sz v n xs ob) {a : Addr} {m c : Nat} {news : List Value} (hx : ev n0 f x = .slice (some a) m c)
    (hl : news.length = m * sz) (hnews : ∀ w, Own M W w (E ++ ob ++ L0) → ∀ j u, news[j]? = some u → w.cell? (a.add j) = some u) (h1 : ∀ u ∈ news, u.oneCell' = true)
    (h63 : n + m ≤ maxLen) (hbytes : (n + m) * i.bytes ≤ 140737488355328)
    (h : ∀ v' ob', Sl T sz v' (n + m) (xs ++ news) ob' → Seg M P n0 ops W Q rest (E ++ ob' ++ L0) (upd f o.dst v')) : Seg M P n0 ops W Q (o :: rest) (E ++ ob ++ L0) f :=
  s_step hw fun w hO => by
    obtain ⟨v', w', ob', hr, h2, h3⟩ := own_append (P := P) (ty := o.type) (c := c) ht hi hz hsz hzs hv hO hl (hnews w hO) h1 h63 hbytes
    refine wp_val v' (w' := w') ?_ ((h v' ob' h2).go w' h3)
    unfold execOp
    simp only [ho, resolve, invoke, builtin, Sem.run_bind, Sem.run_pure, Result.andThen_ok, List.map_toArray, List.map_cons, List.map_nil, hs, hx, hr]
theorem s_append_nil {t T : TypeId} {s x : Operand} {i : TypeInfo} {sz : Nat} (hw : want ops n0 f o = true) (ho : o.op = .call { callee := .builtin .append, args := #[s, x], argTypes := #[t, t] })
    (ht : P.underlying t = some (.slice T)) (hi : P.info? T = some i) {v : Value} {n : Nat} {xs : List Value} (hs : ev n0 f s = v) (hv : Sl T sz v n xs ob) (hx : ev n0 f x = .slice none 0 0)
    (h : Seg M P n0 ops W Q rest (E ++ ob ++ L0) (upd f o.dst v)) : Seg M P n0 ops W Q (o :: rest) (E ++ ob ++ L0) f :=
  s_step hw fun w hO => by
    refine wp_val v (w' := w) ?_ (h.go w hO)
    unfold execOp
    simp only [ho, resolve, invoke, builtin, Sem.run_bind, Sem.run_pure, Result.andThen_ok, List.map_toArray, List.map_cons, List.map_nil, hs, hx, own_append_nil ht hi hv 0]
/-- A slice literal: a new block. -/
theorem s_lit {L : List Blk} {t : TypeId} {len : Nat} {parts : Array (Nat × Operand)} (T : TypeId) (cs : Array Value) (hw : want ops n0 f o = true) (ho : o.op = .buildSlice t len parts)
    (hr : ∀ w, (execOp (ev n0 f) o).run P w = .ok (.value (.slice (some ⟨w.heap.size, 0, none⟩) len len)) (w.alloc (.cells cs T)))
    (h : ∀ b, Seg M P n0 ops W Q rest (⟨b, cs, T⟩ :: L) (upd f o.dst (.slice (some ⟨b, 0, none⟩) len len))) : Seg M P n0 ops W Q (o :: rest) L f :=
  s_step hw fun w hO => wp_val _ (hr w) ((h w.heap.size).go _ (hO.alloc _ _))
/-- The address of a slice's element. -/
theorem run_ixsl {ρ : Operand → Value} {t e : TypeId} {x ix : Operand} {b off off' n c sz : Nat} {k : IntKind} {j : Int} (ho : o.op = .indexAddr t x ix) (hx : ρ x = .slice (some ⟨b, off, none⟩) n c) (hi : ρ ix = .int k j)
    (hu : P.underlying t = some (.slice e)) (hs : (P.info? e).map (·.size) = some sz) (h0 : 0 ≤ j) (h1 : j < n) (hoff : off + j.toNat * sz = off') (w : World) : (execOp ρ o).run P w = .ok (.value (.pointer (some ⟨b, off', none⟩))) w := by
  subst hoff
  cases he : P.info? e with
  | none => rw [he] at hs; cases hs
  | some i =>
    rw [he] at hs
    obtain rfl := Option.some.inj hs
    unfold execOp
    simp [ho, hx, hi, Instr.indexAt, Sem.run_bind, asIntOf, run_underlying hu, Instr.sureAddr, h0, h1, sizeOf, typeInfo, he, add_off]
end
/-! ### Elements -/
section
variable {α : Type} {g : α → List Value} {sz : Nat}
theorem flat_len (hg : ∀ x, (g x).length = sz) (l : List α) : (l.flatMap g).length = l.length * sz := by
  induction l with
  | nil => simp
  | cons x l ih => rw [List.flatMap_cons, List.length_append, hg, ih, List.length_cons, Nat.succ_mul, Nat.add_comm]
theorem flat_at (hg : ∀ x, (g x).length = sz) (l : List α) : ∀ k (h : k < l.length), ((l.flatMap g).drop (k * sz)).take sz = g l[k] := by
  induction l with
  | nil => intro k h; simp at h
  | cons x l ih =>
    intro k h
    rw [List.flatMap_cons]
    cases k with
    | zero =>
      have := hg x
      rw [Nat.zero_mul, List.drop_zero, ← this, List.take_left]; rfl
    | succ k =>
      rw [Nat.succ_mul, Nat.add_comm, ← List.drop_drop]
      have hd : (g x ++ l.flatMap g).drop sz = l.flatMap g := by rw [← hg x]; exact List.drop_left
      rw [hd]
      exact ih k (by simpa using h)
/-- An element of a slice of structs, read out of its block. -/
theorem read_elem {P : Program} {T : TypeId} {d : TypeDesc} {i : TypeInfo} (hg : ∀ x, (g x).length = sz) (hu : P.underlying T = some d) (hd : aggB d = true) (hi : P.info? T = some i) (hsz : i.size = sz) {cur : Array Value} {n : Nat} {l : List α} (hn : l.length = n) {cap : Nat} (hc : cur.size = cap * sz) (hnc : n ≤ cap)
    (ht : cur.toList.take (n * sz) = l.flatMap g) (k : Nat) (hk : k < l.length) : readAt P T cur (k * sz) = some (.agg (g l[k]).toArray) := by
  subst hsz
  have hle : k * i.size + i.size ≤ n * i.size := by rw [← Nat.succ_mul]; exact Nat.mul_le_mul_right _ (by omega)
  have hle2 : n * i.size ≤ cur.size := by rw [hc]; exact Nat.mul_le_mul_right _ hnc
  have e : (cur.toList.drop (k * i.size)).take i.size = g l[k] := by
    rw [← flat_at hg l k hk, ← ht, List.drop_take, List.take_take, Nat.min_eq_left (by omega)]
  unfold readAt
  rw [hu, hi]
  cases d <;> first | (simp [aggB] at hd; done) | (dsimp only; rw [if_pos (by omega), e])
end
end Go.Proofs.Ytgeccfdofmnphaa
end

section
/-
  Slices that came in (or that a caller owns), read element by element; loops: the frame at a round's head. No condition of their own but what each theorem names.
-/
namespace Go.Proofs.Ytgeccfdofmnphaa
open Go.RowKit
set_option linter.unusedVariables false
set_option linter.unusedSimpArgs false

/-! ### A frame whose slots are known in part -/
def upds (f : Nat → Value) : List (Nat × Value) → Nat → Value
  | [] => f
  | p :: r => upd (upds f r) (some p.1) p.2
def Agrees (f : Nat → Value) : List (Nat × Value) → Prop
  | [] => True
  | p :: r => f p.1 = p.2 ∧ Agrees f r
theorem upds_self {f : Nat → Value} : ∀ (l : List (Nat × Value)), Agrees f l → f = upds f l
  | [], _ => rfl
  | p :: r, h => by
    have e := upds_self r h.2
    have h1 : upds f r p.1 = p.2 := by rw [← e]; exact h.1
    show f = upd (upds f r) (some p.1) p.2
    rw [← upd_self h1]; exact e

/-! ### Reading -/
/-- The slice v reads as the list l, each element as sz cells by g, out of a block below B. -/
def Reads {α : Type} (g : α → List Value) (w : World) (B : Nat) (A : Option Addr) (l : List α) : Prop :=
  0 < l.length → ∃ b off, A = some ⟨b, off, none⟩ ∧ b < B ∧ ∀ k u, (l.flatMap g)[k]? = some u → w.cell? ⟨b, off + k, none⟩ = some u
theorem Reads.on {α : Type} {g : α → List Value} {w w' : World} {B B' : Nat} {A : Option Addr} {l : List α} (h : Reads g w B A l) (hb : Below B w w') (hB : B ≤ B') : Reads g w' B' A l := fun h0 => by
  obtain ⟨b, off, e, hlt, hc⟩ := h h0
  exact ⟨b, off, e, by omega, fun k u hk => (hb.cell (p := ⟨b, off + k, none⟩) hlt).trans (hc k u hk)⟩
/-- What a caller owns, as its callee reads it. -/
theorem Sl.reads {α : Type} {g : α → List Value} {T sz n : Nat} {A : Option Addr} {cap : Nat} {l : List α} {ob : List Blk} {M : List Nat} {W w : World} {L : List Blk} (h : Sl T sz (.slice A n cap) n (l.flatMap g) ob) (hn : l.length = n) (hO : Own M W w L) (hs : ∀ x ∈ ob, x ∈ L) :
    Reads g w w.heap.size A l := fun h0 => by
  rcases h.2 with ⟨_, h2, _⟩ | ⟨b, c, cur, e, rfl, h3, h4, h5, h6⟩
  · omega
  · obtain ⟨rfl, _, rfl⟩ : A = some ⟨b, 0, none⟩ ∧ True ∧ cap = c := by
      simp only [Value.slice.injEq] at e; exact ⟨e.1, trivial, e.2.2⟩
    have hb := hs ⟨b, cur, T⟩ (by simp)
    refine ⟨b, 0, rfl, hO.lt hb, fun k u hk => ?_⟩
    rw [cell_of_row w b (0 + k) cur T _ (hO.held _ hb)]
    rw [← h6, List.getElem?_take] at hk
    split at hk
    · simpa using hk
    · cases hk
section
variable {P : Program}
/-- A variable whose cells are known. -/
theorem old_load {ty : TypeId} {w : World} {b o : Nat} (cs : List Value) (v : Value) (h : ∀ k u, cs[k]? = some u → w.cell? ⟨b, o + k, none⟩ = some u) (hr : readAt P ty cs.toArray 0 = some v) : (loadVar ty ⟨b, o, none⟩).run P w = .ok v w := by
  unfold readAt at hr
  cases hu : P.underlying ty with
  | none => rw [hu] at hr; simp at hr
  | some d =>
    cases hi : P.info? ty with
    | none => rw [hu, hi] at hr; cases d <;> simp at hr
    | some i =>
      rw [hu, hi] at hr
      by_cases hd : aggB d = true
      · have h2 : (if 0 + i.size ≤ cs.toArray.size then some (Value.agg (cs.toArray.toList.drop 0 |>.take i.size).toArray) else none) = some v := by
          cases d <;> first | exact hr | (simp [aggB] at hd)
        split at h2
        · rename_i hle
          obtain rfl := Option.some.inj h2
          have hlen : (cs.take i.size).length = i.size := by simp at hle ⊢; omega
          have hl := run_loadCells_list (P := P) w ⟨b, o, none⟩ (cs.take i.size) (fun j u hj => by
            rw [add_off]
            rw [List.getElem?_take] at hj
            split at hj
            · exact h j u hj
            · cases hj)
          rw [hlen] at hl
          have hagg : (isAgg ty).run P w = .ok true w := by
            unfold isAgg
            rw [Sem.run_bind, run_underlying hu w]
            cases d <;> simp_all [aggB]
          simp [loadVar, Sem.run_bind, hagg, sizeOf, typeInfo, hi, hl]
        · cases h2
      · have h2 : cs.toArray[0]? = some v := by cases d <;> first | exact hr | (simp [aggB] at hd)
        have hagg : (isAgg ty).run P w = .ok false w := by
          unfold isAgg
          rw [Sem.run_bind, run_underlying hu w]
          cases d <;> simp_all [aggB]
        have hc : w.cell? ⟨b, o, none⟩ = some v := by simpa using h 0 v (by simpa using h2)
        simp [loadVar, Sem.run_bind, hagg, run_load, hc, Result.andThen]
/-- An element, or a part of it from its cell number fo on. -/
theorem elem_load {α : Type} {g : α → List Value} {sz : Nat} (hg : ∀ x, (g x).length = sz) {ty : TypeId} {w : World} {b off o : Nat} {l : List α} (hc : ∀ k u, (l.flatMap g)[k]? = some u → w.cell? ⟨b, off + k, none⟩ = some u) (k fo : Nat) (hk : k < l.length) (ho : o = off + k * sz + fo) (v : Value)
    (hr : readAt P ty ((g l[k]).drop fo).toArray 0 = some v) : (loadVar ty ⟨b, o, none⟩).run P w = .ok v w := by
  subst ho
  refine old_load ((g l[k]).drop fo) v (fun j u hj => ?_) hr
  have e : ((l.flatMap g)[k * sz + (fo + j)]?) = some u := by
    rw [List.getElem?_drop] at hj
    have := flat_at hg l k hk
    rw [← this, List.getElem?_take] at hj
    split at hj
    · rw [List.getElem?_drop] at hj; exact hj
    · cases hj
  have := hc _ u e
  rw [show off + (k * sz + (fo + j)) = off + k * sz + fo + j from by omega] at this
  exact this
/-- The address of an element of a slice that came in. -/
theorem run_ixA {ρ : Operand → Value} {o : Oper} {t e : TypeId} {x ix : Operand} {A : Option Addr} {b off off' n c sz : Nat} {k : IntKind} {j : Int} (ho : o.op = .indexAddr t x ix) (hx : ρ x = .slice A n c) (hA : A = some ⟨b, off, none⟩) (hi : ρ ix = .int k j)
    (hu : P.underlying t = some (.slice e)) (hs : (P.info? e).map (·.size) = some sz) (h0 : 0 ≤ j) (h1 : j < n) (hoff : off + j.toNat * sz = off') (w : World) : (execOp ρ o).run P w = .ok (.value (.pointer (some ⟨b, off', none⟩))) w := by
  subst hA
  exact run_ixsl ho hx hi hu hs h0 h1 hoff w
end
end Go.Proofs.Ytgeccfdofmnphaa
end

section
/-
  A region that draws its order and makes memory, more freely: any list of blocks that holds the ones at its start which nobody writes; append, slice literals and calls that hand back new memory; and the list of blocks in another form. No condition of their own.
-/
namespace Go.Proofs.Ytgeccfdofmnphaa
open Go.RowKit
set_option linter.unusedVariables false
set_option linter.unusedSimpArgs false
section
variable {M : List Nat} {P : Program} {n : Nat} {ops : Array Oper} {W : World} {Q : Exit → Act → World → Prop} {L0 L : List Blk} {f : Nat → Value} {fuel : Nat} {listed : Array Bool} {rest : List Oper} {o : Oper}
theorem s_cast {L' : List Blk} (e : L = L') (h : Seg M P n ops W Q rest L' f) : Seg M P n ops W Q rest L f := by subst e; exact h
theorem ok_cast {L' : List Blk} {c : Code} (e : L = L') (h : Ok M P n W Q c L' f) : Ok M P n W Q c L f := by subst e; exact h
theorem fin_cast {L' : List Blk} {x : Exit} (e : L = L') (h : Fin M n W Q x L' f) : Fin M n W Q x L f := by subst e; exact h
theorem ok_take {L' : List Blk} {c : Code} (hs : ∀ w, Own M W w L → Own M W w L') (h : Ok M P n W Q c L' f) : Ok M P n W Q c L f := ⟨fun w hO => h.go w (hs w hO)⟩
theorem s_take {L' : List Blk} (hs : ∀ w, Own M W w L → Own M W w L') (h : Seg M P n ops W Q rest L' f) : Seg M P n ops W Q rest L f := ⟨fun w hO => h.go w (hs w hO)⟩
theorem fin_take {L' : List Blk} {x : Exit} (hs : ∀ w, Own M W w L → Own M W w L') (h : Fin M n W Q x L' f) : Fin M n W Q x L f := ⟨fun w hO => h.go w (hs w hO)⟩
theorem h_cast {L' : List Blk} (e : L = L') (h : HSeg M P n ops W L0 Q fuel listed L' f) : HSeg M P n ops W L0 Q fuel listed L f := by subst e; exact h
/-- The start: L0, of the blocks at hand those that nobody in the region writes. -/
theorem ok_anyhL {id : Nat} {l : List Oper} (L0 : List Blk) (hm : P.follows .mixedOrders = true) (hsub : ∀ w, Own M W w L → Own M W w L0) (h : HSeg M P n l.toArray W L0 Q l.length (Array.replicate l.length false) L f) : Ok M P n W Q (.region id l.toArray true) L f := ⟨fun w hO =>
  wp_region_held (id := id) (S := fun w => Own M W w L0) hm (ops := l.toArray) (Q := Q) (a := Fr n f) (w := w) (by simpa using h.go _ hO.drew)⟩
theorem hl_take (i : Nat) (oi : Oper) (v : Value) (hi : ops[i]? = some oi) (hs : Region.noSelect ops = true) (hf : Region.free .any ops listed i = true) (hr : (Region.ready .any ops listed).contains i = true)
    (hQ : PQ Q) (hsub : ∀ w, Own M W w L → Own M W w L0) (hw : want ops n f oi = true) (hv : ∀ w, Own M W w L0 → (execOp (ev n f) oi).run P w = .ok (.value v) w)
    (h : HSeg M P n ops W L0 Q fuel (listed.setIfInBounds i true) L (upd f oi.dst v)) : HSeg M P n ops W L0 Q (fuel + 1) listed L f := ⟨fun w hO => by
  refine wpAnyH_take hi hs hf hr (fun c a w h => hQ c a _ _ w h) (Or.inl ⟨by rw [want_eq]; exact hw, fun w hw' => by rw [Fr_eval]; exact hv w hw'⟩) (hsub w hO) ?_
  rw [Fr_put]
  exact h.go w hO⟩
theorem hl_skip (i : Nat) (oi : Oper) (hi : ops[i]? = some oi) (hs : Region.noSelect ops = true) (hf : Region.free .any ops listed i = true) (hr : (Region.ready .any ops listed).contains i = true)
    (hQ : PQ Q) (hsub : ∀ w, Own M W w L → Own M W w L0) (hw : want ops n f oi = false)
    (h : HSeg M P n ops W L0 Q fuel (listed.setIfInBounds i true) L (upd f oi.dst undef)) : HSeg M P n ops W L0 Q (fuel + 1) listed L f := ⟨fun w hO => by
  refine wpAnyH_take hi hs hf hr (fun c a w h => hQ c a _ _ w h) (Or.inr ⟨by rw [want_eq]; exact hw, rfl⟩) (hsub w hO) ?_
  rw [Fr_put]
  exact h.go w hO⟩
theorem hl_load (i : Nat) (oi : Oper) (k : Nat) (x : Blk) {ty : TypeId} {p : Operand} {off : Nat} (v : Value) (hi : ops[i]? = some oi) (hs : Region.noSelect ops = true) (hf : Region.free .any ops listed i = true) (hr : (Region.ready .any ops listed).contains i = true)
    (hQ : PQ Q) (hsub : ∀ w, Own M W w L → Own M W w L0) (hw : want ops n f oi = true) (ho : oi.op = .load ty p) (hL : L0[k]? = some x) (hp : ev n f p = .pointer (some ⟨x.b, off, none⟩)) (hv : readAt P ty x.cs off = some v)
    (h : HSeg M P n ops W L0 Q fuel (listed.setIfInBounds i true) L (upd f oi.dst v)) : HSeg M P n ops W L0 Q (fuel + 1) listed L f :=
  hl_take i oi v hi hs hf hr hQ hsub hw (fun _ hO => run_load_op ho hp (run_readAt hv (hO.get hL))) h
theorem hl_old (i : Nat) (oi : Oper) {ty : TypeId} {p : Operand} {a : Addr} (v : Value) (hi : ops[i]? = some oi) (hs : Region.noSelect ops = true) (hf : Region.free .any ops listed i = true) (hr : (Region.ready .any ops listed).contains i = true)
    (hQ : PQ Q) (hsub : ∀ w, Own M W w L → Own M W w L0) (hw : want ops n f oi = true) (ho : oi.op = .load ty p) (hp : ev n f p = .pointer (some a)) (hv : ∀ w, Own M W w L0 → (loadVar ty a).run P w = .ok v w)
    (h : HSeg M P n ops W L0 Q fuel (listed.setIfInBounds i true) L (upd f oi.dst v)) : HSeg M P n ops W L0 Q (fuel + 1) listed L f :=
  hl_take i oi v hi hs hf hr hQ hsub hw (fun w hO => run_load_op ho hp (hv w hO)) h
/-- An operation that is carried out: what it leaves. -/
theorem hl_step {i : Nat} (oi : Oper) (hi : ops[i]? = some oi) (hw : want ops n f oi = true) (L' : World → Value → List Blk → Prop)
    (h : ∀ w, Own M W w L → oi.wp P (Fr n f) w (fun a' w' => ∃ L' f', a' = Fr n f' ∧ Own M W w' L' ∧ Own M W w' L0 ∧ HSeg M P n ops W L0 Q fuel (listed.setIfInBounds i true) L' f') Q) : HStep M P n ops W L0 Q fuel listed i L f :=
  hs_step hi hw fun w hO => by
    refine Oper.wp_mono (fun a' w' ⟨L', f', e, h1, h2, h3⟩ => ?_) (h w hO)
    subst e
    exact ⟨h2, h3.go w' h1⟩
theorem hl_val {i : Nat} (oi : Oper) (v : Value) (hi : ops[i]? = some oi) (hw : want ops n f oi = true) (hsub : ∀ w, Own M W w L → Own M W w L0) (hv : ∀ w, Own M W w L → (execOp (ev n f) oi).run P w = .ok (.value v) w)
    (h : HSeg M P n ops W L0 Q fuel (listed.setIfInBounds i true) L (upd f oi.dst v)) : HStep M P n ops W L0 Q fuel listed i L f :=
  hs_step hi hw fun w hO => wp_val v (hv w hO) ⟨hsub w hO, h.go w hO⟩
theorem hl_call {i : Nat} (oi : Oper) {k : FuncId} {args : Array Value} (v : Value) (hi : ops[i]? = some oi) (hw : want ops n f oi = true) (hsub : ∀ w, Own M W w L → Own M W w L0) (he : ∀ w, (execOp (ev n f) oi).run P w = .ok (.enter k args) w)
    (hc : ∀ w, Own M W w L → Calls P k args w fun e w' => e = .returned v ∧ Below w.heap.size w w') (h : HSeg M P n ops W L0 Q fuel (listed.setIfInBounds i true) L (upd f oi.dst v)) : HStep M P n ops W L0 Q fuel listed i L f :=
  hs_step hi hw fun w hO => wp_enter (he w) ((hc w hO).mono fun e w' ⟨e1, e2⟩ => ⟨v, e1, hsub w' (hO.on e2), h.go w' (hO.on e2)⟩)
/-- A call that hands back something in new memory, or that writes into what it was lent. -/
theorem hl_callx {i : Nat} (oi : Oper) {k : FuncId} {args : Array Value} (R : Value → List Blk → Prop) (hi : ops[i]? = some oi) (hw : want ops n f oi = true) (he : ∀ w, (execOp (ev n f) oi).run P w = .ok (.enter k args) w)
    (hc : ∀ w, Own M W w L → Calls P k args w fun e w' => ∃ v L', e = .returned v ∧ R v L' ∧ Own M W w' L') (hsub : ∀ v L', R v L' → ∀ w, Own M W w L' → Own M W w L0)
    (h : ∀ v L', R v L' → HSeg M P n ops W L0 Q fuel (listed.setIfInBounds i true) L' (upd f oi.dst v)) : HStep M P n ops W L0 Q fuel listed i L f :=
  hs_step hi hw fun w hO => wp_enter (he w) ((hc w hO).mono fun e w' ⟨v, L', e1, e2, e3⟩ => ⟨v, e1, hsub v L' e2 w' e3, (h v L' e2).go w' e3⟩)
theorem hl_append {i0 : Nat} {E ob R : List Blk} (oi : Oper) {t T : TypeId} {s x : Operand} {i : TypeInfo} {z : Value} {sz : Nat} (hi0 : ops[i0]? = some oi) (hw : want ops n f oi = true) (ho : oi.op = .call { callee := .builtin .append, args := #[s, x], argTypes := #[t, t] })
    (ht : P.underlying t = some (.slice T)) (hi : P.info? T = some i) (hz : i.zero = some z) (hsz : i.size = sz) (hzs : z.cells.size = sz)
    {v : Value} {m0 : Nat} {xs : List Value} (hs : ev n f s = v) (hv : Sl T sz v m0 xs ob) {a : Addr} {m c : Nat} {news : List Value} (hx : ev n f x = .slice (some a) m c)
    (hl : news.length = m * sz) (hnews : ∀ w, Own M W w (E ++ ob ++ R) → ∀ j u, news[j]? = some u → w.cell? (a.add j) = some u) (h1 : ∀ u ∈ news, u.oneCell' = true)
    (h63 : m0 + m ≤ maxLen) (hbytes : (m0 + m) * i.bytes ≤ 140737488355328) (hsub : ∀ ob' w, Own M W w (E ++ ob' ++ R) → Own M W w L0)
    (h : ∀ v' ob', Sl T sz v' (m0 + m) (xs ++ news) ob' → HSeg M P n ops W L0 Q fuel (listed.setIfInBounds i0 true) (E ++ ob' ++ R) (upd f oi.dst v')) : HStep M P n ops W L0 Q fuel listed i0 (E ++ ob ++ R) f :=
  hs_step hi0 hw fun w hO => by
    obtain ⟨v', w', ob', hr, h2, h3⟩ := own_append (P := P) (ty := oi.type) (c := c) ht hi hz hsz hzs hv hO hl (hnews w hO) h1 h63 hbytes
    refine wp_val v' (w' := w') ?_ ⟨hsub ob' w' h3, (h v' ob' h2).go w' h3⟩
    unfold execOp
    simp only [ho, resolve, invoke, builtin, Sem.run_bind, Sem.run_pure, Result.andThen_ok, List.map_toArray, List.map_cons, List.map_nil, hs, hx, hr]
theorem hl_append_nil {i0 : Nat} {ob : List Blk} (oi : Oper) {t T : TypeId} {s x : Operand} {i : TypeInfo} {sz : Nat} (hi0 : ops[i0]? = some oi) (hw : want ops n f oi = true) (hsub : ∀ w, Own M W w L → Own M W w L0) (ho : oi.op = .call { callee := .builtin .append, args := #[s, x], argTypes := #[t, t] })
    (ht : P.underlying t = some (.slice T)) (hi : P.info? T = some i) {v : Value} {m0 : Nat} {xs : List Value} (hs : ev n f s = v) (hv : Sl T sz v m0 xs ob) (hx : ev n f x = .slice none 0 0)
    (h : HSeg M P n ops W L0 Q fuel (listed.setIfInBounds i0 true) L (upd f oi.dst v)) : HStep M P n ops W L0 Q fuel listed i0 L f :=
  hs_step hi0 hw fun w hO => by
    refine wp_val v (w' := w) ?_ ⟨hsub w hO, h.go w hO⟩
    unfold execOp
    simp only [ho, resolve, invoke, builtin, Sem.run_bind, Sem.run_pure, Result.andThen_ok, List.map_toArray, List.map_cons, List.map_nil, hs, hx, own_append_nil ht hi hv 0]
theorem hl_lit {i0 : Nat} (oi : Oper) {t : TypeId} {len : Nat} {parts : Array (Nat × Operand)} (T : TypeId) (cs : Array Value) (hi0 : ops[i0]? = some oi) (hw : want ops n f oi = true) (ho : oi.op = .buildSlice t len parts) (hsub : ∀ w, Own M W w L → Own M W w L0)
    (hr : ∀ w, (execOp (ev n f) oi).run P w = .ok (.value (.slice (some ⟨w.heap.size, 0, none⟩) len len)) (w.alloc (.cells cs T)))
    (h : ∀ b, HSeg M P n ops W L0 Q fuel (listed.setIfInBounds i0 true) (⟨b, cs, T⟩ :: L) (upd f oi.dst (.slice (some ⟨b, 0, none⟩) len len))) : HStep M P n ops W L0 Q fuel listed i0 L f :=
  hs_step hi0 hw fun w hO => by
    have hO' := hO.alloc cs T
    refine wp_val _ (hr w) ⟨?_, (h w.heap.size).go _ hO'⟩
    exact hsub _ (Own.sub [⟨w.heap.size, cs, T⟩] hO')
/-- A caller's list of blocks behind a call that has taken over ob and left ob'. -/
theorem Own.join {ob ob' R : List Blk} {w w' : World} (h : Own M W w (ob ++ R)) (hc : Own (ob.map Blk.b) w w' ob') : Own M W w' (ob' ++ R) := by
  have hap := h.apart
  rw [List.map_append, List.nodup_append] at hap
  have notob : ∀ x ∈ R, x.b ∉ ob.map Blk.b := fun x hx hm => hap.2.2 x.b hm x.b (List.mem_map.2 ⟨x, hx, rfl⟩) rfl
  have ltR : ∀ x ∈ R, x.b < w.heap.size := fun x hx => h.lt (List.mem_append_right ob hx)
  have newob : ∀ x ∈ ob', x.b ∉ R.map Blk.b := fun x hx hm => by
    obtain ⟨y, hy, e⟩ := List.mem_map.1 hm
    rcases hc.base x hx with h1 | h1
    · have := ltR y hy; omega
    · exact notob y hy (e ▸ h1)
  refine ⟨hc.os.trans h.os, hc.tape.trans h.tape, hc.output.trans h.output, Nat.le_trans h.size hc.size, Nat.le_trans h.drawn hc.drawn, fun k hk hm => ?_, fun x hx => ?_, fun x hx => ?_, ?_⟩
  · rw [hc.kept k (Nat.lt_of_lt_of_le hk h.size) (fun hmem => by
      obtain ⟨y, hy, e⟩ := List.mem_map.1 hmem
      rcases h.base y (List.mem_append_left R hy) with h1 | h1
      · omega
      · exact hm (e ▸ h1))]
    exact h.kept k hk hm
  · rcases List.mem_append.1 hx with hx | hx
    · exact hc.held x hx
    · rw [hc.kept x.b (ltR x hx) (notob x hx)]
      exact h.held x (List.mem_append_right ob hx)
  · rcases List.mem_append.1 hx with hx | hx
    · rcases hc.base x hx with h1 | h1
      · exact .inl (Nat.le_trans h.size h1)
      · obtain ⟨y, hy, e⟩ := List.mem_map.1 h1
        rw [← e]; exact h.base y (List.mem_append_left R hy)
    · exact h.base x (List.mem_append_right ob hx)
  · rw [List.map_append, List.nodup_append]
    refine ⟨hc.apart, hap.2.1, fun a ha b hb e => ?_⟩
    obtain ⟨x, hx, rfl⟩ := List.mem_map.1 ha
    exact newob x hx (e ▸ hb)
/-- The same for a call that has taken nothing over. -/
theorem Own.joinN {ob' R : List Blk} {w w' : World} (h : Own M W w R) (hc : Own [] w w' ob') : Own M W w' (ob' ++ R) := Own.join (ob := []) h hc
end
section
variable {P : Program} {n : Nat} {W : World} {f : Nat → Value} {Q : Exit → Act → World → Prop} {M : List Nat} {ops : Array Oper} {rest : List Oper} {o : Oper} {L : List Blk}
/-- In, with blocks that the caller lends. -/
theorem calls_okL {k : FuncId} {fn : Func} {c : Code} {args : Array Value} {R : Ending → World → Prop} (hO : Own M W W L) (hf : P.funcs[k]? = some fn) (hb : fn.body = some c) (hn : fn.ntmps = n) (hle : Nat.ble args.size n = true)
    (h : Ok M P n W (bodyPost P fn R) c L (fun t => args.getD t undef)) : Calls P k args W R := by
  have h2 : Ok M P n W (bodyPost P fn R) c [] (fun t => args.getD t undef) → Calls P k args W R := calls_okM M hf hb hn hle
  refine calls_of_wp hf hb ?_
  have hle' : args.size ≤ n := Nat.le_of_ble_eq_true hle
  have e : ({ tmps := args ++ Array.replicate (fn.ntmps - args.size) undef, defers := [] } : Act) = Fr n (fun t => args.getD t undef) := by
    unfold Fr
    congr 1
    rw [hn]
    apply Array.ext_getElem?
    intro i
    rw [Array.getElem?_ofFn, Array.getElem?_append, Array.getElem?_replicate]
    by_cases hi : i < args.size
    · rw [if_pos hi, dif_pos (by omega), Array.getElem?_eq_getElem hi]
      simp [Array.getD, hi]
    · rw [if_neg hi]
      by_cases hin : i < n
      · rw [if_pos (by omega), dif_pos hin]
        simp [Array.getD, hi]
      · rw [if_neg (by omega), dif_neg hin]
  rw [e]
  exact h.go W hO
theorem Sl.block {T sz m : Nat} {A : Option Addr} {cap : Nat} {xs : List Value} {ob : List Blk} (h : Sl T sz (.slice A m cap) m xs ob) (h0 : 0 < m) : ∃ g cur, A = some ⟨g, 0, none⟩ ∧ ob = [⟨g, cur, T⟩] ∧ m ≤ cap ∧ cap ≤ maxLen ∧ cur.size = cap * sz ∧ cur.toList.take (m * sz) = xs := by
  rcases h.2 with ⟨_, h2, _⟩ | ⟨g, c, cur, e, e2, h3, h4, h5, h6⟩
  · omega
  · simp only [Value.slice.injEq] at e
    obtain ⟨rfl, _, rfl⟩ := e
    exact ⟨g, cur, rfl, e2, h3, h4, h5, h6⟩
/-- A part of an element, out of the slice's block. -/
theorem read_part {α : Type} {g : α → List Value} {sz : Nat} (hg : ∀ x, (g x).length = sz) {ty : TypeId} {cur : Array Value} {l : List α} (ht : cur.toList.take (l.length * sz) = l.flatMap g) (k fo : Nat) (hk : k < l.length) (hfo : fo ≤ sz) (v : Value)
    (hr : readAt P ty ((g l[k]).drop fo).toArray 0 = some v) : readAt P ty cur (k * sz + fo) = some v := by
  have hcur : l.length * sz ≤ cur.size := by
    have := congrArg List.length ht
    rw [List.length_take, flat_len hg] at this
    simp at this; omega
  have hks : k * sz + sz ≤ l.length * sz := by rw [← Nat.succ_mul]; exact Nat.mul_le_mul_right _ hk
  have hat : ∀ j u, ((g l[k]).drop fo)[j]? = some u → cur.toList[k * sz + fo + j]? = some u := fun j u hj => by
    rw [List.getElem?_drop] at hj
    have h1 : fo + j < sz := by
      have := (List.getElem?_eq_some_iff.1 hj).1
      rw [hg] at this; exact this
    have h2 : (l.flatMap g)[k * sz + (fo + j)]? = some u := by
      have := flat_at hg l k hk
      rw [← this, List.getElem?_take, if_pos h1, List.getElem?_drop] at hj
      exact hj
    rw [← ht, List.getElem?_take, if_pos (by omega)] at h2
    rw [show k * sz + fo + j = k * sz + (fo + j) from by omega]; exact h2
  unfold readAt at hr ⊢
  cases hu : P.underlying ty with
  | none => rw [hu] at hr; simp at hr
  | some d =>
    cases hi : P.info? ty with
    | none => rw [hu, hi] at hr; cases d <;> simp at hr
    | some i =>
      rw [hu, hi] at hr
      by_cases hd : aggB d = true
      · have h2 : (if 0 + i.size ≤ ((g l[k]).drop fo).toArray.size then some (Value.agg (((g l[k]).drop fo).toArray.toList.drop 0 |>.take i.size).toArray) else none) = some v := by
          cases d <;> first | exact hr | (simp [aggB] at hd)
        have h3 : (if (k * sz + fo) + i.size ≤ cur.size then some (Value.agg (cur.toList.drop (k * sz + fo) |>.take i.size).toArray) else none) = some v := by
          split at h2
          · rename_i hle
            simp only [List.size_toArray, List.length_drop, hg] at hle
            rw [if_pos (by omega), ← h2]
            congr 2
            congr 1
            apply List.ext_getElem?
            intro j
            rw [List.getElem?_take, List.getElem?_take]
            split
            · rename_i hj
              rw [List.getElem?_drop]
              simp only [List.drop_zero]
              have : ∃ u, ((g l[k]).drop fo)[j]? = some u := ⟨_, List.getElem?_eq_getElem (by rw [List.length_drop, hg]; omega)⟩
              obtain ⟨u, hu⟩ := this
              rw [hat j u hu, hu]
            · rfl
          · cases h2
        cases d <;> first | exact h3 | (simp [aggB] at hd)
      · have h2 : ((g l[k]).drop fo).toArray[0]? = some v := by cases d <;> first | exact hr | (simp [aggB] at hd)
        have h3 : cur[k * sz + fo]? = some v := by
          have := hat 0 v (by simpa using h2)
          simpa using this
        cases d <;> first | exact h3 | (simp [aggB] at hd)
end
section
variable {P : Program} {n : Nat} {W : World} {f : Nat → Value} {Q : Exit → Act → World → Prop} {M : List Nat} {ops : Array Oper} {rest : List Oper} {o : Oper} {L : List Blk}
theorem s_storeS (i : Nat) (x : Blk) {T : TypeId} {p q : Operand} {off : Nat} (v : Value) (sz : Nat) (hw : want ops n f o = true) (ho : o.op = .store T p q) (hd : o.dst = none) (hL : L[i]? = some x)
    (hp : ev n f p = .pointer (some ⟨x.b, off, none⟩)) (hq : ev n f q = v) (hz : (P.info? T).map (·.size) = some sz) (hs : v.cells.size = sz) (hle : off + sz ≤ x.cs.size) (h1 : (v.cells.toList.all fun u => u.oneCell') = true)
    (h : Seg M P n ops W Q rest (L.set i ⟨x.b, storeIn x.cs off v.cells, x.ty⟩) f) : Seg M P n ops W Q (o :: rest) L f := by
  cases ht : P.info? T with
  | none => rw [ht] at hz; cases hz
  | some t =>
    rw [ht] at hz
    have e : t.size = sz := Option.some.inj hz
    exact s_store i x v hw ho hd hL hp hq ht (by rw [hs, e]) (by rw [e]; exact hle) (List.all_eq_true.1 h1) h
theorem store_elem {α : Type} {g : α → List Value} {sz : Nat} (hg : ∀ x, (g x).length = sz) {cur : Array Value} {l : List α} (ht : cur.toList.take (l.length * sz) = l.flatMap g) (k fo : Nat) (hk : k < l.length) (vs : Array Value) (y : α) (hfit : fo + vs.size ≤ sz)
    (hy : g y = (g l[k]).take fo ++ vs.toList ++ (g l[k]).drop (fo + vs.size)) : (storeIn cur (k * sz + fo) vs).toList.take (l.length * sz) = (l.set k y).flatMap g ∧ (storeIn cur (k * sz + fo) vs).size = cur.size := by
  obtain ⟨R, hR⟩ : ∃ R, cur.toList = l.flatMap g ++ R := ⟨cur.toList.drop (l.length * sz), by rw [← ht]; exact (List.take_append_drop _ _).symm⟩
  have hsplit : l.flatMap g = (l.take k).flatMap g ++ (g l[k] ++ (l.drop (k + 1)).flatMap g) := by
    rw [← List.flatMap_cons, ← List.drop_eq_getElem_cons hk, ← List.flatMap_append, List.take_append_drop]
  obtain ⟨A, hA⟩ : ∃ A, (l.take k).flatMap g = A := ⟨_, rfl⟩
  obtain ⟨B, hB⟩ : ∃ B, (l.drop (k + 1)).flatMap g = B := ⟨_, rfl⟩
  obtain ⟨G, hG⟩ : ∃ G, g l[k] = G := ⟨_, rfl⟩
  have lA : A.length = k * sz := by rw [← hA, flat_len hg, List.length_take, Nat.min_eq_left (by omega)]
  have lG : G.length = sz := by rw [← hG]; exact hg _
  have lB : B.length = (l.length - (k + 1)) * sz := by rw [← hB, flat_len hg, List.length_drop]
  have tot : k * sz + sz + (l.length - (k + 1)) * sz = l.length * sz := by
    rw [← Nat.succ_mul, ← Nat.add_mul]; congr 1; omega
  rw [hA, hB, hG] at hsplit
  rw [hG] at hy
  have hset : (l.set k y).flatMap g = A ++ (g y ++ B) := by
    rw [List.set_eq_take_append_cons_drop, if_pos hk, List.flatMap_append, List.flatMap_cons, hA, hB]
  have hcur : cur.toList = A ++ (G ++ (B ++ R)) := by rw [hR, hsplit]; simp only [List.append_assoc]
  have e1 : cur.toList.take (k * sz + fo) = A ++ G.take fo := by
    rw [hcur, ← lA, List.take_length_add_append, List.take_append_of_le_length (by omega)]
  have e2 : cur.toList.drop (k * sz + fo + vs.size) = G.drop (fo + vs.size) ++ (B ++ R) := by
    rw [hcur, ← lA, Nat.add_assoc, List.drop_length_add_append, List.drop_append_of_le_length (by omega)]
  have e3 : (storeIn cur (k * sz + fo) vs).toList = A ++ (g y ++ (B ++ R)) := by
    unfold storeIn
    rw [e1, e2, hy]; simp only [List.append_assoc]
  constructor
  · rw [e3, hset]
    have : A ++ (g y ++ (B ++ R)) = (A ++ (g y ++ B)) ++ R := by simp only [List.append_assoc]
    rw [this]
    exact List.take_left' (by rw [List.length_append, List.length_append, lA, lB, hg]; omega)
  · have h1 := congrArg List.length e3
    have h2 := congrArg List.length hcur
    simp only [List.length_append, Array.length_toList, hg, lG] at h1 h2
    omega
end
end Go.Proofs.Ytgeccfdofmnphaa
end

section
/-
  Parts of slices: s[:k] and s[k:].
-/
namespace Go.Proofs.Ytgeccfdofmnphaa
open Go.RowKit
set_option maxRecDepth 100000
set_option linter.unusedVariables false
set_option linter.unusedSimpArgs false
section
variable {P : Program}
theorem run_slhi {ρ : Operand → Value} {o : Oper} {t e : TypeId} {x y : Operand} {b off n c sz : Nat} {k : IntKind} {j : Int} (ho : o.op = .slice t x none (some y) none) (hx : ρ x = .slice (some ⟨b, off, none⟩) n c) (hy : ρ y = .int k j)
    (hu : P.underlying t = some (.slice e)) (hs : (P.info? e).map (·.size) = some sz) (h0 : 0 ≤ j) (h1 : j ≤ c) (w : World) : (execOp ρ o).run P w = .ok (.value (.slice (some ⟨b, off, none⟩) j.toNat c)) w := by
  cases he : P.info? e with
  | none => rw [he] at hs; cases hs
  | some i =>
    unfold execOp
    simp [ho, hx, hy, Instr.sliceAt, Instr.slice, Instr.sliceBounds, Instr.sliceBound, Sem.run_bind, asIntOf, run_underlying hu, h0, h1, sizeOf, typeInfo, he, add_off]
theorem run_sllo {ρ : Operand → Value} {o : Oper} {t e : TypeId} {x y : Operand} {b off n c sz : Nat} {k : IntKind} {j : Int} (ho : o.op = .slice t x (some y) none none) (hx : ρ x = .slice (some ⟨b, off, none⟩) n c) (hy : ρ y = .int k j)
    (hu : P.underlying t = some (.slice e)) (hs : (P.info? e).map (·.size) = some sz) (h0 : 0 ≤ j) (h1 : j ≤ n) (w : World) : (execOp ρ o).run P w = .ok (.value (.slice (some ⟨b, off + (if c = j.toNat then 0 else j.toNat * sz), none⟩) (n - j.toNat) (c - j.toNat))) w := by
  cases he : P.info? e with
  | none => rw [he] at hs; cases hs
  | some i =>
    rw [he] at hs
    obtain rfl := Option.some.inj hs
    unfold execOp
    by_cases hc : c = j.toNat
    · simp [ho, hx, hy, Instr.sliceAt, Instr.slice, Instr.sliceBounds, Instr.sliceBound, Sem.run_bind, asIntOf, run_underlying hu, h0, h1, sizeOf, typeInfo, he, add_off, hc]
    · simp [ho, hx, hy, Instr.sliceAt, Instr.slice, Instr.sliceBounds, Instr.sliceBound, Sem.run_bind, asIntOf, run_underlying hu, h0, h1, sizeOf, typeInfo, he, add_off, hc]
end
end Go.Proofs.Ytgeccfdofmnphaa
end

section
/-
  append(s, x..) where x is a slice that came in, nil or not, empty or not.
-/
namespace Go.Proofs.Ytgeccfdofmnphaa
open Go.RowKit
set_option maxRecDepth 100000
set_option linter.unusedVariables false
set_option linter.unusedSimpArgs false
section
variable {P : Program} {w : World} {ob : List Blk}
theorem own_append_nilc {t ty T : TypeId} {i : TypeInfo} (ht : P.underlying t = some (.slice T)) (hi : P.info? T = some i) {sz : Nat} {v : Value} {n : Nat} {xs : List Value} (hv : Sl T sz v n xs ob) (c : Nat) :
    (Builtin.append_ #[t, t] ty #[v, .slice none 0 c]).run P w = .ok v w := by
  rcases hv.2 with ⟨rfl, rfl, rfl⟩ | ⟨g, cap, cur, rfl, rfl, hnc, hcm, hcs, htake⟩
  · simp [Builtin.append_, run_underlying ht, sizeOf, typeInfo, hi, Builtin.lenOf, Builtin.firstCells]
  · simp [Builtin.append_, run_underlying ht, sizeOf, typeInfo, hi, Builtin.lenOf, Builtin.firstCells, hnc, storeCells]
end
section
variable {M : List Nat} {P : Program} {n0 : Nat} {ops : Array Oper} {W : World} {Q : Exit → Act → World → Prop} {rest : List Oper} {o : Oper} {E ob L0 : List Blk} {f : Nat → Value}
theorem s_appendR {α : Type} {g : α → List Value} {t T : TypeId} {s x : Operand} {i : TypeInfo} {z : Value} {sz : Nat} (hg : ∀ y, (g y).length = sz) (hw : want ops n0 f o = true) (ho : o.op = .call { callee := .builtin .append, args := #[s, x], argTypes := #[t, t] })
    (ht : P.underlying t = some (.slice T)) (hi : P.info? T = some i) (hz : i.zero = some z) (hsz : i.size = sz) (hzs : z.cells.size = sz)
    {v : Value} {n : Nat} {xs : List Value} (hs : ev n0 f s = v) (hv : Sl T sz v n xs ob) {A : Option Addr} {c : Nat} {l : List α} (hx : ev n0 f x = .slice A l.length c)
    (hR : ∀ w, Own M W w (E ++ ob ++ L0) → Reads g w w.heap.size A l) (h1 : ∀ y, ∀ u ∈ g y, u.oneCell' = true)
    (h63 : n + l.length ≤ maxLen) (hbytes : (n + l.length) * i.bytes ≤ 140737488355328)
    (h : ∀ v' ob', Sl T sz v' (n + l.length) (xs ++ l.flatMap g) ob' → Seg M P n0 ops W Q rest (E ++ ob' ++ L0) (upd f o.dst v')) : Seg M P n0 ops W Q (o :: rest) (E ++ ob ++ L0) f :=
  s_step hw fun w hO => by
    have hone : ∀ u ∈ l.flatMap g, u.oneCell' = true := fun u hu => by
      obtain ⟨y, _, hy⟩ := List.mem_flatMap.1 hu
      exact h1 y u hy
    cases A with
    | none =>
      have h0 : l = [] := by
        cases l with
        | nil => rfl
        | cons y l => obtain ⟨b, off, e, _⟩ := hR w hO (by simp); cases e
      subst h0
      have hv' : Sl T sz v (n + ([] : List α).length) (xs ++ ([] : List α).flatMap g) ob := by simpa using hv
      refine wp_val v (w' := w) ?_ ((h v ob hv').go w hO)
      have hx' : ev n0 f x = .slice none 0 c := hx
      unfold execOp
      simp only [ho, resolve, invoke, builtin, Sem.run_bind, Sem.run_pure, Result.andThen_ok, List.map_toArray, List.map_cons, List.map_nil, hs, hx', own_append_nilc ht hi hv c]
    | some a =>
      have hnews : ∀ j u, (l.flatMap g)[j]? = some u → w.cell? (a.add j) = some u := fun j u hj => by
        have h0 : 0 < l.length := by
          cases l with
          | nil => simp at hj
          | cons y l => simp
        obtain ⟨b, off, e, _, hc⟩ := hR w hO h0
        obtain rfl := Option.some.inj e
        rw [add_off]
        exact hc j u hj
      obtain ⟨v', w', ob', hr, h2, h3⟩ := own_append (P := P) (ty := o.type) (c := c) ht hi hz hsz hzs hv hO (flat_len hg l) hnews hone h63 hbytes
      refine wp_val v' (w' := w') ?_ ((h v' ob' h2).go w' h3)
      unfold execOp
      simp only [ho, resolve, invoke, builtin, Sem.run_bind, Sem.run_pure, Result.andThen_ok, List.map_toArray, List.map_cons, List.map_nil, hs, hx, hr]
end
end Go.Proofs.Ytgeccfdofmnphaa
end

section
/-
  Steps: make of a slice, copy out of a string, unsafe.String of a block of the call's own. No condition of their own but the bounds that each theorem names.
-/
namespace Go.Proofs.Ytgeccfdofmnphaa
open Go.RowKit
set_option linter.unusedVariables false
set_option linter.unusedSimpArgs false

theorem freeze_drawn (w : World) (a : Addr) (m : Nat) : (w.freeze a m).drawn = w.drawn := by unfold World.freeze; split <;> rfl
theorem Own.freeze {M : List Nat} {W w : World} {x : Blk} {L : List Blk} (h : Own M W w (x :: L)) (m : Nat) : Own M W (w.freeze ⟨x.b, 0, none⟩ m) L := by
  have hne : ∀ k, k ≠ x.b → (w.freeze ⟨x.b, 0, none⟩ m).heap[k]? = w.heap[k]? := fun k hk => by
    unfold World.freeze
    split
    · rfl
    · simp only [Array.getElem?_modify]; rw [if_neg (Ne.symm hk)]
  have hsz : (w.freeze ⟨x.b, 0, none⟩ m).heap.size = w.heap.size := by unfold World.freeze; split <;> simp
  have ho : (w.freeze ⟨x.b, 0, none⟩ m).os = w.os ∧ (w.freeze ⟨x.b, 0, none⟩ m).tape = w.tape ∧ (w.freeze ⟨x.b, 0, none⟩ m).output = w.output := by unfold World.freeze; split <;> exact ⟨rfl, rfl, rfl⟩
  have hap := h.apart
  rw [List.map_cons, List.nodup_cons] at hap
  refine ⟨ho.1.trans h.os, ho.2.1.trans h.tape, ho.2.2.trans h.output, by rw [hsz]; exact h.size, by rw [freeze_drawn]; exact h.drawn, fun k hk hm => ?_, fun y hy => ?_, fun y hy => h.base y (List.mem_cons_of_mem _ hy), hap.2⟩
  · rw [hne k (fun e => by
      rcases h.base x List.mem_cons_self with h1 | h1
      · omega
      · exact hm (e ▸ h1))]
    exact h.kept k hk hm
  · rw [hne y.b (fun e => hap.1 (e ▸ List.mem_map_of_mem hy))]
    exact h.held y (List.mem_cons_of_mem _ hy)
section
variable {M : List Nat} {P : Program} {n0 : Nat} {ops : Array Oper} {W : World} {Q : Exit → Act → World → Prop} {rest : List Oper} {o : Oper} {L : List Blk} {f : Nat → Value}
/-- make([]T, l, c). -/
theorem s_make {t e : TypeId} {x y : Operand} {i : TypeInfo} {z : Value} {kl kc : IntKind} {l c : Int} (hw : want ops n0 f o = true) (ho : o.op = .makeSlice t x y) (hx : ev n0 f x = .int kl l) (hy : ev n0 f y = .int kc c)
    (ht : P.underlying t = some (.slice e)) (hi : P.info? e = some i) (hz : i.zero = some z) (h0 : 0 ≤ l) (hlc : l ≤ c) (hbytes : (i.bytes : Int) * c ≤ 281474976710656) (h63 : c ≤ 9223372036854775807)
    (h : ∀ b, Seg M P n0 ops W Q rest (⟨b, madeCells z.cells (c.toNat * i.size), e⟩ :: L) (upd f o.dst (.slice (some ⟨b, 0, none⟩) l.toNat c.toNat))) : Seg M P n0 ops W Q (o :: rest) L f :=
  s_step hw fun w hO => by
    refine wp_val _ (w' := w.alloc (.cells (madeCells z.cells (c.toNat * i.size)) e)) ?_ ((h w.heap.size).go _ (hO.alloc _ _))
    have hr := run_make (P := P) w t e i z ht hi hz kl kc l c h0 hlc hbytes h63
    unfold execOp
    simp only [ho, hx, hy, Sem.run_bind, Sem.run_pure, Result.andThen_ok, hr]
/-- copy(b, s): s a string, b a slice of the block at the head of the list, as long as s. -/
theorem s_copyS {t u e : TypeId} {x y : Operand} {b cap : Nat} {cs : Array Value} {T : TypeId} {s : ByteArray} (hw : want ops n0 f o = true) (ho : o.op = .call { callee := .builtin .copy, args := #[x, y], argTypes := #[t, u] })
    (hx : ev n0 f x = .slice (some ⟨b, 0, none⟩) s.size cap) (hy : ev n0 f y = .string s) (ht : P.underlying t = some (.slice e)) (hs : (P.info? e).map (·.size) = some 1) (hc : cs.size = s.size)
    (h : Seg M P n0 ops W Q rest (⟨b, (Lib.byteCells s.data.toList).toArray, T⟩ :: L) (upd f o.dst (goInt s.size))) : Seg M P n0 ops W Q (o :: rest) (⟨b, cs, T⟩ :: L) f :=
  s_step hw fun w hO => by
    have hr := Lib.run_copy_row_string (P := P) w t u o.type e b 0 s.size cap s cs T ht hs (hO.held _ List.mem_cons_self) (Nat.le_refl _) (by omega)
    have hcs : (cs.toList.take 0 ++ Lib.byteCells s.data.toList ++ cs.toList.drop (0 + s.size)).toArray = (Lib.byteCells s.data.toList).toArray := by
      rw [List.take_zero, List.nil_append, List.drop_of_length_le (by rw [Array.length_toList]; omega), List.append_nil]
    rw [hcs] at hr
    refine wp_val _ (w' := w.setRow b (Lib.byteCells s.data.toList).toArray) ?_ (h.go _ (hO.put (i := 0) (x := ⟨b, cs, T⟩) rfl _))
    unfold execOp
    simp only [ho, resolve, invoke, builtin, Sem.run_bind, Sem.run_pure, Result.andThen_ok, List.map_toArray, List.map_cons, List.map_nil, hx, hy, hr]
/-- unsafe.String(&b[0], len(b)): the block at the head of the list is given up. -/
theorem s_ustr {t u e : TypeId} {x y : Operand} {b : Nat} {s : ByteArray} (hw : want ops n0 f o = true) (ho : o.op = .call { callee := .builtin .unsafeString, args := #[x, y], argTypes := #[t, u] })
    (hx : ev n0 f x = .pointer (some ⟨b, 0, none⟩)) (hy : ev n0 f y = .int .i64 s.size) (ht : P.underlying t = some (.pointer e)) (hc : P.cellsOf e = 1) (hne : s.size ≠ 0) (h63 : s.size ≤ 9223372036854775807)
    (h : Seg M P n0 ops W Q rest L (upd f o.dst (.string s))) : Seg M P n0 ops W Q (o :: rest) (⟨b, (Lib.byteCells s.data.toList).toArray, e⟩ :: L) f :=
  s_step hw fun w hO => by
    have hg := hO.held _ List.mem_cons_self
    have hl : s.data.toList.length = s.size := by rw [← Lib.size_eq]
    have hr := Lib.run_unsafeString_row (P := P) w t u o.type e ht hc b s.size (by unfold World.shape?; simp only at hg; rw [hg]; simp [Lib.byteCells_length, hl]) s.data.toList (fun e => hne (by rw [← hl, e]; rfl)) (by omega) (by omega)
      (fun j x hx => by
        rw [add_off, cell_of_row w b (0 + j) _ e _ hg]
        simp [Lib.byteCells, hx])
    rw [hl] at hr
    refine wp_val _ (w' := w.freeze ⟨b, 0, none⟩ s.size) ?_ (h.go _ (hO.freeze s.size))
    unfold execOp
    simp only [ho, resolve, invoke, builtin, Sem.run_bind, Sem.run_pure, Result.andThen_ok, List.map_toArray, List.map_cons, List.map_nil, hx, hy, hr]
end
end Go.Proofs.Ytgeccfdofmnphaa
end

section
/-
  strings.Clone returns the string itself (for at most 2^48 bytes); nothing that was there is changed.
-/
namespace Go.Proofs.Ytgeccfdofmnphaa
open Go.RowKit
set_option maxRecDepth 100000
set_option linter.unusedVariables false
set_option linter.unusedSimpArgs false

theorem infoByte9 : (Try.prog.info? 5).map (fun i => (i.zero.map (·.cells.size), i.size, i.bytes)) = some (some 1, 1, 1) := by kernel_rfl
theorem byte_info : ∃ i z, Try.prog.info? 5 = some i ∧ i.zero = some z ∧ i.size = 1 ∧ z.cells.size = 1 ∧ i.bytes = 1 := by
  have h := infoByte9
  cases hi : Try.prog.info? 5 with
  | none => rw [hi] at h; cases h
  | some i =>
    rw [hi] at h
    simp only [Option.map_some, Option.some.injEq, Prod.mk.injEq] at h
    cases hz : i.zero with
    | none => rw [hz] at h; simp at h
    | some z => rw [hz] at h; simp at h; exact ⟨i, z, rfl, hz, h.2.1, h.1, h.2.2⟩
theorem empty_of {s : ByteArray} (h : (s.size : Int) = 0) : s = ⟨#[]⟩ := by
  have h2 : s.data.size = 0 := Int.ofNat.inj h
  exact ByteArray.ext (Array.eq_empty_of_size_eq_zero h2)

theorem sclone_any (s : ByteArray) (w : World) (hs : s.size ≤ 281474976710656) :
    Calls Try.prog 63 #[.string s] w fun e w' => e = .returned (.string s) ∧ Below w.heap.size w w' := by
  refine calls_ok (n := 18) Try.func63 rfl (by kernel_rfl) (by kernel_rfl) ?_
  refine ok_seq ?_
  refine ok_region ?_
  refine s_val (.string ⟨#[]⟩) (by kernel_rfl) (fun _ => by kernel_rfl) ?_
  refine s_nil ?_
  refine fin_seq ?_
  refine ok_seq ?_
  refine ok_seq ?_
  refine ok_region ?_
  refine s_val (.string s) (by kernel_rfl) (fun _ => by kernel_rfl) ?_
  refine s_val (.int .i64 ((s).size)) (by kernel_rfl) (fun _ => by kernel_rfl) ?_
  by_cases h1 : ((s).size : Int) = 0
  · skip
    refine s_dec (p := ((s).size : Int) = 0) true (by kernel_rfl) (fun _ => by kernel_rfl) (decide_eq_true (h1)) ?_
    refine s_nil ?_
    refine fin_seq ?_
    refine ok_true (by kernel_rfl) ?_
    refine ok_seq ?_
    refine ok_region ?_
    refine s_val (.string ⟨#[]⟩) (by kernel_rfl) (fun _ => by kernel_rfl) ?_
    refine s_nil ?_
    refine fin_seq ?_
    refine ok_ret ?_
    refine fin_seq_ret ?_
    refine fin_ret (.string ⟨#[]⟩) Try.results63 (by kernel_rfl) ?_
    exact fun w hO => ⟨by rw [empty_of (s := s) (by assumption)], hO.below⟩
  · skip
    refine s_dec (p := ((s).size : Int) = 0) false (by kernel_rfl) (fun _ => by kernel_rfl) (decide_eq_false (h1)) ?_
    refine s_nil ?_
    refine fin_seq ?_
    refine ok_false (by kernel_rfl) ?_
    refine ok_skip ?_
    refine fin_seq ?_
    refine ok_seq ?_
    refine ok_region ?_
    refine s_val (.string s) (by kernel_rfl) (fun _ => by kernel_rfl) ?_
    refine s_val (.int .i64 ((s).size)) (by kernel_rfl) (fun _ => by kernel_rfl) ?_
    obtain ⟨i, z, e1, e2, e3, e4, e5⟩ := byte_info
    refine s_make (kl := .i64) (kc := .i64) (l := (s.size : Int)) (c := (s.size : Int)) (by kernel_rfl) rfl (by kernel_rfl) (by kernel_rfl) Try.underlying100 e1 e2 (by omega) (by omega) (by rw [e5]; omega) (by omega) (fun b => ?_)
    rw [show ((s.size : Nat) : Int).toNat = s.size from rfl]
    obtain ⟨cs, hcs⟩ : ∃ cs, cs = madeCells z.cells (s.size * i.size) := ⟨_, rfl⟩
    have hcz : cs.size = s.size := by rw [hcs, size_madeCells, e3]; simp
    rw [← hcs]
    refine s_val (.slice (some ⟨b, 0, none⟩) s.size s.size) (by kernel_rfl) (fun _ => by kernel_rfl) ?_
    refine s_nil ?_
    refine fin_seq ?_
    refine ok_seq ?_
    refine ok_region ?_
    refine s_val (.slice (some ⟨b, 0, none⟩) s.size s.size) (by kernel_rfl) (fun _ => by kernel_rfl) ?_
    refine s_val (.string s) (by kernel_rfl) (fun _ => by kernel_rfl) ?_
    refine s_copyS (b := b) (cap := s.size) (s := s) (cs := cs) (by kernel_rfl) rfl (by kernel_rfl) (by kernel_rfl) Try.underlying100 (by kernel_rfl) hcz ?_
    refine s_nil ?_
    refine fin_seq ?_
    refine ok_seq ?_
    refine ok_region ?_
    refine s_val (.slice (some ⟨b, 0, none⟩) s.size s.size) (by kernel_rfl) (fun _ => by kernel_rfl) ?_
    refine s_val (.pointer (some ⟨b, 0, none⟩)) (by kernel_rfl) (run_ixsl (b := b) (off := 0) (n := s.size) (c := s.size) (k := .i64) (j := 0) (e := 5) (sz := 1) rfl (by kernel_rfl) (by kernel_rfl) (by kernel_rfl) (by kernel_rfl) (by omega) (by omega) (by omega)) ?_
    refine s_val (.slice (some ⟨b, 0, none⟩) s.size s.size) (by kernel_rfl) (fun _ => by kernel_rfl) ?_
    refine s_val (.int .i64 (s.size : Int)) (by kernel_rfl) (fun _ => by kernel_rfl) ?_
    refine s_ustr (s := s) (by kernel_rfl) rfl (by kernel_rfl) (by kernel_rfl) Try.underlying101 (by unfold Program.cellsOf; simp [e1, e3]) (by omega) (by omega) ?_
    refine s_val (.string s) (by kernel_rfl) (fun _ => by kernel_rfl) ?_
    refine s_nil ?_
    refine fin_seq ?_
    refine ok_ret ?_
    refine fin_ret (.string s) Try.results63 (by kernel_rfl) ?_
    exact fun w hO => ⟨rfl, hO.below⟩
theorem clone_any (s : ByteArray) (w : World) (hs : s.size ≤ 281474976710656) :
    Calls Try.prog 44 #[.string s] w fun e w' => e = .returned (.string s) ∧ Below w.heap.size w w' := by
  refine calls_ok (n := 5) Try.func44 rfl (by kernel_rfl) (by kernel_rfl) ?_
  refine ok_seq ?_
  refine ok_region ?_
  refine s_val (.string ⟨#[]⟩) (by kernel_rfl) (fun _ => by kernel_rfl) ?_
  refine s_nil ?_
  refine fin_seq ?_
  refine ok_seq ?_
  refine ok_region ?_
  refine s_val (.string s) (by kernel_rfl) (fun _ => by kernel_rfl) ?_
  refine s_call (k := 63) (args := #[.string s]) (.string s) (by kernel_rfl) (fun _ => by kernel_rfl) (fun w _ => sclone_any s w hs) ?_
  refine s_val (.string s) (by kernel_rfl) (fun _ => by kernel_rfl) ?_
  refine s_nil ?_
  refine fin_seq ?_
  refine ok_ret ?_
  refine fin_ret (.string s) Try.results44 (by kernel_rfl) ?_
  exact fun w hO => ⟨rfl, hO.below⟩
end Go.Proofs.Ytgeccfdofmnphaa
end

section
/-
  Package version: Print: it returns the string of a valid version, and the empty string for any other; nothing that was there is changed. Conditions: strings of at most a million bytes; the library's table of powers of ten reads as it is laid.
-/
namespace Go.Proofs.Ytgeccfdofmnphaa
open Go.RowKit

def digs (a b c : Int) : List (List UInt8) := [Lib.itoa a, Lib.itoa b, Lib.itoa c]
theorem digs_snoc (a b c : Int) (k : Nat) (hk : k < 3) : (digs a b c).take (k + 1) = (digs a b c).take k ++ [Lib.itoa (nth3 a b c k)] := by
  match k, hk with
  | 0, _ => rfl
  | 1, _ => rfl
  | 2, _ => rfl
theorem digs_len (a b c : Int) (k : Nat) (hk : k ≤ 3) : ((digs a b c).take k).length = k := by
  rw [List.length_take]; simp [digs]; omega
theorem join_digs (a b c : Int) : joinL 46 (digs a b c) = Lib.itoa a ++ 46 :: (Lib.itoa b ++ 46 :: Lib.itoa c) := rfl
theorem dec_len (n : Nat) (h : n ≤ 9999) : (Lib.decDigits n).length ≤ 4 := by
  rw [Lib.decDigits_length]
  unfold Lib.nDigits
  split
  · omega
  · unfold Lib.nDigits
    split
    · omega
    · unfold Lib.nDigits
      split
      · omega
      · rw [Lib.nDigits_small (by omega)]; omega
theorem itoa_len {n : Int} (h : numOkI n = true) : (Lib.itoa n).length ≤ 4 := by
  rw [itoa_nat h]
  apply dec_len
  unfold numOkI at h; simp at h; omega
theorem nums_len {a b c : Int} (h1 : numOkI a = true) (h2 : numOkI b = true) (h3 : numOkI c = true) : (joinL 46 (digs a b c)).length ≤ 14 := by
  rw [join_digs]
  have := itoa_len h1; have := itoa_len h2; have := itoa_len h3
  simp; omega

end Go.Proofs.Ytgeccfdofmnphaa
end

section
/-
  Package version: Parse: it returns the version that the document's own reading (parseR) finds, and OK; or the zero version and ErrVersion; nothing that was there is changed. Conditions: a string of at most a million bytes; the library's table of powers of ten reads as it is laid.
-/
namespace Go.Proofs.Ytgeccfdofmnphaa
open Go.RowKit

def parV (s : List UInt8) : Ver := (parseR s).getD Ver.zero
def parE (s : List UInt8) : Int := if (parseR s).isSome then 0 else 5
theorem mkS_ne {a b : List UInt8} (h : a ≠ b) : ((mkS a).toList == (mkS b).toList) = false := by
  rw [Lib.toList_data, Lib.toList_data, mk_data, mk_data]; simpa using h
theorem mkS_eq {a b : List UInt8} (h : a = b) : ((mkS a).toList == (mkS b).toList) = true := by
  subst h; simp
theorem par_hit {s : List UInt8} (h : (guess s).print = s) : parV s = guess s ∧ parE s = 0 := by
  have := parse_eq s
  unfold parseI at this
  rw [if_pos h] at this
  unfold parV parE
  rw [← this]; exact ⟨rfl, rfl⟩
theorem par_miss {s : List UInt8} (h : ¬ (guess s).print = s) : parV s = Ver.zero ∧ parE s = 5 := by
  have := parse_eq s
  unfold parseI at this
  rw [if_neg h] at this
  unfold parV parE
  rw [← this]; exact ⟨rfl, rfl⟩
def PEnd (s : List UInt8) (w : World) (e : Ending) (w' : World) : Prop := e = .returned (.tuple #[verV (parV s), .int .i64 (parE s)]) ∧ Below w.heap.size w w'

theorem ver_one (a b c : Int) (p q : ByteArray) : (#[.int .i64 a, .int .i64 b, .int .i64 c, .string p, .string q] : Array Value).all (·.oneCell') = true := by simp [Value.oneCell']
theorem set34 {w1 : World} {B : Nat} {a b c x0 y0 : Value} (x y : Value) (hg : w1.heap[B]? = some (.cells #[a, b, c, x0, y0] 24)) :
    ((w1.setCell ⟨B, 3, none⟩ x).setCell ⟨B, 4, none⟩ y).heap[B]? = some (.cells #[a, b, c, x, y] 24) ∧ ∀ k, B ≠ k → ((w1.setCell ⟨B, 3, none⟩ x).setCell ⟨B, 4, none⟩ y).heap[k]? = w1.heap[k]? := by
  have e3 := setCell_eq_setRow w1 B 3 _ _ _ x hg
  have hq3 := setRow_heap w1 B _ #[a, b, c, x, y0] _ _ hg
  have e4 := setCell_eq_setRow _ B 4 _ _ _ y hq3
  have hwv : (w1.setCell ⟨B, 3, none⟩ x).setCell ⟨B, 4, none⟩ y = (w1.setRow B #[a, b, c, x, y0]).setRow B #[a, b, c, x, y] := by rw [e3]; exact e4
  rw [hwv]
  exact ⟨setRow_heap _ _ _ _ _ _ hq3, fun k hk => by rw [setRow_other _ _ _ _ hk, setRow_other _ _ _ _ hk]⟩

theorem core_any (v : Ver) (w : World) (hp : v.pre.length ≤ 1000000) :
    Calls Try.prog 21 #[verV v] w fun e w' => e = .returned (verV { v with build := [] }) ∧ Below w.heap.size w w' := by
  obtain ⟨a, b, c, p, q⟩ := v
  unfold verV
  dsimp only at hp ⊢
  go_enter Try.func21, Try.ntmps21
  go_wp2_with fail
  refine (clone_any (mkS p) _ (by rw [mkS_sz]; omega)).mono ?_
  rintro e w1 ⟨rfl, hb1⟩
  have hz1 := hb1.size
  simp only [size_box] at hz1
  have hgB := Lib.hid ((hb1.block w.heap.size (by simp only [size_box]; omega)).trans ((heap_old _ _ (by simp only [size_box]; omega)).trans (heap_new w _)))
  have hgR := Lib.hid ((hb1.block (w.heap.size + 1) (by simp only [size_box]; omega)).trans (heap_at _ _ _ (by simp only [size_box])))
  have hbw : Below w.heap.size w w1 := (((Below.refl _ _).alloc (Nat.le_refl _) _).alloc (by simp only [size_box]; omega) _).trans (hb1.mono (by simp only [size_box]; omega))
  obtain ⟨c3, f3⟩ := cell_row (j := 3) hgB.out (by simp)
  obtain ⟨c4, f4⟩ := cell_row (j := 4) hgB.out (by simp)
  obtain ⟨hL, hO⟩ := set34 (.string (mkS p)) (.string ⟨#[]⟩) hgB.out
  have HL := Lib.hid hL
  have HL0 := Lib.hid ((hO (w.heap.size + 1) (by omega)).trans hgR.out)
  have hbL : Below w.heap.size w ((w1.setCell ⟨w.heap.size, 3, none⟩ (.string (mkS p))).setCell ⟨w.heap.size, 4, none⟩ (.string ⟨#[]⟩)) := (hbw.setCell (by simp) _).setCell (by simp) _
  clear hL hO
  go_wp2_with (first
    | (refine wpList_load_row rfl 24 _ rfl w.heap.size rfl _ _ _ _ HL.out Try.underlying24 rfl (by kernel_rfl) ?_)
    | (refine wpList_store_row rfl 24 _ _ rfl (w.heap.size + 1) #[.int .i64 a, .int .i64 b, .int .i64 c, .string (mkS p), .string ⟨#[]⟩] rfl rfl _ _ HL0.out (by kernel_rfl) rfl (ver_one _ _ _ _ _) ?_))
  have hr := results_cell_row (P := Try.prog) (fn := Try.f21) Try.results21
  refine bodyPost_ret (v := .agg #[.int .i64 a, .int .i64 b, .int .i64 c, .string (mkS p), .string ⟨#[]⟩]) (hr _ _ (w.heap.size + 1) _ _ _ _ rfl (setRow_heap _ _ _ _ _ _ HL0.out) Try.underlying24 rfl (by kernel_rfl)) rfl ⟨rfl, below_setRow hbL (by omega) _⟩
end Go.Proofs.Ytgeccfdofmnphaa
end

section
/-
  linchpinlaw0: Place, At, From, Version and Release: what they return for every list of numbers; nothing that was there is changed.
-/
namespace Go.Proofs.Ytgeccfdofmnphaa
open Go.RowKit

/-- A slice that reads as a list of ints. -/
def ReadsI (w : World) (B : Nat) (v : Value) (l : List Int) : Prop :=
  ∃ A cap, v = .slice A l.length cap ∧ (0 < l.length → ∃ ad : Addr, A = some ad ∧ ad.block < B ∧ ∀ j (h : j < l.length), w.cell? (ad.add j) = some (.int .i64 l[j]))
theorem add_block (a : Addr) (n : Nat) : (a.add n).block = a.block := by unfold Addr.add; split <;> rfl
theorem ReadsI.below {w w' : World} {B : Nat} {v : Value} {l : List Int} (h : ReadsI w B v l) (hb : Below B w w') : ReadsI w' B v l := by
  obtain ⟨A, cap, hv, hc⟩ := h
  exact ⟨A, cap, hv, fun hpos => by
    obtain ⟨ad, hA, hlt, hcc⟩ := hc hpos
    exact ⟨ad, hA, hlt, fun j hj => (hb.cell (by rw [add_block]; exact hlt)).trans (hcc j hj)⟩⟩
theorem ReadsI.more {w : World} {B B' : Nat} {v : Value} {l : List Int} (h : ReadsI w B v l) (hB : B ≤ B') : ReadsI w B' v l := by
  obtain ⟨A, cap, hv, hc⟩ := h
  exact ⟨A, cap, hv, fun hpos => by
    obtain ⟨ad, hA, hlt, hcc⟩ := hc hpos
    exact ⟨ad, hA, Nat.lt_of_lt_of_le hlt hB, hcc⟩⟩
def atL (l : List Int) (i : Nat) : Int := (l[i]?).getD 0
/-- The place of any number among n. -/
def plc (v n : Int) : Int := if v.tmod n < 0 then v.tmod n + n else v.tmod n
theorem tmod_in (v n : Int) (hn : 0 < n) : -n < v.tmod n ∧ v.tmod n < n := by
  rcases Int.lt_or_le v 0 with h | h
  · have h3 := Int.tmod_lt_of_pos (-v) hn
    have h4 := Int.tmod_nonneg n (show 0 ≤ -v by omega)
    rw [Int.neg_tmod] at h3 h4; omega
  · have h3 := Int.tmod_lt_of_pos v hn
    have h4 := Int.tmod_nonneg n h
    omega
theorem plc_in (v n : Int) (hn : 0 < n) : 0 ≤ plc v n ∧ plc v n < n := by
  obtain ⟨h1, h2⟩ := tmod_in v n hn
  unfold plc
  split <;> omega

theorem place_any (v n : Int) (w : World) (hn : 0 < n) (hn2 : n ≤ 1000000) :
    Calls Try.prog 39 #[.int .i64 v, .int .i64 n] w fun e w' => e = .returned (.int .i64 (plc v n)) ∧ w = w' := by
  obtain ⟨h1, h2⟩ := tmod_in v n hn
  have HP : Hid (plc v n = if v.tmod n < 0 then v.tmod n + n else v.tmod n) := rfl
  have hn0 : (n == 0) = false := by simp; omega
  have hw : IntKind.i64.wrap (v.tmod n) = v.tmod n := IntWalk.i64_in _ (by omega)
  obtain ⟨m, hm⟩ : ∃ m, v.tmod n = m := ⟨_, rfl⟩
  rw [hm] at h1 h2 HP hw
  by_cases h0 : m < 0
  · have hs : 0 ≤ m + n := by omega
    have hs2 : m + n ≤ 1000000 := by omega
    go_enter Try.func39, Try.ntmps39
    go_wp2
    go_ret
    exact ⟨ret_int (by rw [HP.out, if_pos h0]), rfl⟩
  · go_enter Try.func39, Try.ntmps39
    go_wp2
    go_ret
    exact ⟨ret_int (by rw [HP.out, if_neg (by omega)]), rfl⟩
theorem at_any (v : Value) (l : List Int) (i : Nat) (w : World) (hv : ReadsI w w.heap.size v l) (hl : l.length ≤ 9223372036854775807) (hi : i ≤ 1000000) :
    Calls Try.prog 40 #[v, .int .i64 i] w fun e w' => e = .returned (.int .i64 (atL l i)) ∧ w = w' := by
  obtain ⟨A, cap, rfl, hc⟩ := hv
  by_cases h : i < l.length
  · obtain ⟨ad, rfl, hlt, hcc⟩ := hc (by omega)
    have hcell := hcc i h
    have hi1 : (i : Int) < l.length := by omega
    have hi2 : ¬ (l.length : Int) ≤ i := by omega
    have HA : Hid (atL l i = l[i]) := by show _ = _; unfold atL; rw [List.getElem?_eq_getElem h]; rfl
    clear hc hcc
    go_enter Try.func40, Try.ntmps40
    go_wp2
    go_ret
    exact ⟨ret_int HA.out.symm, rfl⟩
  · have hi1 : (l.length : Int) ≤ i := by omega
    have HA : Hid (atL l i = 0) := by show _ = _; unfold atL; rw [List.getElem?_eq_none (by omega)]; rfl
    clear hc
    go_enter Try.func40, Try.ntmps40
    go_wp2
    go_ret
    exact ⟨ret_int HA.out.symm, rfl⟩

def i64in (n : Int) : Prop := -9223372036854775808 ≤ n ∧ n ≤ 9223372036854775807
theorem from_any (v : Value) (l : List Int) (i : Nat) (n : Int) (w : World) (hv : ReadsI w w.heap.size v l) (hl : l.length ≤ 9223372036854775807) (hi : i ≤ 1000000) (hn : 0 < n) (hn2 : n ≤ 1000000) :
    Calls Try.prog 19 #[v, .int .i64 i, .int .i64 n] w fun e w' => e = .returned (.int .i64 (plc (atL l i) n)) ∧ w = w' := by
  have cA := at_any v l i w hv hl hi
  obtain ⟨A, cap, rfl, hc⟩ := hv
  clear hc
  go_enter Try.func19, Try.ntmps19
  go_wp2_with fail
  refine cA.mono ?_
  rintro e w1 ⟨rfl, rfl⟩
  go_wp2_with fail
  refine (place_any _ n _ hn hn2).mono ?_
  rintro e w1 ⟨rfl, rfl⟩
  go_wp2
  go_ret
  exact ⟨rfl, rfl⟩

def numT (k : Nat) : Int := (([0, 1, 2, 3, 0, 1, 10, 9999] : List Int)[k]?).getD 0
def preT14 (k : Nat) : List UInt8 := (([[], [], [], [], [48], [49], [50], [49, 49], [97], [97, 46, 49], [97, 46, 98], [98], [48, 46, 48], [114, 99, 46, 49]] : List (List UInt8))[k]?).getD []
def bldT (k : Nat) : List UInt8 := (([[], [], [], [], [48, 48, 55], [120, 46, 49]] : List (List UInt8))[k]?).getD []
def genV (l : List Int) (i : Nat) : Ver := ⟨numT (plc (atL l i) 8).toNat, numT (plc (atL l (i + 1)) 8).toNat, numT (plc (atL l (i + 2)) 8).toNat, preT14 (plc (atL l (i + 3)) 14).toNat, bldT (plc (atL l (i + 4)) 6).toNat⟩
theorem num_cell {w : World} {B : Nat} {T : TypeId} (h : w.heap[B]? = some (.cells #[.int .i64 0, .int .i64 1, .int .i64 2, .int .i64 3, .int .i64 0, .int .i64 1, .int .i64 10, .int .i64 9999] T)) (k : Nat) (hk : k < 8) : w.cell? ⟨B, k, none⟩ = some (.int .i64 (numT k)) := by
  rw [cell_of_row w B k _ _ _ h]
  match k, hk with
  | 0, _ => rfl
  | 1, _ => rfl
  | 2, _ => rfl
  | 3, _ => rfl
  | 4, _ => rfl
  | 5, _ => rfl
  | 6, _ => rfl
  | 7, _ => rfl
theorem pre_cell {w : World} {B : Nat} {T : TypeId} (h : w.heap[B]? = some (.cells #[.string ⟨#[]⟩, .string ⟨#[]⟩, .string ⟨#[]⟩, .string ⟨#[]⟩, .string ⟨#[48]⟩, .string ⟨#[49]⟩, .string ⟨#[50]⟩, .string ⟨#[49, 49]⟩, .string ⟨#[97]⟩, .string ⟨#[97, 46, 49]⟩, .string ⟨#[97, 46, 98]⟩, .string ⟨#[98]⟩, .string ⟨#[48, 46, 48]⟩, .string ⟨#[114, 99, 46, 49]⟩] T)) (k : Nat) (hk : k < 14) : w.cell? ⟨B, k, none⟩ = some (.string (mkS (preT14 k))) := by
  rw [cell_of_row w B k _ _ _ h]
  match k, hk with
  | 0, _ => rfl
  | 1, _ => rfl
  | 2, _ => rfl
  | 3, _ => rfl
  | 4, _ => rfl
  | 5, _ => rfl
  | 6, _ => rfl
  | 7, _ => rfl
  | 8, _ => rfl
  | 9, _ => rfl
  | 10, _ => rfl
  | 11, _ => rfl
  | 12, _ => rfl
  | 13, _ => rfl
theorem bld_cell {w : World} {B : Nat} {T : TypeId} (h : w.heap[B]? = some (.cells #[.string ⟨#[]⟩, .string ⟨#[]⟩, .string ⟨#[]⟩, .string ⟨#[]⟩, .string ⟨#[48, 48, 55]⟩, .string ⟨#[120, 46, 49]⟩] T)) (k : Nat) (hk : k < 6) : w.cell? ⟨B, k, none⟩ = some (.string (mkS (bldT k))) := by
  rw [cell_of_row w B k _ _ _ h]
  match k, hk with
  | 0, _ => rfl
  | 1, _ => rfl
  | 2, _ => rfl
  | 3, _ => rfl
  | 4, _ => rfl
  | 5, _ => rfl
def GEnd (u : Ver) (w : World) (e : Ending) (w' : World) : Prop := e = .returned (verV u) ∧ Below w.heap.size w w'
end Go.Proofs.Ytgeccfdofmnphaa
end

section
/-
  linchpinlaw0's Version at the place 0: the version that five numbers of the list name.
-/
namespace Go.Proofs.Ytgeccfdofmnphaa
open Go.RowKit

set_option maxHeartbeats 4000000 in
set_option maxRecDepth 100000 in
theorem gen_at0 (v : Value) (l : List Int) (w : World) (hv : ReadsI w w.heap.size v l) (hl : l.length ≤ 9223372036854775807) :
    Calls Try.prog 5 #[v, .int .i64 0] w (GEnd (genV l 0) w) := by
  have B0 : Below w.heap.size w ((((w.alloc (.cells #[.int .i64 0, .int .i64 0, .int .i64 0, .string ⟨#[]⟩, .string ⟨#[]⟩] 24)).alloc (.cells #[.int .i64 0, .int .i64 1, .int .i64 2, .int .i64 3, .int .i64 0, .int .i64 1, .int .i64 10, .int .i64 9999] 40)).alloc (.cells #[.string ⟨#[]⟩, .string ⟨#[]⟩, .string ⟨#[]⟩, .string ⟨#[]⟩, .string ⟨#[48]⟩, .string ⟨#[49]⟩, .string ⟨#[50]⟩, .string ⟨#[49, 49]⟩, .string ⟨#[97]⟩, .string ⟨#[97, 46, 49]⟩, .string ⟨#[97, 46, 98]⟩, .string ⟨#[98]⟩, .string ⟨#[48, 46, 48]⟩, .string ⟨#[114, 99, 46, 49]⟩] 41)).alloc (.cells #[.string ⟨#[]⟩, .string ⟨#[]⟩, .string ⟨#[]⟩, .string ⟨#[]⟩, .string ⟨#[48, 48, 55]⟩, .string ⟨#[120, 46, 49]⟩] 42)) :=
    ((((Below.refl _ _).alloc (Nat.le_refl _) _).alloc (by simp only [size_box]; omega) _).alloc (by simp only [size_box]; omega) _).alloc (by simp only [size_box]; omega) _
  have hR : ((((w.alloc (.cells #[.int .i64 0, .int .i64 0, .int .i64 0, .string ⟨#[]⟩, .string ⟨#[]⟩] 24)).alloc (.cells #[.int .i64 0, .int .i64 1, .int .i64 2, .int .i64 3, .int .i64 0, .int .i64 1, .int .i64 10, .int .i64 9999] 40)).alloc (.cells #[.string ⟨#[]⟩, .string ⟨#[]⟩, .string ⟨#[]⟩, .string ⟨#[]⟩, .string ⟨#[48]⟩, .string ⟨#[49]⟩, .string ⟨#[50]⟩, .string ⟨#[49, 49]⟩, .string ⟨#[97]⟩, .string ⟨#[97, 46, 49]⟩, .string ⟨#[97, 46, 98]⟩, .string ⟨#[98]⟩, .string ⟨#[48, 46, 48]⟩, .string ⟨#[114, 99, 46, 49]⟩] 41)).alloc (.cells #[.string ⟨#[]⟩, .string ⟨#[]⟩, .string ⟨#[]⟩, .string ⟨#[]⟩, .string ⟨#[48, 48, 55]⟩, .string ⟨#[120, 46, 49]⟩] 42)).heap[w.heap.size]? = some (.cells #[.int .i64 0, .int .i64 0, .int .i64 0, .string ⟨#[]⟩, .string ⟨#[]⟩] 24) := by
    rw [heap_old _ _ (by simp only [size_box]; omega), heap_old _ _ (by simp only [size_box]; omega), heap_old _ _ (by simp only [size_box]; omega)]; exact heap_new w _
  have hN : ((((w.alloc (.cells #[.int .i64 0, .int .i64 0, .int .i64 0, .string ⟨#[]⟩, .string ⟨#[]⟩] 24)).alloc (.cells #[.int .i64 0, .int .i64 1, .int .i64 2, .int .i64 3, .int .i64 0, .int .i64 1, .int .i64 10, .int .i64 9999] 40)).alloc (.cells #[.string ⟨#[]⟩, .string ⟨#[]⟩, .string ⟨#[]⟩, .string ⟨#[]⟩, .string ⟨#[48]⟩, .string ⟨#[49]⟩, .string ⟨#[50]⟩, .string ⟨#[49, 49]⟩, .string ⟨#[97]⟩, .string ⟨#[97, 46, 49]⟩, .string ⟨#[97, 46, 98]⟩, .string ⟨#[98]⟩, .string ⟨#[48, 46, 48]⟩, .string ⟨#[114, 99, 46, 49]⟩] 41)).alloc (.cells #[.string ⟨#[]⟩, .string ⟨#[]⟩, .string ⟨#[]⟩, .string ⟨#[]⟩, .string ⟨#[48, 48, 55]⟩, .string ⟨#[120, 46, 49]⟩] 42)).heap[w.heap.size + 1]? = some (.cells #[.int .i64 0, .int .i64 1, .int .i64 2, .int .i64 3, .int .i64 0, .int .i64 1, .int .i64 10, .int .i64 9999] 40) := by
    rw [heap_old _ _ (by simp only [size_box]; omega), heap_old _ _ (by simp only [size_box]; omega)]; exact heap_at _ _ _ (by simp only [size_box])
  have hP : ((((w.alloc (.cells #[.int .i64 0, .int .i64 0, .int .i64 0, .string ⟨#[]⟩, .string ⟨#[]⟩] 24)).alloc (.cells #[.int .i64 0, .int .i64 1, .int .i64 2, .int .i64 3, .int .i64 0, .int .i64 1, .int .i64 10, .int .i64 9999] 40)).alloc (.cells #[.string ⟨#[]⟩, .string ⟨#[]⟩, .string ⟨#[]⟩, .string ⟨#[]⟩, .string ⟨#[48]⟩, .string ⟨#[49]⟩, .string ⟨#[50]⟩, .string ⟨#[49, 49]⟩, .string ⟨#[97]⟩, .string ⟨#[97, 46, 49]⟩, .string ⟨#[97, 46, 98]⟩, .string ⟨#[98]⟩, .string ⟨#[48, 46, 48]⟩, .string ⟨#[114, 99, 46, 49]⟩] 41)).alloc (.cells #[.string ⟨#[]⟩, .string ⟨#[]⟩, .string ⟨#[]⟩, .string ⟨#[]⟩, .string ⟨#[48, 48, 55]⟩, .string ⟨#[120, 46, 49]⟩] 42)).heap[w.heap.size + 1 + 1]? = some (.cells #[.string ⟨#[]⟩, .string ⟨#[]⟩, .string ⟨#[]⟩, .string ⟨#[]⟩, .string ⟨#[48]⟩, .string ⟨#[49]⟩, .string ⟨#[50]⟩, .string ⟨#[49, 49]⟩, .string ⟨#[97]⟩, .string ⟨#[97, 46, 49]⟩, .string ⟨#[97, 46, 98]⟩, .string ⟨#[98]⟩, .string ⟨#[48, 46, 48]⟩, .string ⟨#[114, 99, 46, 49]⟩] 41) := by
    rw [heap_old _ _ (by simp only [size_box]; omega)]; exact heap_at _ _ _ (by simp only [size_box])
  have hQ : ((((w.alloc (.cells #[.int .i64 0, .int .i64 0, .int .i64 0, .string ⟨#[]⟩, .string ⟨#[]⟩] 24)).alloc (.cells #[.int .i64 0, .int .i64 1, .int .i64 2, .int .i64 3, .int .i64 0, .int .i64 1, .int .i64 10, .int .i64 9999] 40)).alloc (.cells #[.string ⟨#[]⟩, .string ⟨#[]⟩, .string ⟨#[]⟩, .string ⟨#[]⟩, .string ⟨#[48]⟩, .string ⟨#[49]⟩, .string ⟨#[50]⟩, .string ⟨#[49, 49]⟩, .string ⟨#[97]⟩, .string ⟨#[97, 46, 49]⟩, .string ⟨#[97, 46, 98]⟩, .string ⟨#[98]⟩, .string ⟨#[48, 46, 48]⟩, .string ⟨#[114, 99, 46, 49]⟩] 41)).alloc (.cells #[.string ⟨#[]⟩, .string ⟨#[]⟩, .string ⟨#[]⟩, .string ⟨#[]⟩, .string ⟨#[48, 48, 55]⟩, .string ⟨#[120, 46, 49]⟩] 42)).heap[w.heap.size + 1 + 1 + 1]? = some (.cells #[.string ⟨#[]⟩, .string ⟨#[]⟩, .string ⟨#[]⟩, .string ⟨#[]⟩, .string ⟨#[48, 48, 55]⟩, .string ⟨#[120, 46, 49]⟩] 42) := heap_at _ _ _ (by simp only [size_box])
  have hvW := (hv.below B0).more B0.size
  obtain ⟨A, cap, rfl, hc⟩ := hv
  clear hc
  go_enter Try.func5, Try.ntmps5
  go_wp2_with fail
  generalize ((((w.alloc (.cells #[.int .i64 0, .int .i64 0, .int .i64 0, .string ⟨#[]⟩, .string ⟨#[]⟩] 24)).alloc (.cells #[.int .i64 0, .int .i64 1, .int .i64 2, .int .i64 3, .int .i64 0, .int .i64 1, .int .i64 10, .int .i64 9999] 40)).alloc (.cells #[.string ⟨#[]⟩, .string ⟨#[]⟩, .string ⟨#[]⟩, .string ⟨#[]⟩, .string ⟨#[48]⟩, .string ⟨#[49]⟩, .string ⟨#[50]⟩, .string ⟨#[49, 49]⟩, .string ⟨#[97]⟩, .string ⟨#[97, 46, 49]⟩, .string ⟨#[97, 46, 98]⟩, .string ⟨#[98]⟩, .string ⟨#[48, 46, 48]⟩, .string ⟨#[114, 99, 46, 49]⟩] 41)).alloc (.cells #[.string ⟨#[]⟩, .string ⟨#[]⟩, .string ⟨#[]⟩, .string ⟨#[]⟩, .string ⟨#[48, 48, 55]⟩, .string ⟨#[120, 46, 49]⟩] 42)) = W4 at *
  have hvD : ReadsI W4.drew W4.drew.heap.size (.slice A l.length cap) l := hvW
  obtain ⟨k0, e0⟩ : ∃ k : Nat, plc (atL l 0) 8 = (k : Int) := ⟨_, (Int.toNat_of_nonneg (plc_in _ _ (by omega)).1).symm⟩
  have q0 : k0 < 8 := by have := (plc_in (atL l 0) 8 (by omega)).2; omega
  have u0 : (plc (atL l 0) 8).toNat = k0 := by rw [e0]; rfl
  have c0 : Calls Try.prog 19 #[.slice A l.length cap, .int .i64 0, .int .i64 8] W4.drew fun e w' => e = .returned (.int .i64 (k0 : Int)) ∧ w' = W4.drew := by
    have h := from_any _ l 0 8 W4.drew hvD hl (by omega) (by omega) (by omega)
    rw [e0] at h
    exact h.mono fun _ _ ⟨x, y⟩ => ⟨x, y.symm⟩
  have d0 : W4.cell? ⟨w.heap.size + 1, k0, none⟩ = some (.int .i64 (numT k0)) := num_cell hN k0 q0
  have d0' : ({ W4 with drawn := W4.drawn + 1 } : World).cell? ⟨w.heap.size + 1, k0, none⟩ = some (.int .i64 (numT k0)) := d0
  have r0 : (k0 : Int) < 8 := by omega
  obtain ⟨k1, e1⟩ : ∃ k : Nat, plc (atL l 1) 8 = (k : Int) := ⟨_, (Int.toNat_of_nonneg (plc_in _ _ (by omega)).1).symm⟩
  have q1 : k1 < 8 := by have := (plc_in (atL l 1) 8 (by omega)).2; omega
  have u1 : (plc (atL l 1) 8).toNat = k1 := by rw [e1]; rfl
  have c1 : Calls Try.prog 19 #[.slice A l.length cap, .int .i64 1, .int .i64 8] W4.drew fun e w' => e = .returned (.int .i64 (k1 : Int)) ∧ w' = W4.drew := by
    have h := from_any _ l 1 8 W4.drew hvD hl (by omega) (by omega) (by omega)
    rw [e1] at h
    exact h.mono fun _ _ ⟨x, y⟩ => ⟨x, y.symm⟩
  have d1 : W4.cell? ⟨w.heap.size + 1, k1, none⟩ = some (.int .i64 (numT k1)) := num_cell hN k1 q1
  have d1' : ({ W4 with drawn := W4.drawn + 1 } : World).cell? ⟨w.heap.size + 1, k1, none⟩ = some (.int .i64 (numT k1)) := d1
  have r1 : (k1 : Int) < 8 := by omega
  obtain ⟨k2, e2⟩ : ∃ k : Nat, plc (atL l 2) 8 = (k : Int) := ⟨_, (Int.toNat_of_nonneg (plc_in _ _ (by omega)).1).symm⟩
  have q2 : k2 < 8 := by have := (plc_in (atL l 2) 8 (by omega)).2; omega
  have u2 : (plc (atL l 2) 8).toNat = k2 := by rw [e2]; rfl
  have c2 : Calls Try.prog 19 #[.slice A l.length cap, .int .i64 2, .int .i64 8] W4.drew fun e w' => e = .returned (.int .i64 (k2 : Int)) ∧ w' = W4.drew := by
    have h := from_any _ l 2 8 W4.drew hvD hl (by omega) (by omega) (by omega)
    rw [e2] at h
    exact h.mono fun _ _ ⟨x, y⟩ => ⟨x, y.symm⟩
  have d2 : W4.cell? ⟨w.heap.size + 1, k2, none⟩ = some (.int .i64 (numT k2)) := num_cell hN k2 q2
  have d2' : ({ W4 with drawn := W4.drawn + 1 } : World).cell? ⟨w.heap.size + 1, k2, none⟩ = some (.int .i64 (numT k2)) := d2
  have r2 : (k2 : Int) < 8 := by omega
  obtain ⟨k3, e3⟩ : ∃ k : Nat, plc (atL l 3) 14 = (k : Int) := ⟨_, (Int.toNat_of_nonneg (plc_in _ _ (by omega)).1).symm⟩
  have q3 : k3 < 14 := by have := (plc_in (atL l 3) 14 (by omega)).2; omega
  have u3 : (plc (atL l 3) 14).toNat = k3 := by rw [e3]; rfl
  have c3 : Calls Try.prog 19 #[.slice A l.length cap, .int .i64 3, .int .i64 14] W4.drew fun e w' => e = .returned (.int .i64 (k3 : Int)) ∧ w' = W4.drew := by
    have h := from_any _ l 3 14 W4.drew hvD hl (by omega) (by omega) (by omega)
    rw [e3] at h
    exact h.mono fun _ _ ⟨x, y⟩ => ⟨x, y.symm⟩
  have d3 : W4.cell? ⟨w.heap.size + 1 + 1, k3, none⟩ = some (.string (mkS (preT14 k3))) := pre_cell hP k3 q3
  have d3' : ({ W4 with drawn := W4.drawn + 1 } : World).cell? ⟨w.heap.size + 1 + 1, k3, none⟩ = some (.string (mkS (preT14 k3))) := d3
  have r3 : (k3 : Int) < 14 := by omega
  obtain ⟨k4, e4⟩ : ∃ k : Nat, plc (atL l 4) 6 = (k : Int) := ⟨_, (Int.toNat_of_nonneg (plc_in _ _ (by omega)).1).symm⟩
  have q4 : k4 < 6 := by have := (plc_in (atL l 4) 6 (by omega)).2; omega
  have u4 : (plc (atL l 4) 6).toNat = k4 := by rw [e4]; rfl
  have c4 : Calls Try.prog 19 #[.slice A l.length cap, .int .i64 4, .int .i64 6] W4.drew fun e w' => e = .returned (.int .i64 (k4 : Int)) ∧ w' = W4.drew := by
    have h := from_any _ l 4 6 W4.drew hvD hl (by omega) (by omega) (by omega)
    rw [e4] at h
    exact h.mono fun _ _ ⟨x, y⟩ => ⟨x, y.symm⟩
  have d4 : W4.cell? ⟨w.heap.size + 1 + 1 + 1, k4, none⟩ = some (.string (mkS (bldT k4))) := bld_cell hQ k4 q4
  have d4' : ({ W4 with drawn := W4.drawn + 1 } : World).cell? ⟨w.heap.size + 1 + 1 + 1, k4, none⟩ = some (.string (mkS (bldT k4))) := d4
  have r4 : (k4 : Int) < 6 := by omega
  have HG : Hid (genV l 0 = ⟨numT k0, numT k1, numT k2, preT14 k3, bldT k4⟩) := by show _ = _; unfold genV; rw [u0, u1, u2, u3, u4]
  have HR := Lib.hid hR
  clear e0 e1 e2 e3 e4 u0 u1 u2 u3 u4 hR hN hP hQ hvW hvD hl
  go_still_tail 30, (by kernel_rfl)
  still_call c0
  repeat still_step
  still_call c1
  repeat still_step
  still_call c2
  repeat still_step
  still_call c3
  repeat still_step
  still_call c4
  repeat still_step
  refine wpStill_nil ?_
  change wpList _ _ _ _ _ W4.drew
  have BD : Below w.heap.size w W4.drew := B0.drew
  have HR2 : Hid (W4.drew.heap[w.heap.size]? = some (.cells #[.int .i64 0, .int .i64 0, .int .i64 0, .string ⟨#[]⟩, .string ⟨#[]⟩] 24)) := HR.out
  go_wp2_with (refine wpList_store_row rfl 24 _ _ rfl w.heap.size #[.int .i64 (numT k0), .int .i64 (numT k1), .int .i64 (numT k2), .string (mkS (preT14 k3)), .string (mkS (bldT k4))] rfl rfl _ _ HR2.out (by kernel_rfl) rfl (ver_one _ _ _ _ _) ?_)
  have hr := results_cell_row (P := Try.prog) (fn := Try.f5) Try.results5
  refine bodyPost_ret (v := .agg #[.int .i64 (numT k0), .int .i64 (numT k1), .int .i64 (numT k2), .string (mkS (preT14 k3)), .string (mkS (bldT k4))]) (hr _ _ w.heap.size _ _ _ _ rfl (setRow_heap _ _ _ _ _ _ HR2.out) Try.underlying24 rfl (by kernel_rfl)) rfl ⟨?_, below_setRow BD (Nat.le_refl _) _⟩
  rw [HG.out]; rfl
end Go.Proofs.Ytgeccfdofmnphaa
end

section
/-
  linchpinlaw0's Version at the place 5: the version that five numbers of the list name.
-/
namespace Go.Proofs.Ytgeccfdofmnphaa
open Go.RowKit

set_option maxHeartbeats 4000000 in
set_option maxRecDepth 100000 in
theorem gen_at5 (v : Value) (l : List Int) (w : World) (hv : ReadsI w w.heap.size v l) (hl : l.length ≤ 9223372036854775807) :
    Calls Try.prog 5 #[v, .int .i64 5] w (GEnd (genV l 5) w) := by
  have B0 : Below w.heap.size w ((((w.alloc (.cells #[.int .i64 0, .int .i64 0, .int .i64 0, .string ⟨#[]⟩, .string ⟨#[]⟩] 24)).alloc (.cells #[.int .i64 0, .int .i64 1, .int .i64 2, .int .i64 3, .int .i64 0, .int .i64 1, .int .i64 10, .int .i64 9999] 40)).alloc (.cells #[.string ⟨#[]⟩, .string ⟨#[]⟩, .string ⟨#[]⟩, .string ⟨#[]⟩, .string ⟨#[48]⟩, .string ⟨#[49]⟩, .string ⟨#[50]⟩, .string ⟨#[49, 49]⟩, .string ⟨#[97]⟩, .string ⟨#[97, 46, 49]⟩, .string ⟨#[97, 46, 98]⟩, .string ⟨#[98]⟩, .string ⟨#[48, 46, 48]⟩, .string ⟨#[114, 99, 46, 49]⟩] 41)).alloc (.cells #[.string ⟨#[]⟩, .string ⟨#[]⟩, .string ⟨#[]⟩, .string ⟨#[]⟩, .string ⟨#[48, 48, 55]⟩, .string ⟨#[120, 46, 49]⟩] 42)) :=
    ((((Below.refl _ _).alloc (Nat.le_refl _) _).alloc (by simp only [size_box]; omega) _).alloc (by simp only [size_box]; omega) _).alloc (by simp only [size_box]; omega) _
  have hR : ((((w.alloc (.cells #[.int .i64 0, .int .i64 0, .int .i64 0, .string ⟨#[]⟩, .string ⟨#[]⟩] 24)).alloc (.cells #[.int .i64 0, .int .i64 1, .int .i64 2, .int .i64 3, .int .i64 0, .int .i64 1, .int .i64 10, .int .i64 9999] 40)).alloc (.cells #[.string ⟨#[]⟩, .string ⟨#[]⟩, .string ⟨#[]⟩, .string ⟨#[]⟩, .string ⟨#[48]⟩, .string ⟨#[49]⟩, .string ⟨#[50]⟩, .string ⟨#[49, 49]⟩, .string ⟨#[97]⟩, .string ⟨#[97, 46, 49]⟩, .string ⟨#[97, 46, 98]⟩, .string ⟨#[98]⟩, .string ⟨#[48, 46, 48]⟩, .string ⟨#[114, 99, 46, 49]⟩] 41)).alloc (.cells #[.string ⟨#[]⟩, .string ⟨#[]⟩, .string ⟨#[]⟩, .string ⟨#[]⟩, .string ⟨#[48, 48, 55]⟩, .string ⟨#[120, 46, 49]⟩] 42)).heap[w.heap.size]? = some (.cells #[.int .i64 0, .int .i64 0, .int .i64 0, .string ⟨#[]⟩, .string ⟨#[]⟩] 24) := by
    rw [heap_old _ _ (by simp only [size_box]; omega), heap_old _ _ (by simp only [size_box]; omega), heap_old _ _ (by simp only [size_box]; omega)]; exact heap_new w _
  have hN : ((((w.alloc (.cells #[.int .i64 0, .int .i64 0, .int .i64 0, .string ⟨#[]⟩, .string ⟨#[]⟩] 24)).alloc (.cells #[.int .i64 0, .int .i64 1, .int .i64 2, .int .i64 3, .int .i64 0, .int .i64 1, .int .i64 10, .int .i64 9999] 40)).alloc (.cells #[.string ⟨#[]⟩, .string ⟨#[]⟩, .string ⟨#[]⟩, .string ⟨#[]⟩, .string ⟨#[48]⟩, .string ⟨#[49]⟩, .string ⟨#[50]⟩, .string ⟨#[49, 49]⟩, .string ⟨#[97]⟩, .string ⟨#[97, 46, 49]⟩, .string ⟨#[97, 46, 98]⟩, .string ⟨#[98]⟩, .string ⟨#[48, 46, 48]⟩, .string ⟨#[114, 99, 46, 49]⟩] 41)).alloc (.cells #[.string ⟨#[]⟩, .string ⟨#[]⟩, .string ⟨#[]⟩, .string ⟨#[]⟩, .string ⟨#[48, 48, 55]⟩, .string ⟨#[120, 46, 49]⟩] 42)).heap[w.heap.size + 1]? = some (.cells #[.int .i64 0, .int .i64 1, .int .i64 2, .int .i64 3, .int .i64 0, .int .i64 1, .int .i64 10, .int .i64 9999] 40) := by
    rw [heap_old _ _ (by simp only [size_box]; omega), heap_old _ _ (by simp only [size_box]; omega)]; exact heap_at _ _ _ (by simp only [size_box])
  have hP : ((((w.alloc (.cells #[.int .i64 0, .int .i64 0, .int .i64 0, .string ⟨#[]⟩, .string ⟨#[]⟩] 24)).alloc (.cells #[.int .i64 0, .int .i64 1, .int .i64 2, .int .i64 3, .int .i64 0, .int .i64 1, .int .i64 10, .int .i64 9999] 40)).alloc (.cells #[.string ⟨#[]⟩, .string ⟨#[]⟩, .string ⟨#[]⟩, .string ⟨#[]⟩, .string ⟨#[48]⟩, .string ⟨#[49]⟩, .string ⟨#[50]⟩, .string ⟨#[49, 49]⟩, .string ⟨#[97]⟩, .string ⟨#[97, 46, 49]⟩, .string ⟨#[97, 46, 98]⟩, .string ⟨#[98]⟩, .string ⟨#[48, 46, 48]⟩, .string ⟨#[114, 99, 46, 49]⟩] 41)).alloc (.cells #[.string ⟨#[]⟩, .string ⟨#[]⟩, .string ⟨#[]⟩, .string ⟨#[]⟩, .string ⟨#[48, 48, 55]⟩, .string ⟨#[120, 46, 49]⟩] 42)).heap[w.heap.size + 1 + 1]? = some (.cells #[.string ⟨#[]⟩, .string ⟨#[]⟩, .string ⟨#[]⟩, .string ⟨#[]⟩, .string ⟨#[48]⟩, .string ⟨#[49]⟩, .string ⟨#[50]⟩, .string ⟨#[49, 49]⟩, .string ⟨#[97]⟩, .string ⟨#[97, 46, 49]⟩, .string ⟨#[97, 46, 98]⟩, .string ⟨#[98]⟩, .string ⟨#[48, 46, 48]⟩, .string ⟨#[114, 99, 46, 49]⟩] 41) := by
    rw [heap_old _ _ (by simp only [size_box]; omega)]; exact heap_at _ _ _ (by simp only [size_box])
  have hQ : ((((w.alloc (.cells #[.int .i64 0, .int .i64 0, .int .i64 0, .string ⟨#[]⟩, .string ⟨#[]⟩] 24)).alloc (.cells #[.int .i64 0, .int .i64 1, .int .i64 2, .int .i64 3, .int .i64 0, .int .i64 1, .int .i64 10, .int .i64 9999] 40)).alloc (.cells #[.string ⟨#[]⟩, .string ⟨#[]⟩, .string ⟨#[]⟩, .string ⟨#[]⟩, .string ⟨#[48]⟩, .string ⟨#[49]⟩, .string ⟨#[50]⟩, .string ⟨#[49, 49]⟩, .string ⟨#[97]⟩, .string ⟨#[97, 46, 49]⟩, .string ⟨#[97, 46, 98]⟩, .string ⟨#[98]⟩, .string ⟨#[48, 46, 48]⟩, .string ⟨#[114, 99, 46, 49]⟩] 41)).alloc (.cells #[.string ⟨#[]⟩, .string ⟨#[]⟩, .string ⟨#[]⟩, .string ⟨#[]⟩, .string ⟨#[48, 48, 55]⟩, .string ⟨#[120, 46, 49]⟩] 42)).heap[w.heap.size + 1 + 1 + 1]? = some (.cells #[.string ⟨#[]⟩, .string ⟨#[]⟩, .string ⟨#[]⟩, .string ⟨#[]⟩, .string ⟨#[48, 48, 55]⟩, .string ⟨#[120, 46, 49]⟩] 42) := heap_at _ _ _ (by simp only [size_box])
  have hvW := (hv.below B0).more B0.size
  obtain ⟨A, cap, rfl, hc⟩ := hv
  clear hc
  go_enter Try.func5, Try.ntmps5
  go_wp2_with fail
  generalize ((((w.alloc (.cells #[.int .i64 0, .int .i64 0, .int .i64 0, .string ⟨#[]⟩, .string ⟨#[]⟩] 24)).alloc (.cells #[.int .i64 0, .int .i64 1, .int .i64 2, .int .i64 3, .int .i64 0, .int .i64 1, .int .i64 10, .int .i64 9999] 40)).alloc (.cells #[.string ⟨#[]⟩, .string ⟨#[]⟩, .string ⟨#[]⟩, .string ⟨#[]⟩, .string ⟨#[48]⟩, .string ⟨#[49]⟩, .string ⟨#[50]⟩, .string ⟨#[49, 49]⟩, .string ⟨#[97]⟩, .string ⟨#[97, 46, 49]⟩, .string ⟨#[97, 46, 98]⟩, .string ⟨#[98]⟩, .string ⟨#[48, 46, 48]⟩, .string ⟨#[114, 99, 46, 49]⟩] 41)).alloc (.cells #[.string ⟨#[]⟩, .string ⟨#[]⟩, .string ⟨#[]⟩, .string ⟨#[]⟩, .string ⟨#[48, 48, 55]⟩, .string ⟨#[120, 46, 49]⟩] 42)) = W4 at *
  have hvD : ReadsI W4.drew W4.drew.heap.size (.slice A l.length cap) l := hvW
  obtain ⟨k0, e0⟩ : ∃ k : Nat, plc (atL l 5) 8 = (k : Int) := ⟨_, (Int.toNat_of_nonneg (plc_in _ _ (by omega)).1).symm⟩
  have q0 : k0 < 8 := by have := (plc_in (atL l 5) 8 (by omega)).2; omega
  have u0 : (plc (atL l 5) 8).toNat = k0 := by rw [e0]; rfl
  have c0 : Calls Try.prog 19 #[.slice A l.length cap, .int .i64 5, .int .i64 8] W4.drew fun e w' => e = .returned (.int .i64 (k0 : Int)) ∧ w' = W4.drew := by
    have h := from_any _ l 5 8 W4.drew hvD hl (by omega) (by omega) (by omega)
    rw [e0] at h
    exact h.mono fun _ _ ⟨x, y⟩ => ⟨x, y.symm⟩
  have d0 : W4.cell? ⟨w.heap.size + 1, k0, none⟩ = some (.int .i64 (numT k0)) := num_cell hN k0 q0
  have d0' : ({ W4 with drawn := W4.drawn + 1 } : World).cell? ⟨w.heap.size + 1, k0, none⟩ = some (.int .i64 (numT k0)) := d0
  have r0 : (k0 : Int) < 8 := by omega
  obtain ⟨k1, e1⟩ : ∃ k : Nat, plc (atL l 6) 8 = (k : Int) := ⟨_, (Int.toNat_of_nonneg (plc_in _ _ (by omega)).1).symm⟩
  have q1 : k1 < 8 := by have := (plc_in (atL l 6) 8 (by omega)).2; omega
  have u1 : (plc (atL l 6) 8).toNat = k1 := by rw [e1]; rfl
  have c1 : Calls Try.prog 19 #[.slice A l.length cap, .int .i64 6, .int .i64 8] W4.drew fun e w' => e = .returned (.int .i64 (k1 : Int)) ∧ w' = W4.drew := by
    have h := from_any _ l 6 8 W4.drew hvD hl (by omega) (by omega) (by omega)
    rw [e1] at h
    exact h.mono fun _ _ ⟨x, y⟩ => ⟨x, y.symm⟩
  have d1 : W4.cell? ⟨w.heap.size + 1, k1, none⟩ = some (.int .i64 (numT k1)) := num_cell hN k1 q1
  have d1' : ({ W4 with drawn := W4.drawn + 1 } : World).cell? ⟨w.heap.size + 1, k1, none⟩ = some (.int .i64 (numT k1)) := d1
  have r1 : (k1 : Int) < 8 := by omega
  obtain ⟨k2, e2⟩ : ∃ k : Nat, plc (atL l 7) 8 = (k : Int) := ⟨_, (Int.toNat_of_nonneg (plc_in _ _ (by omega)).1).symm⟩
  have q2 : k2 < 8 := by have := (plc_in (atL l 7) 8 (by omega)).2; omega
  have u2 : (plc (atL l 7) 8).toNat = k2 := by rw [e2]; rfl
  have c2 : Calls Try.prog 19 #[.slice A l.length cap, .int .i64 7, .int .i64 8] W4.drew fun e w' => e = .returned (.int .i64 (k2 : Int)) ∧ w' = W4.drew := by
    have h := from_any _ l 7 8 W4.drew hvD hl (by omega) (by omega) (by omega)
    rw [e2] at h
    exact h.mono fun _ _ ⟨x, y⟩ => ⟨x, y.symm⟩
  have d2 : W4.cell? ⟨w.heap.size + 1, k2, none⟩ = some (.int .i64 (numT k2)) := num_cell hN k2 q2
  have d2' : ({ W4 with drawn := W4.drawn + 1 } : World).cell? ⟨w.heap.size + 1, k2, none⟩ = some (.int .i64 (numT k2)) := d2
  have r2 : (k2 : Int) < 8 := by omega
  obtain ⟨k3, e3⟩ : ∃ k : Nat, plc (atL l 8) 14 = (k : Int) := ⟨_, (Int.toNat_of_nonneg (plc_in _ _ (by omega)).1).symm⟩
  have q3 : k3 < 14 := by have := (plc_in (atL l 8) 14 (by omega)).2; omega
  have u3 : (plc (atL l 8) 14).toNat = k3 := by rw [e3]; rfl
  have c3 : Calls Try.prog 19 #[.slice A l.length cap, .int .i64 8, .int .i64 14] W4.drew fun e w' => e = .returned (.int .i64 (k3 : Int)) ∧ w' = W4.drew := by
    have h := from_any _ l 8 14 W4.drew hvD hl (by omega) (by omega) (by omega)
    rw [e3] at h
    exact h.mono fun _ _ ⟨x, y⟩ => ⟨x, y.symm⟩
  have d3 : W4.cell? ⟨w.heap.size + 1 + 1, k3, none⟩ = some (.string (mkS (preT14 k3))) := pre_cell hP k3 q3
  have d3' : ({ W4 with drawn := W4.drawn + 1 } : World).cell? ⟨w.heap.size + 1 + 1, k3, none⟩ = some (.string (mkS (preT14 k3))) := d3
  have r3 : (k3 : Int) < 14 := by omega
  obtain ⟨k4, e4⟩ : ∃ k : Nat, plc (atL l 9) 6 = (k : Int) := ⟨_, (Int.toNat_of_nonneg (plc_in _ _ (by omega)).1).symm⟩
  have q4 : k4 < 6 := by have := (plc_in (atL l 9) 6 (by omega)).2; omega
  have u4 : (plc (atL l 9) 6).toNat = k4 := by rw [e4]; rfl
  have c4 : Calls Try.prog 19 #[.slice A l.length cap, .int .i64 9, .int .i64 6] W4.drew fun e w' => e = .returned (.int .i64 (k4 : Int)) ∧ w' = W4.drew := by
    have h := from_any _ l 9 6 W4.drew hvD hl (by omega) (by omega) (by omega)
    rw [e4] at h
    exact h.mono fun _ _ ⟨x, y⟩ => ⟨x, y.symm⟩
  have d4 : W4.cell? ⟨w.heap.size + 1 + 1 + 1, k4, none⟩ = some (.string (mkS (bldT k4))) := bld_cell hQ k4 q4
  have d4' : ({ W4 with drawn := W4.drawn + 1 } : World).cell? ⟨w.heap.size + 1 + 1 + 1, k4, none⟩ = some (.string (mkS (bldT k4))) := d4
  have r4 : (k4 : Int) < 6 := by omega
  have HG : Hid (genV l 5 = ⟨numT k0, numT k1, numT k2, preT14 k3, bldT k4⟩) := by show _ = _; unfold genV; rw [u0, u1, u2, u3, u4]
  have HR := Lib.hid hR
  clear e0 e1 e2 e3 e4 u0 u1 u2 u3 u4 hR hN hP hQ hvW hvD hl
  go_still_tail 30, (by kernel_rfl)
  still_call c0
  repeat still_step
  still_call c1
  repeat still_step
  still_call c2
  repeat still_step
  still_call c3
  repeat still_step
  still_call c4
  repeat still_step
  refine wpStill_nil ?_
  change wpList _ _ _ _ _ W4.drew
  have BD : Below w.heap.size w W4.drew := B0.drew
  have HR2 : Hid (W4.drew.heap[w.heap.size]? = some (.cells #[.int .i64 0, .int .i64 0, .int .i64 0, .string ⟨#[]⟩, .string ⟨#[]⟩] 24)) := HR.out
  go_wp2_with (refine wpList_store_row rfl 24 _ _ rfl w.heap.size #[.int .i64 (numT k0), .int .i64 (numT k1), .int .i64 (numT k2), .string (mkS (preT14 k3)), .string (mkS (bldT k4))] rfl rfl _ _ HR2.out (by kernel_rfl) rfl (ver_one _ _ _ _ _) ?_)
  have hr := results_cell_row (P := Try.prog) (fn := Try.f5) Try.results5
  refine bodyPost_ret (v := .agg #[.int .i64 (numT k0), .int .i64 (numT k1), .int .i64 (numT k2), .string (mkS (preT14 k3)), .string (mkS (bldT k4))]) (hr _ _ w.heap.size _ _ _ _ rfl (setRow_heap _ _ _ _ _ _ HR2.out) Try.underlying24 rfl (by kernel_rfl)) rfl ⟨?_, below_setRow BD (Nat.le_refl _) _⟩
  rw [HG.out]; rfl
end Go.Proofs.Ytgeccfdofmnphaa
end

section
/-
  linchpinlaw0's Version at the place 10: the version that five numbers of the list name.
-/
namespace Go.Proofs.Ytgeccfdofmnphaa
open Go.RowKit

set_option maxHeartbeats 4000000 in
set_option maxRecDepth 100000 in
theorem gen_at10 (v : Value) (l : List Int) (w : World) (hv : ReadsI w w.heap.size v l) (hl : l.length ≤ 9223372036854775807) :
    Calls Try.prog 5 #[v, .int .i64 10] w (GEnd (genV l 10) w) := by
  have B0 : Below w.heap.size w ((((w.alloc (.cells #[.int .i64 0, .int .i64 0, .int .i64 0, .string ⟨#[]⟩, .string ⟨#[]⟩] 24)).alloc (.cells #[.int .i64 0, .int .i64 1, .int .i64 2, .int .i64 3, .int .i64 0, .int .i64 1, .int .i64 10, .int .i64 9999] 40)).alloc (.cells #[.string ⟨#[]⟩, .string ⟨#[]⟩, .string ⟨#[]⟩, .string ⟨#[]⟩, .string ⟨#[48]⟩, .string ⟨#[49]⟩, .string ⟨#[50]⟩, .string ⟨#[49, 49]⟩, .string ⟨#[97]⟩, .string ⟨#[97, 46, 49]⟩, .string ⟨#[97, 46, 98]⟩, .string ⟨#[98]⟩, .string ⟨#[48, 46, 48]⟩, .string ⟨#[114, 99, 46, 49]⟩] 41)).alloc (.cells #[.string ⟨#[]⟩, .string ⟨#[]⟩, .string ⟨#[]⟩, .string ⟨#[]⟩, .string ⟨#[48, 48, 55]⟩, .string ⟨#[120, 46, 49]⟩] 42)) :=
    ((((Below.refl _ _).alloc (Nat.le_refl _) _).alloc (by simp only [size_box]; omega) _).alloc (by simp only [size_box]; omega) _).alloc (by simp only [size_box]; omega) _
  have hR : ((((w.alloc (.cells #[.int .i64 0, .int .i64 0, .int .i64 0, .string ⟨#[]⟩, .string ⟨#[]⟩] 24)).alloc (.cells #[.int .i64 0, .int .i64 1, .int .i64 2, .int .i64 3, .int .i64 0, .int .i64 1, .int .i64 10, .int .i64 9999] 40)).alloc (.cells #[.string ⟨#[]⟩, .string ⟨#[]⟩, .string ⟨#[]⟩, .string ⟨#[]⟩, .string ⟨#[48]⟩, .string ⟨#[49]⟩, .string ⟨#[50]⟩, .string ⟨#[49, 49]⟩, .string ⟨#[97]⟩, .string ⟨#[97, 46, 49]⟩, .string ⟨#[97, 46, 98]⟩, .string ⟨#[98]⟩, .string ⟨#[48, 46, 48]⟩, .string ⟨#[114, 99, 46, 49]⟩] 41)).alloc (.cells #[.string ⟨#[]⟩, .string ⟨#[]⟩, .string ⟨#[]⟩, .string ⟨#[]⟩, .string ⟨#[48, 48, 55]⟩, .string ⟨#[120, 46, 49]⟩] 42)).heap[w.heap.size]? = some (.cells #[.int .i64 0, .int .i64 0, .int .i64 0, .string ⟨#[]⟩, .string ⟨#[]⟩] 24) := by
    rw [heap_old _ _ (by simp only [size_box]; omega), heap_old _ _ (by simp only [size_box]; omega), heap_old _ _ (by simp only [size_box]; omega)]; exact heap_new w _
  have hN : ((((w.alloc (.cells #[.int .i64 0, .int .i64 0, .int .i64 0, .string ⟨#[]⟩, .string ⟨#[]⟩] 24)).alloc (.cells #[.int .i64 0, .int .i64 1, .int .i64 2, .int .i64 3, .int .i64 0, .int .i64 1, .int .i64 10, .int .i64 9999] 40)).alloc (.cells #[.string ⟨#[]⟩, .string ⟨#[]⟩, .string ⟨#[]⟩, .string ⟨#[]⟩, .string ⟨#[48]⟩, .string ⟨#[49]⟩, .string ⟨#[50]⟩, .string ⟨#[49, 49]⟩, .string ⟨#[97]⟩, .string ⟨#[97, 46, 49]⟩, .string ⟨#[97, 46, 98]⟩, .string ⟨#[98]⟩, .string ⟨#[48, 46, 48]⟩, .string ⟨#[114, 99, 46, 49]⟩] 41)).alloc (.cells #[.string ⟨#[]⟩, .string ⟨#[]⟩, .string ⟨#[]⟩, .string ⟨#[]⟩, .string ⟨#[48, 48, 55]⟩, .string ⟨#[120, 46, 49]⟩] 42)).heap[w.heap.size + 1]? = some (.cells #[.int .i64 0, .int .i64 1, .int .i64 2, .int .i64 3, .int .i64 0, .int .i64 1, .int .i64 10, .int .i64 9999] 40) := by
    rw [heap_old _ _ (by simp only [size_box]; omega), heap_old _ _ (by simp only [size_box]; omega)]; exact heap_at _ _ _ (by simp only [size_box])
  have hP : ((((w.alloc (.cells #[.int .i64 0, .int .i64 0, .int .i64 0, .string ⟨#[]⟩, .string ⟨#[]⟩] 24)).alloc (.cells #[.int .i64 0, .int .i64 1, .int .i64 2, .int .i64 3, .int .i64 0, .int .i64 1, .int .i64 10, .int .i64 9999] 40)).alloc (.cells #[.string ⟨#[]⟩, .string ⟨#[]⟩, .string ⟨#[]⟩, .string ⟨#[]⟩, .string ⟨#[48]⟩, .string ⟨#[49]⟩, .string ⟨#[50]⟩, .string ⟨#[49, 49]⟩, .string ⟨#[97]⟩, .string ⟨#[97, 46, 49]⟩, .string ⟨#[97, 46, 98]⟩, .string ⟨#[98]⟩, .string ⟨#[48, 46, 48]⟩, .string ⟨#[114, 99, 46, 49]⟩] 41)).alloc (.cells #[.string ⟨#[]⟩, .string ⟨#[]⟩, .string ⟨#[]⟩, .string ⟨#[]⟩, .string ⟨#[48, 48, 55]⟩, .string ⟨#[120, 46, 49]⟩] 42)).heap[w.heap.size + 1 + 1]? = some (.cells #[.string ⟨#[]⟩, .string ⟨#[]⟩, .string ⟨#[]⟩, .string ⟨#[]⟩, .string ⟨#[48]⟩, .string ⟨#[49]⟩, .string ⟨#[50]⟩, .string ⟨#[49, 49]⟩, .string ⟨#[97]⟩, .string ⟨#[97, 46, 49]⟩, .string ⟨#[97, 46, 98]⟩, .string ⟨#[98]⟩, .string ⟨#[48, 46, 48]⟩, .string ⟨#[114, 99, 46, 49]⟩] 41) := by
    rw [heap_old _ _ (by simp only [size_box]; omega)]; exact heap_at _ _ _ (by simp only [size_box])
  have hQ : ((((w.alloc (.cells #[.int .i64 0, .int .i64 0, .int .i64 0, .string ⟨#[]⟩, .string ⟨#[]⟩] 24)).alloc (.cells #[.int .i64 0, .int .i64 1, .int .i64 2, .int .i64 3, .int .i64 0, .int .i64 1, .int .i64 10, .int .i64 9999] 40)).alloc (.cells #[.string ⟨#[]⟩, .string ⟨#[]⟩, .string ⟨#[]⟩, .string ⟨#[]⟩, .string ⟨#[48]⟩, .string ⟨#[49]⟩, .string ⟨#[50]⟩, .string ⟨#[49, 49]⟩, .string ⟨#[97]⟩, .string ⟨#[97, 46, 49]⟩, .string ⟨#[97, 46, 98]⟩, .string ⟨#[98]⟩, .string ⟨#[48, 46, 48]⟩, .string ⟨#[114, 99, 46, 49]⟩] 41)).alloc (.cells #[.string ⟨#[]⟩, .string ⟨#[]⟩, .string ⟨#[]⟩, .string ⟨#[]⟩, .string ⟨#[48, 48, 55]⟩, .string ⟨#[120, 46, 49]⟩] 42)).heap[w.heap.size + 1 + 1 + 1]? = some (.cells #[.string ⟨#[]⟩, .string ⟨#[]⟩, .string ⟨#[]⟩, .string ⟨#[]⟩, .string ⟨#[48, 48, 55]⟩, .string ⟨#[120, 46, 49]⟩] 42) := heap_at _ _ _ (by simp only [size_box])
  have hvW := (hv.below B0).more B0.size
  obtain ⟨A, cap, rfl, hc⟩ := hv
  clear hc
  go_enter Try.func5, Try.ntmps5
  go_wp2_with fail
  generalize ((((w.alloc (.cells #[.int .i64 0, .int .i64 0, .int .i64 0, .string ⟨#[]⟩, .string ⟨#[]⟩] 24)).alloc (.cells #[.int .i64 0, .int .i64 1, .int .i64 2, .int .i64 3, .int .i64 0, .int .i64 1, .int .i64 10, .int .i64 9999] 40)).alloc (.cells #[.string ⟨#[]⟩, .string ⟨#[]⟩, .string ⟨#[]⟩, .string ⟨#[]⟩, .string ⟨#[48]⟩, .string ⟨#[49]⟩, .string ⟨#[50]⟩, .string ⟨#[49, 49]⟩, .string ⟨#[97]⟩, .string ⟨#[97, 46, 49]⟩, .string ⟨#[97, 46, 98]⟩, .string ⟨#[98]⟩, .string ⟨#[48, 46, 48]⟩, .string ⟨#[114, 99, 46, 49]⟩] 41)).alloc (.cells #[.string ⟨#[]⟩, .string ⟨#[]⟩, .string ⟨#[]⟩, .string ⟨#[]⟩, .string ⟨#[48, 48, 55]⟩, .string ⟨#[120, 46, 49]⟩] 42)) = W4 at *
  have hvD : ReadsI W4.drew W4.drew.heap.size (.slice A l.length cap) l := hvW
  obtain ⟨k0, e0⟩ : ∃ k : Nat, plc (atL l 10) 8 = (k : Int) := ⟨_, (Int.toNat_of_nonneg (plc_in _ _ (by omega)).1).symm⟩
  have q0 : k0 < 8 := by have := (plc_in (atL l 10) 8 (by omega)).2; omega
  have u0 : (plc (atL l 10) 8).toNat = k0 := by rw [e0]; rfl
  have c0 : Calls Try.prog 19 #[.slice A l.length cap, .int .i64 10, .int .i64 8] W4.drew fun e w' => e = .returned (.int .i64 (k0 : Int)) ∧ w' = W4.drew := by
    have h := from_any _ l 10 8 W4.drew hvD hl (by omega) (by omega) (by omega)
    rw [e0] at h
    exact h.mono fun _ _ ⟨x, y⟩ => ⟨x, y.symm⟩
  have d0 : W4.cell? ⟨w.heap.size + 1, k0, none⟩ = some (.int .i64 (numT k0)) := num_cell hN k0 q0
  have d0' : ({ W4 with drawn := W4.drawn + 1 } : World).cell? ⟨w.heap.size + 1, k0, none⟩ = some (.int .i64 (numT k0)) := d0
  have r0 : (k0 : Int) < 8 := by omega
  obtain ⟨k1, e1⟩ : ∃ k : Nat, plc (atL l 11) 8 = (k : Int) := ⟨_, (Int.toNat_of_nonneg (plc_in _ _ (by omega)).1).symm⟩
  have q1 : k1 < 8 := by have := (plc_in (atL l 11) 8 (by omega)).2; omega
  have u1 : (plc (atL l 11) 8).toNat = k1 := by rw [e1]; rfl
  have c1 : Calls Try.prog 19 #[.slice A l.length cap, .int .i64 11, .int .i64 8] W4.drew fun e w' => e = .returned (.int .i64 (k1 : Int)) ∧ w' = W4.drew := by
    have h := from_any _ l 11 8 W4.drew hvD hl (by omega) (by omega) (by omega)
    rw [e1] at h
    exact h.mono fun _ _ ⟨x, y⟩ => ⟨x, y.symm⟩
  have d1 : W4.cell? ⟨w.heap.size + 1, k1, none⟩ = some (.int .i64 (numT k1)) := num_cell hN k1 q1
  have d1' : ({ W4 with drawn := W4.drawn + 1 } : World).cell? ⟨w.heap.size + 1, k1, none⟩ = some (.int .i64 (numT k1)) := d1
  have r1 : (k1 : Int) < 8 := by omega
  obtain ⟨k2, e2⟩ : ∃ k : Nat, plc (atL l 12) 8 = (k : Int) := ⟨_, (Int.toNat_of_nonneg (plc_in _ _ (by omega)).1).symm⟩
  have q2 : k2 < 8 := by have := (plc_in (atL l 12) 8 (by omega)).2; omega
  have u2 : (plc (atL l 12) 8).toNat = k2 := by rw [e2]; rfl
  have c2 : Calls Try.prog 19 #[.slice A l.length cap, .int .i64 12, .int .i64 8] W4.drew fun e w' => e = .returned (.int .i64 (k2 : Int)) ∧ w' = W4.drew := by
    have h := from_any _ l 12 8 W4.drew hvD hl (by omega) (by omega) (by omega)
    rw [e2] at h
    exact h.mono fun _ _ ⟨x, y⟩ => ⟨x, y.symm⟩
  have d2 : W4.cell? ⟨w.heap.size + 1, k2, none⟩ = some (.int .i64 (numT k2)) := num_cell hN k2 q2
  have d2' : ({ W4 with drawn := W4.drawn + 1 } : World).cell? ⟨w.heap.size + 1, k2, none⟩ = some (.int .i64 (numT k2)) := d2
  have r2 : (k2 : Int) < 8 := by omega
  obtain ⟨k3, e3⟩ : ∃ k : Nat, plc (atL l 13) 14 = (k : Int) := ⟨_, (Int.toNat_of_nonneg (plc_in _ _ (by omega)).1).symm⟩
  have q3 : k3 < 14 := by have := (plc_in (atL l 13) 14 (by omega)).2; omega
  have u3 : (plc (atL l 13) 14).toNat = k3 := by rw [e3]; rfl
  have c3 : Calls Try.prog 19 #[.slice A l.length cap, .int .i64 13, .int .i64 14] W4.drew fun e w' => e = .returned (.int .i64 (k3 : Int)) ∧ w' = W4.drew := by
    have h := from_any _ l 13 14 W4.drew hvD hl (by omega) (by omega) (by omega)
    rw [e3] at h
    exact h.mono fun _ _ ⟨x, y⟩ => ⟨x, y.symm⟩
  have d3 : W4.cell? ⟨w.heap.size + 1 + 1, k3, none⟩ = some (.string (mkS (preT14 k3))) := pre_cell hP k3 q3
  have d3' : ({ W4 with drawn := W4.drawn + 1 } : World).cell? ⟨w.heap.size + 1 + 1, k3, none⟩ = some (.string (mkS (preT14 k3))) := d3
  have r3 : (k3 : Int) < 14 := by omega
  obtain ⟨k4, e4⟩ : ∃ k : Nat, plc (atL l 14) 6 = (k : Int) := ⟨_, (Int.toNat_of_nonneg (plc_in _ _ (by omega)).1).symm⟩
  have q4 : k4 < 6 := by have := (plc_in (atL l 14) 6 (by omega)).2; omega
  have u4 : (plc (atL l 14) 6).toNat = k4 := by rw [e4]; rfl
  have c4 : Calls Try.prog 19 #[.slice A l.length cap, .int .i64 14, .int .i64 6] W4.drew fun e w' => e = .returned (.int .i64 (k4 : Int)) ∧ w' = W4.drew := by
    have h := from_any _ l 14 6 W4.drew hvD hl (by omega) (by omega) (by omega)
    rw [e4] at h
    exact h.mono fun _ _ ⟨x, y⟩ => ⟨x, y.symm⟩
  have d4 : W4.cell? ⟨w.heap.size + 1 + 1 + 1, k4, none⟩ = some (.string (mkS (bldT k4))) := bld_cell hQ k4 q4
  have d4' : ({ W4 with drawn := W4.drawn + 1 } : World).cell? ⟨w.heap.size + 1 + 1 + 1, k4, none⟩ = some (.string (mkS (bldT k4))) := d4
  have r4 : (k4 : Int) < 6 := by omega
  have HG : Hid (genV l 10 = ⟨numT k0, numT k1, numT k2, preT14 k3, bldT k4⟩) := by show _ = _; unfold genV; rw [u0, u1, u2, u3, u4]
  have HR := Lib.hid hR
  clear e0 e1 e2 e3 e4 u0 u1 u2 u3 u4 hR hN hP hQ hvW hvD hl
  go_still_tail 30, (by kernel_rfl)
  still_call c0
  repeat still_step
  still_call c1
  repeat still_step
  still_call c2
  repeat still_step
  still_call c3
  repeat still_step
  still_call c4
  repeat still_step
  refine wpStill_nil ?_
  change wpList _ _ _ _ _ W4.drew
  have BD : Below w.heap.size w W4.drew := B0.drew
  have HR2 : Hid (W4.drew.heap[w.heap.size]? = some (.cells #[.int .i64 0, .int .i64 0, .int .i64 0, .string ⟨#[]⟩, .string ⟨#[]⟩] 24)) := HR.out
  go_wp2_with (refine wpList_store_row rfl 24 _ _ rfl w.heap.size #[.int .i64 (numT k0), .int .i64 (numT k1), .int .i64 (numT k2), .string (mkS (preT14 k3)), .string (mkS (bldT k4))] rfl rfl _ _ HR2.out (by kernel_rfl) rfl (ver_one _ _ _ _ _) ?_)
  have hr := results_cell_row (P := Try.prog) (fn := Try.f5) Try.results5
  refine bodyPost_ret (v := .agg #[.int .i64 (numT k0), .int .i64 (numT k1), .int .i64 (numT k2), .string (mkS (preT14 k3)), .string (mkS (bldT k4))]) (hr _ _ w.heap.size _ _ _ _ rfl (setRow_heap _ _ _ _ _ _ HR2.out) Try.underlying24 rfl (by kernel_rfl)) rfl ⟨?_, below_setRow BD (Nat.le_refl _) _⟩
  rw [HG.out]; rfl
end Go.Proofs.Ytgeccfdofmnphaa
end

section
/-
  What linchpinlaw0's Version makes is valid and short.
-/
namespace Go.Proofs.Ytgeccfdofmnphaa
open Go.RowKit

theorem numT_ok : ∀ k, k < 8 → numOkI (numT k) = true := by decide +kernel
theorem preT_ok : ∀ k, k < 14 → preOk (preT14 k) = true ∧ (preT14 k).length ≤ 300 := by decide +kernel
theorem bldT_ok : ∀ k, k < 6 → listOk (bldT k) = true ∧ (bldT k).length ≤ 300 := by decide +kernel
theorem plc_nat (v n : Int) (m : Nat) (hn : 0 < n) (hm : n = m) : (plc v n).toNat < m := by
  obtain ⟨h1, h2⟩ := plc_in v n hn; omega
theorem gen_may (l : List Int) (i : Nat) : (genV l i).may = true := by
  unfold genV Ver.may
  dsimp only
  rw [numT_ok _ (plc_nat _ 8 8 (by omega) rfl), numT_ok _ (plc_nat _ 8 8 (by omega) rfl), numT_ok _ (plc_nat _ 8 8 (by omega) rfl), (preT_ok _ (plc_nat _ 14 14 (by omega) rfl)).1, (bldT_ok _ (plc_nat _ 6 6 (by omega) rfl)).1]
  rfl
theorem gen_pre (l : List Int) (i : Nat) : (genV l i).pre.length ≤ 300 := (preT_ok _ (plc_nat _ 14 14 (by omega) rfl)).2
theorem gen_bld (l : List Int) (i : Nat) : (genV l i).build.length ≤ 300 := (bldT_ok _ (plc_nat _ 6 6 (by omega) rfl)).2
theorem text_long {v : Ver} (h : v.may = true) : 4 < v.print.length ∧ v.print.length ≤ 100000000 ∨ 100000000 < v.print.length := by
  rw [print_eq h]
  have p : ∀ n : Nat, 1 ≤ (Lib.decDigits n).length := fun n => by rw [Lib.decDigits_length]; exact Lib.nDigits_pos n
  have q : ∀ n : Int, 1 ≤ (Lib.itoa n).length := by
    intro n
    unfold Lib.itoa
    split
    · rw [List.length_cons]; omega
    · exact p _
  have h1 := q v.maj
  have h2 := q v.min
  have h3 := q v.pat
  have : 4 < v.text.length := by
    unfold Ver.text numsL; simp only [List.length_append, List.length_cons]; omega
  omega
end Go.Proofs.Ytgeccfdofmnphaa
end

section
/-
  Plain mathematics for chapter 3: cuts, their order, what stands ahead of a version, spans; and the cuts that numbers name.
-/
namespace Go.Proofs.Ytgeccfdofmnphaa
open Go.RowKit
set_option linter.unusedVariables false
set_option linter.unusedSimpArgs false

structure Cu where
  e : Int
  v : Ver
  aft : Bool
deriving DecidableEq

def Cu.may (c : Cu) : Bool := if c.e = 0 then c.v.may && c.v.build.isEmpty else decide (c.e = -1 ∨ c.e = 1) && decide (c.v = Ver.zero) && !c.aft
def b01 (b : Bool) : Int := if b then 1 else 0
def lex (x y : Int) : Int := if x = 0 then y else x
def cmpC (a b : Cu) : Int := if a.may && b.may then lex (Lib.compareInt a.e b.e) (lex (cmpR a.v b.v) (Lib.compareInt (b01 a.aft) (b01 b.aft))) else 0
theorem zero_may : Ver.zero.may = true := by decide
theorem may_v {c : Cu} (h : c.may = true) : c.v.may = true := by
  unfold Cu.may at h
  split at h
  · rw [Bool.and_eq_true] at h; exact h.1
  · simp only [Bool.and_eq_true, decide_eq_true_eq] at h; rw [h.1.2]; exact zero_may
theorem may_e {c : Cu} (h : c.may = true) : (c.e = 0 ∧ c.v.build = []) ∨ ((c.e = -1 ∨ c.e = 1) ∧ c.v = Ver.zero ∧ c.aft = false) := by
  unfold Cu.may at h
  split at h
  · rename_i h0; rw [Bool.and_eq_true] at h; exact .inl ⟨h0, List.isEmpty_iff.1 h.2⟩
  · simp only [Bool.and_eq_true, decide_eq_true_eq, Bool.not_eq_true'] at h; exact .inr ⟨h.1.1, h.1.2, h.2⟩
theorem may_build {c : Cu} (h : c.may = true) : c.v.build = [] := by
  rcases may_e h with h | h
  · exact h.2
  · rw [h.2.1]; rfl
theorem cmpR_range {v w : Ver} : cmpR v w = -1 ∨ cmpR v w = 0 ∨ cmpR v w = 1 := by
  by_cases hv : v.may = true
  · by_cases hw : w.may = true
    · rw [cmpR_key hv hw]; exact cmpL_range _ _
    · exact .inr (.inl (cmpR_bad (.inr (by simpa using hw))))
  · exact .inr (.inl (cmpR_bad (.inl (by simpa using hv))))
theorem ci_range (x y : Int) : Lib.compareInt x y = -1 ∨ Lib.compareInt x y = 0 ∨ Lib.compareInt x y = 1 := by
  unfold Lib.compareInt
  by_cases h : x < y
  · rw [if_pos h]; simp
  · rw [if_neg h]
    by_cases h2 : y < x
    · rw [if_pos h2]; simp
    · rw [if_neg h2]; simp
theorem cmpC_good {a b : Cu} (ha : a.may = true) (hb : b.may = true) : cmpC a b = lex (Lib.compareInt a.e b.e) (lex (cmpR a.v b.v) (Lib.compareInt (b01 a.aft) (b01 b.aft))) := by
  unfold cmpC; rw [ha, hb]; rfl
theorem cmpC_range (a b : Cu) : cmpC a b = -1 ∨ cmpC a b = 0 ∨ cmpC a b = 1 := by
  unfold cmpC lex
  have h1 := ci_range a.e b.e
  have h2 := cmpR_range (v := a.v) (w := b.v)
  have h3 := ci_range (b01 a.aft) (b01 b.aft)
  split
  · split
    · split
      · exact h3
      · exact h2
    · exact h1
  · simp

/-! ### Orders put one behind the other -/
structure Ord3 {α : Type} (c : α → α → Int) : Prop where
  anti : ∀ x y, c y x = - c x y
  on : ∀ x y z, c x y ≤ 0 → c y z ≤ 0 → c x z ≤ 0 ∧ (c x z = 0 → c x y = 0 ∧ c y z = 0)
  same : ∀ x y z, c x y = 0 → c y z = 0 → c x z = 0
theorem lex_ord {α : Type} {c d : α → α → Int} (hc : Ord3 c) (hd : Ord3 d) : Ord3 (fun x y => lex (c x y) (d x y)) := by
  refine ⟨fun x y => ?_, fun x y z h1 h2 => ?_, fun x y z h1 h2 => ?_⟩
  · have a := hc.anti x y; have b := hd.anti x y
    show lex (c y x) (d y x) = - lex (c x y) (d x y)
    unfold lex
    by_cases h : c x y = 0
    · rw [if_pos h, if_pos (by omega)]; exact b
    · rw [if_neg h, if_neg (by omega)]; exact a
  · have a := hc.on x y z; have b := hd.on x y z; have s := hc.same x y z
    show lex _ _ ≤ 0 ∧ (lex _ _ = 0 → lex _ _ = 0 ∧ lex _ _ = 0)
    replace h1 : lex (c x y) (d x y) ≤ 0 := h1
    replace h2 : lex (c y z) (d y z) ≤ 0 := h2
    unfold lex at h1 h2 ⊢
    by_cases p : c x y = 0
    · by_cases q : c y z = 0
      · rw [if_pos p] at h1 ⊢; rw [if_pos q] at h2 ⊢; rw [if_pos (s p q)]; exact b h1 h2
      · rw [if_pos p] at h1 ⊢; rw [if_neg q] at h2 ⊢
        obtain ⟨a1, a2⟩ := a (by omega) h2
        have : c x z ≠ 0 := fun e => q (a2 e).2
        rw [if_neg this]; exact ⟨a1, fun e => absurd e this⟩
    · rw [if_neg p] at h1 ⊢
      have h2' : c y z ≤ 0 := by
        by_cases q : c y z = 0
        · omega
        · rw [if_neg q] at h2; exact h2
      obtain ⟨a1, a2⟩ := a h1 h2'
      have : c x z ≠ 0 := fun e => p (a2 e).1
      rw [if_neg this]; exact ⟨a1, fun e => absurd e this⟩
  · have s := hc.same x y z; have t := hd.same x y z
    show lex _ _ = 0
    replace h1 : lex (c x y) (d x y) = 0 := h1
    replace h2 : lex (c y z) (d y z) = 0 := h2
    unfold lex at h1 h2 ⊢
    by_cases p : c x y = 0
    · by_cases q : c y z = 0
      · rw [if_pos p] at h1; rw [if_pos q] at h2; rw [if_pos (s p q)]; exact t h1 h2
      · rw [if_neg q] at h2; exact absurd h2 q
    · rw [if_neg p] at h1; exact absurd h1 p
theorem ci_ord {α : Type} (f : α → Int) : Ord3 (fun x y => Lib.compareInt (f x) (f y)) := by
  refine ⟨fun x y => ?_, fun x y z => ?_, fun x y z => ?_⟩ <;> unfold Lib.compareInt <;> (repeat' split) <;> omega
theorem cmpL_ord {α : Type} (f : α → List Nat) : Ord3 (fun x y => cmpL (f x) (f y)) := by
  refine ⟨fun x y => cmpL_anti _ _, fun x y z => cmpL_trans _ _ _, fun x y z h1 h2 => ?_⟩
  show cmpL (f x) (f z) = 0
  rw [cmpL_zero _ _ h1, cmpL_zero _ _ h2]; exact cmpL_self _
def cmpK (a b : Cu) : Int := lex (Lib.compareInt a.e b.e) (lex (cmpL a.v.key b.v.key) (Lib.compareInt (b01 a.aft) (b01 b.aft)))
theorem cmpK_ord : Ord3 cmpK := lex_ord (ci_ord (fun c : Cu => c.e)) (lex_ord (cmpL_ord (fun c : Cu => c.v.key)) (ci_ord (fun c : Cu => b01 c.aft)))
theorem cmpC_K {a b : Cu} (ha : a.may = true) (hb : b.may = true) : cmpC a b = cmpK a b := by
  rw [cmpC_good ha hb, cmpR_key (may_v ha) (may_v hb)]; rfl
theorem cmpC_bad {a b : Cu} (h : a.may = false ∨ b.may = false) : cmpC a b = 0 := by
  unfold cmpC
  rcases h with h | h <;> rw [h] <;> simp
theorem cut_anti {a b : Cu} : cmpC b a = - cmpC a b := by
  cases ha : a.may with
  | true =>
    cases hb : b.may with
    | true => rw [cmpC_K ha hb, cmpC_K hb ha]; exact cmpK_ord.anti _ _
    | false => rw [cmpC_bad (.inl hb), cmpC_bad (.inr hb)]; rfl
  | false => rw [cmpC_bad (a := a) (.inl ha), cmpC_bad (b := a) (.inr ha)]; rfl
theorem cut_on {a b c : Cu} (ha : a.may = true) (hb : b.may = true) (hc : c.may = true) (h1 : cmpC a b ≤ 0) (h2 : cmpC b c ≤ 0) : cmpC a c ≤ 0 ∧ (cmpC a c = 0 → cmpC a b = 0 ∧ cmpC b c = 0) := by
  rw [cmpC_K ha hb] at h1 ⊢; rw [cmpC_K hb hc] at h2 ⊢; rw [cmpC_K ha hc]; exact cmpK_ord.on _ _ _ h1 h2
theorem cut_same {a b c : Cu} (ha : a.may = true) (hb : b.may = true) (hc : c.may = true) (h1 : cmpC a b = 0) (h2 : cmpC b c = 0) : cmpC a c = 0 := by
  rw [cmpC_K ha hb] at h1; rw [cmpC_K hb hc] at h2; rw [cmpC_K ha hc]; exact cmpK_ord.same _ _ _ h1 h2
theorem lex_neg (x : Int) : lex (-1) x = -1 := rfl
theorem lex_pos (x : Int) : lex 1 x = 1 := rfl
theorem lex_0 (x : Int) : lex 0 x = x := rfl
theorem lex_zero {x y : Int} : lex x y = 0 ↔ x = 0 ∧ y = 0 := by
  unfold lex
  split
  · rename_i h; exact ⟨fun e => ⟨h, e⟩, fun e => e.2⟩
  · rename_i h; exact ⟨fun e => absurd e h, fun e => absurd e.1 h⟩
theorem b01_eq {a b : Bool} (h : b01 a = b01 b) : a = b := by cases a <;> cases b <;> simp [b01] at h ⊢
theorem cut_eq {a b : Cu} (ha : a.may = true) (hb : b.may = true) : cmpC a b = 0 ↔ a = b := by
  constructor
  · intro h
    rw [cmpC_good ha hb, lex_zero, lex_zero] at h
    obtain ⟨h1, h2, h3⟩ := h
    have e2 := cmpR_zero (may_v ha) (may_v hb) h2
    have e1 := compareInt_zero h1
    have e3 := b01_eq (compareInt_zero h3)
    have ba := may_build ha
    have bb := may_build hb
    obtain ⟨ae, ⟨a1, a2, a3, a4, a5⟩, aa⟩ := a
    obtain ⟨be, ⟨b1, b2, b3, b4, b5⟩, ba'⟩ := b
    unfold coreV at e2
    dsimp only at *
    simp only [Ver.mk.injEq] at e2
    obtain ⟨rfl, rfl, rfl, rfl, _⟩ := e2
    subst ba bb e1 e3
    rfl
  · rintro rfl
    have := cut_anti (a := a) (b := a)
    omega

/-! ### Ahead of a version -/
def endC (e : Int) : Cu := ⟨e, Ver.zero, false⟩
def posC (v : Ver) : Cu := ⟨0, coreV v, false⟩
theorem first_may : (endC (-1)).may = true := by decide
theorem last_may : (endC 1).may = true := by decide
theorem posC_may {v : Ver} (h : v.may = true) : (posC v).may = true := by
  unfold posC Cu.may
  rw [if_pos rfl, core_may h]; rfl
theorem first_le {a : Cu} (ha : a.may = true) : cmpC (endC (-1)) a ≤ 0 := by
  rw [cmpC_good first_may ha]
  rcases may_e ha with ⟨h, _⟩ | ⟨h | h, h2, h3⟩
  · have : Lib.compareInt (endC (-1)).e a.e = -1 := ci_lt (by show (-1 : Int) < a.e; omega)
    rw [this, lex_neg]; decide
  · rw [show (endC (-1)).e = a.e from h.symm, compareInt_self, h2, h3]; decide
  · have : Lib.compareInt (endC (-1)).e a.e = -1 := ci_lt (by show (-1 : Int) < a.e; omega)
    rw [this, lex_neg]; decide
theorem le_last {a : Cu} (ha : a.may = true) : cmpC a (endC 1) ≤ 0 := by
  rw [cmpC_good ha last_may]
  rcases may_e ha with ⟨h, _⟩ | ⟨h | h, h2, h3⟩
  · have : Lib.compareInt a.e (endC 1).e = -1 := ci_lt (by show a.e < (1 : Int); omega)
    rw [this, lex_neg]; decide
  · have : Lib.compareInt a.e (endC 1).e = -1 := ci_lt (by show a.e < (1 : Int); omega)
    rw [this, lex_neg]; decide
  · rw [show (endC 1).e = a.e from h.symm, compareInt_self, h2, h3]; decide
def aheadC (c : Cu) (v : Ver) : Bool := c.may && v.may && (if c.e = 0 then decide (cmpR c.v v < 0 ∨ (cmpR c.v v = 0 ∧ c.aft = false)) else decide (c.e < 0))
theorem cmpR_coreR {a v : Ver} (ha : a.may = true) (hv : v.may = true) : cmpR a (coreV v) = cmpR a v := by
  rw [cmpR_key ha (core_may hv), cmpR_key ha hv]; rfl
theorem ahead_pos {c : Cu} {v : Ver} (hc : c.may = true) (hv : v.may = true) : aheadC c v = decide (cmpC c (posC v) ≤ 0) := by
  rw [cmpC_good hc (posC_may hv)]
  unfold aheadC
  rw [hc, hv]
  show (true && true && _) = decide (lex (Lib.compareInt c.e 0) (lex (cmpR c.v (coreV v)) (Lib.compareInt (b01 c.aft) (b01 false))) ≤ 0)
  rw [cmpR_coreR (may_v hc) hv]
  rcases may_e hc with ⟨h, _⟩ | ⟨h, h2, h3⟩
  · rw [if_pos h, h, compareInt_self]
    unfold lex
    rw [if_pos rfl]
    rcases cmpR_range (v := c.v) (w := v) with e | e | e <;> rw [e] <;> cases c.aft <;> decide
  · rw [if_neg (by omega)]
    rcases h with h | h <;> rw [h]
    · rw [show Lib.compareInt (-1) 0 = -1 from by decide]; unfold lex; simp
    · rw [show Lib.compareInt 1 0 = 1 from by decide]; unfold lex; simp
/-- Who stands ahead of a cut that is ahead of a version is ahead of it. -/
theorem ahead_on {a b : Cu} {v : Ver} (ha : a.may = true) (hb : b.may = true) (hv : v.may = true) (h : cmpC a b ≤ 0) (h2 : aheadC b v = true) : aheadC a v = true := by
  rw [ahead_pos hb hv, decide_eq_true_eq] at h2
  rw [ahead_pos ha hv, decide_eq_true_eq]
  exact (cut_on ha hb (posC_may hv) h h2).1
theorem ahead_first {v : Ver} (hv : v.may = true) : aheadC (endC (-1)) v = true := by
  unfold aheadC; rw [first_may, hv]; rfl
theorem ahead_last {v : Ver} (_hv : v.may = true) : aheadC (endC 1) v = false := by
  unfold aheadC; rw [if_neg (by decide), show decide ((endC 1).e < 0) = false from by decide, Bool.and_false]

/-! ### The order as the code finds it -/
def lessC (a b : Cu) : Bool := if a.e = b.e then (if cmpR a.v b.v = -1 then true else if cmpR a.v b.v = 1 then false else !a.aft && b.aft) else decide (a.e < b.e)
theorem less_cmpC {a b : Cu} (ha : a.may = true) (hb : b.may = true) : cmpC a b = if lessC a b then -1 else if lessC b a then 1 else 0 := by
  rw [cmpC_good ha hb]
  have hanti := order_anti (may_v ha) (may_v hb)
  by_cases he : a.e = b.e
  · unfold lessC
    rw [if_pos he, if_pos he.symm, he, compareInt_self, hanti, lex_0]
    rcases cmpR_range (v := a.v) (w := b.v) with e | e | e <;> rw [e] <;> cases a.aft <;> cases b.aft <;> rfl
  · have l1 : lessC a b = decide (a.e < b.e) := by unfold lessC; rw [if_neg he]
    have l2 : lessC b a = decide (b.e < a.e) := by unfold lessC; rw [if_neg (fun h => he h.symm)]
    rw [l1, l2]
    rcases Int.lt_or_gt_of_ne he with h | h
    · rw [ci_lt h, lex_neg, decide_eq_true h]; rfl
    · rw [ci_gt h, lex_pos, decide_eq_true h, decide_eq_false (by omega)]; rfl
theorem ahead_less {c : Cu} {v : Ver} : aheadC c v = (c.may && v.may && !lessC ⟨0, v, false⟩ c) := by
  cases hc : c.may with
  | false => unfold aheadC; rw [hc]; rfl
  | true =>
    cases hv : v.may with
    | false => unfold aheadC; rw [hv]; simp
    | true =>
      unfold aheadC lessC
      rw [hc, hv]
      dsimp only
      rcases may_e hc with ⟨h, _⟩ | ⟨h, _⟩
      · rw [if_pos h, if_pos h.symm, order_anti (may_v hc) hv]
        rcases cmpR_range (v := c.v) (w := v) with e | e | e <;> rw [e] <;> cases c.aft <;> decide
      · rw [if_neg (by omega), if_neg (by omega)]
        rcases h with h | h <;> rw [h] <;> rfl

/-! ### Spans -/
structure Sp where
  lo : Cu
  hi : Cu
def Sp.may (s : Sp) : Bool := decide (cmpC s.lo s.hi = -1)
def holdsC (s : Sp) (v : Ver) : Bool := s.may && aheadC s.lo v && !aheadC s.hi v
theorem span_mays {s : Sp} (h : s.may = true) : s.lo.may = true ∧ s.hi.may = true := by
  unfold Sp.may at h
  rw [decide_eq_true_eq] at h
  constructor
  · cases e : s.lo.may with
    | true => rfl
    | false => rw [cmpC_bad (.inl e)] at h; omega
  · cases e : s.hi.may with
    | true => rfl
    | false => rw [cmpC_bad (.inr e)] at h; omega
theorem span_ref (s : Sp) : (s.lo.may && s.hi.may && decide (cmpC s.lo s.hi < 0)) = s.may := by
  cases h : s.may with
  | true =>
    obtain ⟨h1, h2⟩ := span_mays h
    unfold Sp.may at h
    rw [decide_eq_true_eq] at h
    rw [h1, h2, h]; rfl
  | false =>
    unfold Sp.may at h
    rw [decide_eq_false_iff_not] at h
    have : ¬ cmpC s.lo s.hi < 0 := by rcases cmpC_range s.lo s.hi with e | e | e <;> omega
    rw [decide_eq_false this, Bool.and_false]
theorem holds_ref (s : Sp) (v : Ver) : (s.may && v.may && aheadC s.lo v && !aheadC s.hi v) = holdsC s v := by
  unfold holdsC
  cases hv : v.may with
  | true => rw [Bool.and_true]
  | false =>
    have : aheadC s.lo v = false := by unfold aheadC; rw [hv]; simp
    rw [this]; simp
theorem beside {v w : Ver} (hv : v.may = true) (hw : w.may = true) : (Sp.mk ⟨0, coreV v, false⟩ ⟨0, coreV v, true⟩).may = true ∧ holdsC ⟨⟨0, coreV v, false⟩, ⟨0, coreV v, true⟩⟩ w = decide (cmpR v w = 0) := by
  have m1 : (Cu.mk 0 (coreV v) false).may = true := posC_may hv
  have m2 : (Cu.mk 0 (coreV v) true).may = true := by unfold Cu.may; rw [if_pos rfl, core_may hv]; rfl
  have hs : (Sp.mk ⟨0, coreV v, false⟩ ⟨0, coreV v, true⟩).may = true := by
    unfold Sp.may
    rw [cmpC_good m1 m2]
    dsimp only
    rw [order_self]; rfl
  refine ⟨hs, ?_⟩
  unfold holdsC aheadC
  rw [hs, m1, m2, hw]
  dsimp only
  rw [if_pos rfl, if_pos rfl, order_core hv hw]
  rcases cmpR_range (v := v) (w := w) with e | e | e <;> rw [e] <;> rfl
theorem ahead_max {a b : Cu} {v : Ver} (ha : a.may = true) (hb : b.may = true) (hv : v.may = true) : aheadC (if cmpC a b < 0 then b else a) v = (aheadC a v && aheadC b v) := by
  by_cases h : cmpC a b < 0
  · rw [if_pos h]
    cases hB : aheadC b v with
    | true => rw [ahead_on ha hb hv (by omega) hB]; rfl
    | false => rw [Bool.and_false]
  · rw [if_neg h]
    cases hA : aheadC a v with
    | true => rw [ahead_on hb ha hv (by have := cut_anti (a := a) (b := b); omega) hA]; rfl
    | false => rw [Bool.false_and]
theorem ahead_min {a b : Cu} {v : Ver} (ha : a.may = true) (hb : b.may = true) (hv : v.may = true) : (!aheadC (if 0 < cmpC a b then b else a) v) = (!aheadC a v && !aheadC b v) := by
  by_cases h : 0 < cmpC a b
  · rw [if_pos h]
    cases hA : aheadC a v with
    | true => rw [ahead_on hb ha hv (by have := cut_anti (a := a) (b := b); omega) hA]; rfl
    | false => rw [Bool.not_false, Bool.true_and]
  · rw [if_neg h]
    cases hB : aheadC b v with
    | true => rw [ahead_on ha hb hv (by omega) hB]; rfl
    | false => rw [Bool.not_false, Bool.and_true]
theorem between {a b : Cu} {v : Ver} (ha : a.may = true) (hb : b.may = true) (hv : v.may = true) (h1 : aheadC a v = true) (h2 : aheadC b v = false) : cmpC a b = -1 := by
  have h3 : ¬ cmpC b a ≤ 0 := fun h => by rw [ahead_on hb ha hv h h1] at h2; cases h2
  have := cut_anti (a := a) (b := b)
  rcases cmpC_range a b with e | e | e <;> omega
theorem meets {s t : Sp} {v : Ver} (hs : s.may = true) (ht : t.may = true) (hv : v.may = true) :
    let m : Sp := ⟨if cmpC s.lo t.lo < 0 then t.lo else s.lo, if 0 < cmpC s.hi t.hi then t.hi else s.hi⟩
    (holdsC s v && holdsC t v) = holdsC m v ∧ (m.may || !holdsC m v) = true := by
  obtain ⟨s1, s2⟩ := span_mays hs
  obtain ⟨t1, t2⟩ := span_mays ht
  intro m
  have e1 : aheadC m.lo v = (aheadC s.lo v && aheadC t.lo v) := ahead_max s1 t1 hv
  have e2 : (!aheadC m.hi v) = (!aheadC s.hi v && !aheadC t.hi v) := ahead_min s2 t2 hv
  have m1 : m.lo.may = true := by show (if _ then _ else _ : Cu).may = true; split <;> assumption
  have m2 : m.hi.may = true := by show (if _ then _ else _ : Cu).may = true; split <;> assumption
  have hm : aheadC m.lo v = true → aheadC m.hi v = false → m.may = true := fun h1 h2 => by
    unfold Sp.may; rw [between m1 m2 hv h1 h2]; rfl
  have key : holdsC m v = (aheadC m.lo v && !aheadC m.hi v) := by
    unfold holdsC
    cases h1 : aheadC m.lo v with
    | false => simp
    | true =>
      cases h2 : aheadC m.hi v with
      | true => simp
      | false => rw [hm h1 h2]; rfl
  constructor
  · rw [key, e1, e2]
    unfold holdsC
    rw [hs, ht]
    cases aheadC s.lo v <;> cases aheadC t.lo v <;> cases aheadC s.hi v <;> cases aheadC t.hi v <;> rfl
  · cases h : holdsC m v with
    | false => simp
    | true =>
      unfold holdsC at h
      simp only [Bool.and_eq_true] at h
      rw [h.1.1]; rfl

/-! ### The cuts that numbers name -/
def genC (l : List Int) (i : Nat) : Cu :=
  if plc (atL l (i + 5)) 9 < 2 then endC (2 * plc (atL l (i + 5)) 9 - 1) else ⟨0, coreV (genV l i), decide (plc (atL l (i + 5)) 2 = 1)⟩
theorem genC_may (l : List Int) (i : Nat) : (genC l i).may = true := by
  unfold genC
  have h := plc_in (atL l (i + 5)) 9 (by omega)
  split
  · have : plc (atL l (i + 5)) 9 = 0 ∨ plc (atL l (i + 5)) 9 = 1 := by omega
    rcases this with e | e <;> rw [e] <;> decide
  · unfold Cu.may; rw [if_pos rfl, core_may (gen_may l i)]; rfl
theorem genC_pre (l : List Int) (i : Nat) : (genC l i).v.pre.length ≤ 300 := by
  unfold genC
  split
  · exact Nat.zero_le _
  · exact gen_pre l i
theorem genC_bld (l : List Int) (i : Nat) : (genC l i).v.build.length ≤ 300 := by rw [may_build (genC_may l i)]; decide
end Go.Proofs.Ytgeccfdofmnphaa
end

section
/-
  Equality of structs, whole: versions and cuts. No condition.
-/
namespace Go.Proofs.Ytgeccfdofmnphaa
open Go.RowKit
set_option linter.unusedVariables false
set_option linter.unusedSimpArgs false

def EqOk (P : Program) (d : Nat) (xs ys : Array Value) : List Field → List Bool → Prop
  | [], [] => True
  | f :: fs, b :: bs => f.name ≠ "_" ∧ (∃ u v, ∀ w, (part f.type xs f.offset).run P w = .ok u w ∧ (part f.type ys f.offset).run P w = .ok v w ∧ (Op.equalIn d f.type u v).run P w = .ok b w) ∧ EqOk P d xs ys fs bs
  | _, _ => False
theorem eqF {P : Program} {d : Nat} {xs ys : Array Value} : ∀ (fs : List Field) (bs : List Bool), EqOk P d xs ys fs bs → ∀ w, (Op.eqFields d xs ys fs).run P w = .ok (bs.all id) w
  | [], [], _, w => rfl
  | f :: fs, b :: bs, h, w => by
    obtain ⟨h1, ⟨u, v, h2⟩, h3⟩ := h
    obtain ⟨e1, e2, e3⟩ := h2 w
    have ih := eqF fs bs h3 w
    unfold Op.eqFields
    rw [if_pos h1]
    simp only [Sem.run_bind, e1, e2, e3, Result.andThen_ok]
    cases b with
    | false => simp
    | true => simp [ih]
  | [], _ :: _, h, _ => h.elim
  | _ :: _, [], h, _ => h.elim
theorem eq_agg {P : Program} {d : Nat} {t : TypeId} {xs ys : Array Value} {fs : List Field} {bs : List Bool} (hu : P.underlying t = some (.struct fs.toArray)) (hp : P.stoodInHeld t = false) (h : EqOk P d xs ys fs bs) (w : World) :
    (Op.equalIn (d + 1) t (.agg xs) (.agg ys)).run P w = .ok (bs.all id) w := by
  have hf : P.fieldsOf t = fs.toArray := by unfold Program.fieldsOf; rw [hu]
  rw [run_equalIn_struct w d t xs ys (by rw [hf]; exact hu) hp, hf]
  have : fs.toArray.toList = fs := by simp
  rw [this]
  exact eqF fs bs h w
theorem run_eq_op {P : Program} {ρ : Operand → Value} {o : Oper} {t t' : TypeId} {x y : Operand} {xs ys : Array Value} {b : Bool} (ho : o.op = .binOp .eql t x y t') (hx : ρ x = .agg xs) (hy : ρ y = .agg ys) (hm : P.eqGuardType P.depth t = false)
    (h : ∀ w, (Op.equalIn 10000 t (.agg xs) (.agg ys)).run P w = .ok b w) (w : World) : (execOp ρ o).run P w = .ok (.value (.bool b)) w := by
  have h1 := run_eqGuard_agg (P := P) w .eql t x y xs ys hm
  have h2 : (binOp .eql t (.agg xs) (.agg ys)).run P w = .ok (.bool b) w := by rw [run_eql_struct, h w]; rfl
  unfold execOp
  simp only [ho, hx, hy, Sem.run_bind, h1, Result.andThen_ok, h2, Sem.run_pure]
theorem str_beq (a b : List UInt8) : ((mkS a).toList == (mkS b).toList) = decide (a = b) := by
  rw [Lib.toList_data, Lib.toList_data, mk_data, mk_data]
  by_cases h : a = b
  · subst h; simp
  · rw [decide_eq_false h]; simpa using h
theorem guard_str {P : Program} {op : BinOp} {t : TypeId} {x y : Operand} {a b : ByteArray} (w : World) : (eqGuard op t x y (.string a) (.string b)).run P w = .ok () w := by cases op <;> simp [eqGuard]
theorem run_streql {P : Program} {ρ : Operand → Value} {o : Oper} {t t' : TypeId} {x y : Operand} {a b : List UInt8} {r : Bool} (ho : o.op = .binOp .eql t x y t') (hx : ρ x = .string (mkS a)) (hy : ρ y = .string (mkS b)) (h : decide (a = b) = r) (w : World) : (execOp ρ o).run P w = .ok (.value (.bool r)) w := by
  unfold execOp
  simp only [ho, hx, hy, Sem.run_bind, guard_str, Result.andThen_ok, binOp_string_eql, Sem.run_pure, str_beq, h]
theorem binOp_string_neq' (t : TypeId) (a b : ByteArray) : binOp .neq t (.string a) (.string b) = pure (.bool (!(a.toList == b.toList))) := by simp [binOp, Op.stringOp]
theorem run_strneq {P : Program} {ρ : Operand → Value} {o : Oper} {t t' : TypeId} {x y : Operand} {a b : List UInt8} {r : Bool} (ho : o.op = .binOp .neq t x y t') (hx : ρ x = .string (mkS a)) (hy : ρ y = .string (mkS b)) (h : decide (a = b) = r) (w : World) : (execOp ρ o).run P w = .ok (.value (.bool (!r))) w := by
  unfold execOp
  simp only [ho, hx, hy, Sem.run_bind, guard_str, Result.andThen_ok, binOp_string_neq', Sem.run_pure, str_beq, h]
theorem all5 (a b c d e : Bool) : ([a, b, c, d, e].all id) = (a && (b && (c && (d && e)))) := by simp
theorem all3 (a b c : Bool) : ([a, b, c].all id) = (a && (b && c)) := by simp
theorem ver_dec (u v : Ver) : decide (u = v) = (decide (u.maj = v.maj) && (decide (u.min = v.min) && (decide (u.pat = v.pat) && (decide (u.pre = v.pre) && decide (u.build = v.build))))) := by
  obtain ⟨a, b, c, d, e⟩ := u
  obtain ⟨a', b', c', d', e'⟩ := v
  simp only [Ver.mk.injEq, Bool.decide_and]
theorem int_beq (a b : Int) : (a == b) = decide (a = b) := rfl
theorem eq_ver (u v : Ver) (d : Nat) (w : World) : (Op.equalIn (d + 1 + 1) 24 (verV u) (verV v)).run Try.prog w = .ok (decide (u = v)) w := by
  have h := eq_agg (P := Try.prog) (d := d + 1) (t := 24) (xs := (verV u).cells) (ys := (verV v).cells) (bs := [u.maj == v.maj, u.min == v.min, u.pat == v.pat, (mkS u.pre).toList == (mkS v.pre).toList, (mkS u.build).toList == (mkS v.build).toList]) Try.underlying24 (by kernel_rfl)
    ⟨by decide, ⟨.int .i64 u.maj, .int .i64 v.maj, fun w => ⟨by kernel_rfl, by kernel_rfl, run_equalIn_int w d _ _ _ _ _ Try.underlying3⟩⟩,
     by decide, ⟨.int .i64 u.min, .int .i64 v.min, fun w => ⟨by kernel_rfl, by kernel_rfl, run_equalIn_int w d _ _ _ _ _ Try.underlying3⟩⟩,
     by decide, ⟨.int .i64 u.pat, .int .i64 v.pat, fun w => ⟨by kernel_rfl, by kernel_rfl, run_equalIn_int w d _ _ _ _ _ Try.underlying3⟩⟩,
     by decide, ⟨.string (mkS u.pre), .string (mkS v.pre), fun w => ⟨by kernel_rfl, by kernel_rfl, run_equalIn_string w d _ _ _ Try.underlying9⟩⟩,
     by decide, ⟨.string (mkS u.build), .string (mkS v.build), fun w => ⟨by kernel_rfl, by kernel_rfl, run_equalIn_string w d _ _ _ Try.underlying9⟩⟩, trivial⟩ w
  rw [all5, str_beq, str_beq, int_beq, int_beq, int_beq, ← ver_dec] at h
  exact h
/-- A cut as a value. -/
def cutV (c : Cu) : Value := .agg #[.int .i64 c.e, .int .i64 c.v.maj, .int .i64 c.v.min, .int .i64 c.v.pat, .string (mkS c.v.pre), .string (mkS c.v.build), .bool c.aft]
def spanV (s : Sp) : Value := .agg #[.int .i64 s.lo.e, .int .i64 s.lo.v.maj, .int .i64 s.lo.v.min, .int .i64 s.lo.v.pat, .string (mkS s.lo.v.pre), .string (mkS s.lo.v.build), .bool s.lo.aft, .int .i64 s.hi.e, .int .i64 s.hi.v.maj, .int .i64 s.hi.v.min, .int .i64 s.hi.v.pat, .string (mkS s.hi.v.pre), .string (mkS s.hi.v.build), .bool s.hi.aft]
theorem cut_dec (u v : Cu) : decide (u = v) = (decide (u.e = v.e) && (decide (u.v = v.v) && (u.aft == v.aft))) := by
  obtain ⟨a, b, c⟩ := u
  obtain ⟨a', b', c'⟩ := v
  simp only [Cu.mk.injEq, Bool.decide_and]
  cases c <;> cases c' <;> simp
theorem eq_cut (u v : Cu) (d : Nat) (w : World) : (Op.equalIn (d + 1 + 1 + 1) 47 (cutV u) (cutV v)).run Try.prog w = .ok (decide (u = v)) w := by
  have h := eq_agg (P := Try.prog) (d := d + 1 + 1) (t := 47) (xs := (cutV u).cells) (ys := (cutV v).cells) (bs := [u.e == v.e, decide (u.v = v.v), u.aft == v.aft]) Try.underlying47 (by kernel_rfl)
    ⟨by decide, ⟨.int .i64 u.e, .int .i64 v.e, fun w => ⟨by kernel_rfl, by kernel_rfl, run_equalIn_int w (d + 1) _ _ _ _ _ Try.underlying3⟩⟩,
     by decide, ⟨verV u.v, verV v.v, fun w => ⟨by kernel_rfl, by kernel_rfl, eq_ver u.v v.v d w⟩⟩,
     by decide, ⟨.bool u.aft, .bool v.aft, fun w => ⟨by kernel_rfl, by kernel_rfl, run_equalIn_bool' w (d + 1) _ _ _ Try.underlying4⟩⟩, trivial⟩ w
  rw [all3, int_beq, ← cut_dec] at h
  exact h
theorem guard_ver : Try.prog.eqGuardType Try.prog.depth 24 = false := by kernel_rfl
theorem guard_cut : Try.prog.eqGuardType Try.prog.depth 47 = false := by kernel_rfl
theorem op_eq_ver {ρ : Operand → Value} {o : Oper} {t' : TypeId} {x y : Operand} {u v : Ver} {b : Bool} (ho : o.op = .binOp .eql 24 x y t') (hx : ρ x = verV u) (hy : ρ y = verV v) (hb : decide (u = v) = b) (w : World) : (execOp ρ o).run Try.prog w = .ok (.value (.bool b)) w :=
  run_eq_op ho hx hy guard_ver (fun w => hb ▸ eq_ver u v 9998 w) w
theorem op_eq_cut {ρ : Operand → Value} {o : Oper} {t' : TypeId} {x y : Operand} {u v : Cu} {b : Bool} (ho : o.op = .binOp .eql 47 x y t') (hx : ρ x = cutV u) (hy : ρ y = cutV v) (hb : decide (u = v) = b) (w : World) : (execOp ρ o).run Try.prog w = .ok (.value (.bool b)) w :=
  run_eq_op ho hx hy guard_cut (fun w => hb ▸ eq_cut u v 9997 w) w
end Go.Proofs.Ytgeccfdofmnphaa
end

section
/-
  Package version: compareTag, comparePre and Compare: what they return; nothing that was there is changed. Conditions: strings of at most a million bytes.
-/
namespace Go.Proofs.Ytgeccfdofmnphaa
open Go.RowKit

theorem ret_i64 {a b : Int} (h : a = b) : Ending.returned (.int .i64 a) = .returned (.int .i64 b) := by rw [h]
theorem below_drew {B : Nat} {a w : World} (h : Below B a w) : Below B a w.drew := h.drew
theorem empty_mk (b : List UInt8) : (mkS b).toList.isEmpty = b.isEmpty := by rw [Lib.toList_data, mk_data]

set_option maxHeartbeats 2000000 in
theorem compareTag_any (a b : List UInt8) (w : World) (ha : a.length ≤ 1000000) (hb : b.length ≤ 1000000) :
    Calls Try.prog 50 #[.string (mkS a), .string (mkS b)] w fun e w' => e = .returned (.int .i64 (oneP a b)) ∧ Below w.heap.size w w' := by
  have la : a.length ≤ maxLen := by unfold maxLen; omega
  have lb : b.length ≤ maxLen := by unfold maxLen; omega
  have HO : Hid (oneP a b = if numI a && numI b then Lib.compareInt (numD a) (numD b) else if numI a && !b.isEmpty then -1 else if numI b && !a.isEmpty then 1 else Lib.compareBytes a b) := rfl
  have ea := empty_mk a
  have eb := empty_mk b
  obtain ⟨na, hna⟩ : ∃ n, numD a = n := ⟨_, rfl⟩
  obtain ⟨nb, hnb⟩ : ∃ n, numD b = n := ⟨_, rfl⟩
  have cC := fun w' => Try.strings_Compare (mkS a) (mkS b) w'
  rw [mk_data, mk_data] at cC
  obtain ⟨x, hx⟩ : ∃ n, Lib.compareBytes a b = n := ⟨_, rfl⟩
  have cI := fun w' => Try.cmp_Compare_int na nb w'
  obtain ⟨y, hy⟩ : ∃ n, Lib.compareInt na nb = n := ⟨_, rfl⟩
  rw [hx] at cC HO
  rw [hna, hnb, hy] at HO
  rw [hy] at cI
  clear hx hy
  cases hi : numI a <;> cases hj : numI b <;> cases ga : a.isEmpty <;> cases gb : b.isEmpty
  all_goals
    rw [hi, hj, ga, gb] at HO
    have cA := fun w' => number_mk a _ hi w' la
    have cB := fun w' => number_mk b _ hj w' lb
    rw [hna] at cA
    rw [hnb] at cB
    rw [ga] at ea
    rw [gb] at eb
    clear hi hj ga gb
    go_enter Try.func50, Try.ntmps50
    go_wp2_with fail
    refine (cA _).mono ?_
    rintro e w1 ⟨rfl, hb1⟩
    go_wp2_with fail
    refine (cB _).mono ?_
    rintro e w2 ⟨rfl, hb2⟩
    have hbw : Below w.heap.size w w2 := hb1.trans (hb2.mono hb1.size)
    go_wp2_with (first
      | (go_at_call 24; refine (cI _).mono ?_; rintro e w3 ⟨rfl, rfl⟩)
      | (go_at_call 68; refine (cC _).mono ?_; rintro e w3 ⟨rfl, rfl⟩))
    go_ret
    exact ⟨ret_i64 (by rw [HO.out]; simp), hbw⟩

theorem lcell_get (l : List (List UInt8)) (k : Nat) (hk : k < 4) : (lcells l)[k]? = some (.string (mkS (tg l k))) := by
  match k, hk with
  | 0, _ => rfl
  | 1, _ => rfl
  | 2, _ => rfl
  | 3, _ => rfl
theorem tag_cell {w : World} {B : Nat} {l : List (List UInt8)} {T : TypeId} (h : w.heap[B]? = some (.cells (lcells l) T)) (k : Nat) (hk : k < 4) : w.cell? ⟨B, k, none⟩ = some (.string (mkS (tg l k))) := by
  rw [cell_of_row w B k _ _ _ h]; exact lcell_get l k hk
theorem seqP_on (n : Nat) (l m : List (List UInt8)) (h : oneP (tg l 0) (tg m 0) = 0) : seqP (n + 1) l m = seqP n l.tail m.tail := by
  rw [seqP, if_neg (by simpa using h)]
theorem seqP_off (n : Nat) (l m : List (List UInt8)) (h : ¬ oneP (tg l 0) (tg m 0) = 0) : seqP (n + 1) l m = oneP (tg l 0) (tg m 0) := by
  rw [seqP, if_pos h]
theorem tg_drop (l : List (List UInt8)) (k : Nat) : tg (l.drop k) 0 = tg l k := by unfold tg; simp

set_option maxHeartbeats 2000000 in
theorem cfunc_any (bx by_ : Nat) (l m : List (List UInt8)) (w : World) (hx : w.heap[bx]? = some (.cells (lcells l) 68)) (hy : w.heap[by_]? = some (.cells (lcells m) 68)) (hl : ∀ i, (tg l i).length ≤ 8) (hm : ∀ i, (tg m i).length ≤ 8) :
    Calls Try.prog 49 #[.slice (some ⟨bx, 0, none⟩) 4 4, .slice (some ⟨by_, 0, none⟩) 4 4, .func (.func 50) #[] #[]] w fun e w' => e = .returned (.int .i64 (seqP 4 l m)) ∧ Below w.heap.size w w' := by
  have hbx := (Array.getElem?_eq_some_iff.1 hx).1
  have hby := (Array.getElem?_eq_some_iff.1 hy).1
  have HX := Lib.hid hx
  have HY := Lib.hid hy
  have HL := Lib.hid hl
  have HM := Lib.hid hm
  clear hx hy hl hm
  go_enter Try.func49, Try.ntmps49
  go_wp2
  go_loopw [13] (fun v wr => ∃ k : Nat, k ≤ 4 ∧ v = .int .i64 k ∧ Below w.heap.size w wr ∧ Hid (seqP (4 - k) (l.drop k) (m.drop k) = seqP 4 l m)) (fun v _ => 4 - (intOf v).toNat)
  case atStart => exact ⟨0, by omega, rfl, Below.refl _ _, rfl⟩
  case round =>
    obtain ⟨k, hk, rfl, hbel, HR⟩ := hrel
    by_cases hk4 : k < 4
    · have hki : (k : Int) < 4 := by omega
      have hkn : ¬ (4 : Int) ≤ k := by omega
      have cx := tag_cell ((hbel.block bx hbx).trans HX.out) k hk4
      have cy := tag_cell ((hbel.block by_ hby).trans HY.out) k hk4
      have lx := HL.out k
      have ly := HM.out k
      obtain ⟨n, hn⟩ : ∃ n, 4 - k = n + 1 := ⟨3 - k, by omega⟩
      have cT := fun w' => compareTag_any (tg l k) (tg m k) w' (by omega) (by omega)
      obtain ⟨o, ho⟩ : ∃ o, oneP (tg l k) (tg m k) = o := ⟨_, rfl⟩
      rw [ho] at cT
      by_cases h0 : o = 0
      · have hq : seqP n (l.drop (k + 1)) (m.drop (k + 1)) = seqP 4 l m := by
          rw [← HR.out, hn, seqP_on _ _ _ (by rw [tg_drop, tg_drop, ho, h0])]; simp [List.tail_drop]
        have HQ := Lib.hid hq
        have HN := Lib.hid hn
        subst h0
        clear hq hn ho
        go_wp2_with fail
        refine (cT _).mono ?_
        rintro e w1 ⟨rfl, hb1⟩
        go_wp2
        go_roundw
        case rel => exact ⟨k + 1, by omega, by go_num, hbel.trans (hb1.mono hbel.size), by have := HN.out; rw [show 4 - (k + 1) = n from by omega]; exact HQ.out⟩
        case measure => simp [intOf]; omega
      · have hq : o = seqP 4 l m := by
          rw [← HR.out, hn, seqP_off _ _ _ (by rw [tg_drop, tg_drop, ho]; exact h0), tg_drop, tg_drop, ho]
        have HQ := Lib.hid hq
        have h0b : (o != 0) = true := by simpa using h0
        clear hq hn ho
        go_wp2_with fail
        refine (cT _).mono ?_
        rintro e w1 ⟨rfl, hb1⟩
        go_wp2
        go_ret
        exact ⟨ret_i64 HQ.out, hbel.trans (hb1.mono hbel.size)⟩
    · have hki : ¬ (k : Int) < 4 := by omega
      obtain rfl : k = 4 := by omega
      go_wp2
      go_ret
      exact ⟨ret_i64 HR.out, hbel⟩

set_option maxHeartbeats 2000000 in
theorem comparePre_go (a b : List UInt8) (w : World) (ha : a.length ≤ 1000000) (hb : b.length ≤ 1000000) (na : a ≠ []) (nb : b ≠ []) :
    Calls Try.prog 25 #[.string (mkS a), .string (mkS b)] w fun e w' => e = .returned (.int .i64 (seqP 4 (lst a).1 (lst b).1)) ∧ Below w.heap.size w w' := by
  have ea := empty_mk a
  have eb := empty_mk b
  rw [List.isEmpty_eq_false_iff.2 na] at ea
  rw [List.isEmpty_eq_false_iff.2 nb] at eb
  have cA := fun w' => list_lit a w' (by omega)
  have cB := fun w' => list_lit b w' (by omega)
  obtain ⟨L, hL⟩ : ∃ L, (lst a).1 = L := ⟨_, rfl⟩
  obtain ⟨M, hM⟩ : ∃ L, (lst b).1 = L := ⟨_, rfl⟩
  rw [hL] at cA
  rw [hM] at cB
  rw [hL, hM]
  have H8 := Lib.hid (tg_len a)
  have H9 := Lib.hid (tg_len b)
  rw [hL] at H8
  rw [hM] at H9
  clear hL hM na nb
  go_enter Try.func25, Try.ntmps25
  go_wp2_with fail
  refine (cA _).mono ?_
  rintro e w1 ⟨rfl, hb1⟩
  go_wp2_with fail
  refine (cB _).mono ?_
  rintro e w2 ⟨rfl, hb2⟩
  have hz1 := hb1.size
  have hz2 := hb2.size
  rw [size_box] at hz2
  have hbw : Below w.heap.size w w2 := (hb1.alloc hb1.size _).trans (hb2.mono (by rw [size_box]; omega))
  have hx := (hb2.block w1.heap.size (by rw [size_box]; omega)).trans (heap_new w1 _)
  have hy := heap_new w2 (.cells #[.string (mkS (tg M 0)), .string (mkS (tg M 1)), .string (mkS (tg M 2)), .string (mkS (tg M 3))] 68)
  have hx2 := (heap_old w2 (.cells #[.string (mkS (tg M 0)), .string (mkS (tg M 1)), .string (mkS (tg M 2)), .string (mkS (tg M 3))] 68) (by omega : w1.heap.size < w2.heap.size)).trans hx
  have cF := cfunc_any w1.heap.size w2.heap.size L M ((w2.alloc (.cells #[.string (mkS (tg M 0)), .string (mkS (tg M 1)), .string (mkS (tg M 2)), .string (mkS (tg M 3))] 68)).drew) hx2 hy H8.out H9.out
  clear hx hy hx2
  go_wp2_with fail
  go_region_with (refine cF.mono ?_; rintro e w3 ⟨rfl, hb3⟩)
  all_goals
    go_wp2
    go_ret
    exact ⟨rfl, (below_drew (hbw.alloc (by omega) _)).trans (hb3.mono (by show _ ≤ (w2.alloc _).heap.size; rw [size_box]; omega))⟩

theorem comparePre_any (a b : List UInt8) (w : World) (ha : a.length ≤ 1000000) (hb : b.length ≤ 1000000) :
    Calls Try.prog 25 #[.string (mkS a), .string (mkS b)] w fun e w' => e = .returned (.int .i64 (cpre a b)) ∧ Below w.heap.size w w' := by
  by_cases h1 : a = []
  · have ea := empty_mk a
    rw [List.isEmpty_iff.2 h1] at ea
    have HC : Hid (cpre a b = 1) := by show _ = _; unfold cpre; rw [if_pos h1]
    clear h1
    go_enter Try.func25, Try.ntmps25
    go_wp2
    go_ret
    exact ⟨ret_i64 HC.out.symm, Below.refl _ _⟩
  · by_cases h2 : b = []
    · have ea := empty_mk a
      rw [List.isEmpty_eq_false_iff.2 h1] at ea
      have eb := empty_mk b
      rw [List.isEmpty_iff.2 h2] at eb
      have HC : Hid (cpre a b = -1) := by show _ = _; unfold cpre; rw [if_neg h1, if_pos h2]
      clear h1 h2
      go_enter Try.func25, Try.ntmps25
      go_wp2
      go_ret
      exact ⟨ret_i64 HC.out.symm, Below.refl _ _⟩
    · have hc : cpre a b = seqP 4 (lst a).1 (lst b).1 := by unfold cpre; rw [if_neg h1, if_neg h2]
      rw [hc]
      exact comparePre_go a b w ha hb h1 h2

def or3 (x y z : Int) : Int := if x ≠ 0 then x else if y ≠ 0 then y else z
def nthI (x y z : Int) (k : Nat) : Int := if k = 0 then x else if k = 1 then y else z
set_option maxHeartbeats 2000000 in
theorem or_any (B : Nat) (x y z : Int) (w : World) (h : w.heap[B]? = some (.cells #[.int .i64 x, .int .i64 y, .int .i64 z] 3)) :
    Calls Try.prog 23 #[.slice (some ⟨B, 0, none⟩) 3 3] w fun e w' => e = .returned (.int .i64 (or3 x y z)) ∧ w = w' := by
  obtain ⟨c0, _⟩ := cell_row (j := 0) h (by simp)
  obtain ⟨c1, _⟩ := cell_row (j := 1) h (by simp)
  obtain ⟨c2, _⟩ := cell_row (j := 2) h (by simp)
  simp only [List.getElem_toArray, List.getElem_cons_succ, List.getElem_cons_zero] at c0 c1 c2
  have HC : Hid (∀ k, k < 3 → w.cell? ⟨B, k, none⟩ = some (.int .i64 (nthI x y z k))) := by
    intro k hk
    match k, hk with
    | 0, _ => exact c0
    | 1, _ => exact c1
    | 2, _ => exact c2
  clear c0 c1 c2 h
  go_enter Try.func23, Try.ntmps23
  go_wp2
  go_loop [8] (fun v => ∃ k : Nat, k ≤ 3 ∧ v = .int .i64 k ∧ Hid (∀ j, j < k → nthI x y z j = 0)) (fun v => 3 - (intOf v).toNat)
  case atStart => exact ⟨0, by omega, rfl, fun j hj => by omega⟩
  case round =>
    obtain ⟨k, hk, rfl, HR⟩ := hrel
    by_cases hk3 : k < 3
    · have hki : (k : Int) < 3 := by omega
      have hc := HC.out k hk3
      obtain ⟨o, ho⟩ : ∃ o, nthI x y z k = o := ⟨_, rfl⟩
      rw [ho] at hc
      by_cases h0 : o = 0
      · subst h0
        have HO := Lib.hid ho
        clear ho
        go_wp2
        go_round
        case rel => exact ⟨k + 1, by omega, by go_num, fun j hj => by
          by_cases hjk : j < k
          · exact HR.out j hjk
          · obtain rfl : j = k := by omega
            exact HO.out⟩
        case measure => simp [intOf]; omega
      · have h0b : (o != 0) = true := by simpa using h0
        have HO := Lib.hid ho
        clear ho
        go_wp2
        go_ret
        refine ⟨ret_i64 ?_, rfl⟩
        have h1 := HR.out
        have h2 := HO.out
        unfold or3
        match k, hk3 with
        | 0, _ => rw [show x = o from h2, if_pos h0]
        | 1, _ => rw [show x = 0 from h1 0 (by omega), show y = o from h2, if_neg (by simp), if_pos h0]
        | 2, _ => rw [show x = 0 from h1 0 (by omega), show y = 0 from h1 1 (by omega), show z = o from h2]; simp
    · have hki : ¬ (k : Int) < 3 := by omega
      obtain rfl : k = 3 := by omega
      go_wp2
      go_ret
      refine ⟨ret_i64 ?_, rfl⟩
      have h1 := HR.out
      unfold or3
      rw [show x = 0 from h1 0 (by omega), show y = 0 from h1 1 (by omega), show z = 0 from h1 2 (by omega)]; simp
end Go.Proofs.Ytgeccfdofmnphaa
end

section
/-
  Package version: Compare: the order that the document names; nothing that was there is changed. Conditions: strings of at most a million bytes.
-/
namespace Go.Proofs.Ytgeccfdofmnphaa
open Go.RowKit

/-- Two boxes hold two versions, and nothing that was there before has changed: so it stays behind a call that changes nothing old. -/
theorem two_keep {w w' w2 : World} {A B : Nat} {v1 v2 v3 v4 v5 u1 u2 u3 u4 u5 : Value} (hS : (w'.cell? ⟨A, 0, none⟩ = some v1 ∧ w'.cell? ⟨A, 1, none⟩ = some v2 ∧ w'.cell? ⟨A, 2, none⟩ = some v3 ∧ w'.cell? ⟨A, 3, none⟩ = some v4 ∧ w'.cell? ⟨A, 4, none⟩ = some v5) ∧ (w'.cell? ⟨B, 0, none⟩ = some u1 ∧ w'.cell? ⟨B, 1, none⟩ = some u2 ∧ w'.cell? ⟨B, 2, none⟩ = some u3 ∧ w'.cell? ⟨B, 3, none⟩ = some u4 ∧ w'.cell? ⟨B, 4, none⟩ = some u5) ∧ Below w.heap.size w w' ∧ A < w'.heap.size ∧ B < w'.heap.size) (hb : Below w'.heap.size w' w2) :
    (w2.cell? ⟨A, 0, none⟩ = some v1 ∧ w2.cell? ⟨A, 1, none⟩ = some v2 ∧ w2.cell? ⟨A, 2, none⟩ = some v3 ∧ w2.cell? ⟨A, 3, none⟩ = some v4 ∧ w2.cell? ⟨A, 4, none⟩ = some v5) ∧ (w2.cell? ⟨B, 0, none⟩ = some u1 ∧ w2.cell? ⟨B, 1, none⟩ = some u2 ∧ w2.cell? ⟨B, 2, none⟩ = some u3 ∧ w2.cell? ⟨B, 3, none⟩ = some u4 ∧ w2.cell? ⟨B, 4, none⟩ = some u5) ∧ Below w.heap.size w w2 ∧ A < w2.heap.size ∧ B < w2.heap.size := by
  obtain ⟨⟨a0, a1, a2, a3, a4⟩, ⟨b0, b1, b2, b3, b4⟩, h, hA, hB⟩ := hS
  have k : ∀ C i v, C < w'.heap.size → w'.cell? ⟨C, i, none⟩ = some v → w2.cell? ⟨C, i, none⟩ = some v := fun C i v hC e => (hb.cell (p := ⟨C, i, none⟩) hC).trans e
  exact ⟨⟨k _ _ _ hA a0, k _ _ _ hA a1, k _ _ _ hA a2, k _ _ _ hA a3, k _ _ _ hA a4⟩, ⟨k _ _ _ hB b0, k _ _ _ hB b1, k _ _ _ hB b2, k _ _ _ hB b3, k _ _ _ hB b4⟩, h.trans (hb.mono h.size), Nat.lt_of_lt_of_le hA hb.size, Nat.lt_of_lt_of_le hB hb.size⟩
theorem heap_new_drew (w : World) (o : Obj) : (w.alloc o).drew.heap[w.heap.size]? = some o := heap_new w o
theorem two_start (w : World) (v1 v2 v3 v4 v5 u1 u2 u3 u4 u5 : Value) (T : TypeId) :
    (((w.alloc (.cells #[v1, v2, v3, v4, v5] T)).alloc (.cells #[u1, u2, u3, u4, u5] T)).drew.cell? ⟨w.heap.size, 0, none⟩ = some v1 ∧ ((w.alloc (.cells #[v1, v2, v3, v4, v5] T)).alloc (.cells #[u1, u2, u3, u4, u5] T)).drew.cell? ⟨w.heap.size, 1, none⟩ = some v2 ∧ ((w.alloc (.cells #[v1, v2, v3, v4, v5] T)).alloc (.cells #[u1, u2, u3, u4, u5] T)).drew.cell? ⟨w.heap.size, 2, none⟩ = some v3 ∧ ((w.alloc (.cells #[v1, v2, v3, v4, v5] T)).alloc (.cells #[u1, u2, u3, u4, u5] T)).drew.cell? ⟨w.heap.size, 3, none⟩ = some v4 ∧ ((w.alloc (.cells #[v1, v2, v3, v4, v5] T)).alloc (.cells #[u1, u2, u3, u4, u5] T)).drew.cell? ⟨w.heap.size, 4, none⟩ = some v5) ∧ (((w.alloc (.cells #[v1, v2, v3, v4, v5] T)).alloc (.cells #[u1, u2, u3, u4, u5] T)).drew.cell? ⟨(w.heap.size + 1), 0, none⟩ = some u1 ∧ ((w.alloc (.cells #[v1, v2, v3, v4, v5] T)).alloc (.cells #[u1, u2, u3, u4, u5] T)).drew.cell? ⟨(w.heap.size + 1), 1, none⟩ = some u2 ∧ ((w.alloc (.cells #[v1, v2, v3, v4, v5] T)).alloc (.cells #[u1, u2, u3, u4, u5] T)).drew.cell? ⟨(w.heap.size + 1), 2, none⟩ = some u3 ∧ ((w.alloc (.cells #[v1, v2, v3, v4, v5] T)).alloc (.cells #[u1, u2, u3, u4, u5] T)).drew.cell? ⟨(w.heap.size + 1), 3, none⟩ = some u4 ∧ ((w.alloc (.cells #[v1, v2, v3, v4, v5] T)).alloc (.cells #[u1, u2, u3, u4, u5] T)).drew.cell? ⟨(w.heap.size + 1), 4, none⟩ = some u5) ∧ Below w.heap.size w ((w.alloc (.cells #[v1, v2, v3, v4, v5] T)).alloc (.cells #[u1, u2, u3, u4, u5] T)).drew ∧ w.heap.size < ((w.alloc (.cells #[v1, v2, v3, v4, v5] T)).alloc (.cells #[u1, u2, u3, u4, u5] T)).drew.heap.size ∧ (w.heap.size + 1) < ((w.alloc (.cells #[v1, v2, v3, v4, v5] T)).alloc (.cells #[u1, u2, u3, u4, u5] T)).drew.heap.size := by
  have h0 : ((w.alloc (.cells #[v1, v2, v3, v4, v5] T)).alloc (.cells #[u1, u2, u3, u4, u5] T)).drew.heap[w.heap.size]? = some (.cells #[v1, v2, v3, v4, v5] T) := (heap_old _ _ (by rw [size_box]; omega)).trans (heap_new w _)
  have h1 : ((w.alloc (.cells #[v1, v2, v3, v4, v5] T)).alloc (.cells #[u1, u2, u3, u4, u5] T)).drew.heap[w.heap.size + 1]? = some (.cells #[u1, u2, u3, u4, u5] T) := heap_at _ _ _ (by rw [size_box])
  have k0 : ∀ i v, (#[v1, v2, v3, v4, v5] : Array Value)[i]? = some v → ((w.alloc (.cells #[v1, v2, v3, v4, v5] T)).alloc (.cells #[u1, u2, u3, u4, u5] T)).drew.cell? ⟨w.heap.size, i, none⟩ = some v := fun i v e => (cell_of_row _ _ i _ _ _ h0).trans e
  have k1 : ∀ i v, (#[u1, u2, u3, u4, u5] : Array Value)[i]? = some v → ((w.alloc (.cells #[v1, v2, v3, v4, v5] T)).alloc (.cells #[u1, u2, u3, u4, u5] T)).drew.cell? ⟨w.heap.size + 1, i, none⟩ = some v := fun i v e => (cell_of_row _ _ i _ _ _ h1).trans e
  have hs : ((w.alloc (.cells #[v1, v2, v3, v4, v5] T)).alloc (.cells #[u1, u2, u3, u4, u5] T)).drew.heap.size = w.heap.size + 2 := by show ((w.alloc _).alloc _).heap.size = _; rw [size_box, size_box]
  exact ⟨⟨k0 0 _ rfl, k0 1 _ rfl, k0 2 _ rfl, k0 3 _ rfl, k0 4 _ rfl⟩, ⟨k1 0 _ rfl, k1 1 _ rfl, k1 2 _ rfl, k1 3 _ rfl, k1 4 _ rfl⟩, below_drew (((Below.refl _ _).alloc (Nat.le_refl _) _).alloc (by rw [size_box]; omega) _), by omega, by omega⟩

set_option maxHeartbeats 4000000 in
set_option maxRecDepth 100000 in
theorem compare_same (a1 a2 a3 : Int) (p q q' : List UInt8) (w : World) (h1 : p.length ≤ 1000000) (h2 : q.length ≤ 1000000) (h4 : q'.length ≤ 1000000) (hm : (Ver.mk a1 a2 a3 p q).may = true) (hn : (Ver.mk a1 a2 a3 p q').may = true) :
    Calls Try.prog 7 #[verV ⟨a1, a2, a3, p, q⟩, verV ⟨a1, a2, a3, p, q'⟩] w fun e w' => e = .returned (.int .i64 0) ∧ Below w.heap.size w w' := by
  have cM := fun w' => may_any (Ver.mk a1 a2 a3 p q) w' (by show p.length < _; omega) (by show q.length < _; omega)
  have cN := fun w' => may_any (Ver.mk a1 a2 a3 p q') w' (by show p.length < _; omega) (by show q'.length < _; omega)
  have cO := fun w' => core_any (Ver.mk a1 a2 a3 p q) w' (by show p.length ≤ _; omega)
  have cP := fun w' => core_any (Ver.mk a1 a2 a3 p q') w' (by show p.length ≤ _; omega)
  rw [hm] at cM
  rw [hn] at cN
  unfold verV at cM cN cO cP ⊢
  dsimp only at cM cN cO cP ⊢
  clear hm hn
  go_enter Try.func7, Try.ntmps7
  go_wp2_with fail
  go_region_held3 (fun w' => (w'.cell? ⟨w.heap.size, 0, none⟩ = some (.int .i64 a1) ∧ w'.cell? ⟨w.heap.size, 1, none⟩ = some (.int .i64 a2) ∧ w'.cell? ⟨w.heap.size, 2, none⟩ = some (.int .i64 a3) ∧ w'.cell? ⟨w.heap.size, 3, none⟩ = some (.string (mkS p)) ∧ w'.cell? ⟨w.heap.size, 4, none⟩ = some (.string (mkS q))) ∧ (w'.cell? ⟨(w.heap.size + 1), 0, none⟩ = some (.int .i64 a1) ∧ w'.cell? ⟨(w.heap.size + 1), 1, none⟩ = some (.int .i64 a2) ∧ w'.cell? ⟨(w.heap.size + 1), 2, none⟩ = some (.int .i64 a3) ∧ w'.cell? ⟨(w.heap.size + 1), 3, none⟩ = some (.string (mkS p)) ∧ w'.cell? ⟨(w.heap.size + 1), 4, none⟩ = some (.string (mkS q'))) ∧ Below w.heap.size w w' ∧ w.heap.size < w'.heap.size ∧ (w.heap.size + 1) < w'.heap.size)
    ((first | exact two_start w _ _ _ _ _ _ _ _ _ _ _ | exact two_keep ‹_› ‹_›))
    (first
      | (go_at_call 20; with_reducible refine (cM _).mono ?_; rintro e w1 ⟨rfl, hb1⟩)
      | (go_at_call 20; with_reducible refine (cN _).mono ?_; rintro e w2 ⟨rfl, hb2⟩)
      | (go_at_call 21; with_reducible refine (cO _).mono ?_; rintro e w3 ⟨rfl, hb3⟩)
      | (go_at_call 21; with_reducible refine (cP _).mono ?_; rintro e w4 ⟨rfl, hb4⟩))
  all_goals
    go_wp2
    go_ret
    rename_i hH
    exact ⟨rfl, hH.2.2.1⟩

set_option maxHeartbeats 8000000 in
set_option maxRecDepth 100000 in
theorem compare_diff (a1 a2 a3 b1 b2 b3 : Int) (p q p' q' : List UInt8) (w : World) (h1 : p.length ≤ 1000000) (h2 : q.length ≤ 1000000) (h3 : p'.length ≤ 1000000) (h4 : q'.length ≤ 1000000) (hm : (Ver.mk a1 a2 a3 p q).may = true) (hn : (Ver.mk b1 b2 b3 p' q').may = true)
    (hd : (a1 == b1) = false ∨ ((a1 == b1) = true ∧ (a2 == b2) = false) ∨ ((a1 == b1) = true ∧ (a2 == b2) = true ∧ (a3 == b3) = false) ∨ ((a1 == b1) = true ∧ (a2 == b2) = true ∧ (a3 == b3) = true ∧ ((mkS p).toList == (mkS p').toList) = false))
    (n : Int) (hn2 : or3 (Lib.compareInt a1 b1) (Lib.compareInt a2 b2) (Lib.compareInt a3 b3) = n) :
    Calls Try.prog 7 #[verV ⟨a1, a2, a3, p, q⟩, verV ⟨b1, b2, b3, p', q'⟩] w fun e w' => e = .returned (.int .i64 (if n ≠ 0 then n else cpre p p')) ∧ Below w.heap.size w w' := by
  have cM := fun w' => may_any (Ver.mk a1 a2 a3 p q) w' (by show p.length < _; omega) (by show q.length < _; omega)
  have cN := fun w' => may_any (Ver.mk b1 b2 b3 p' q') w' (by show p'.length < _; omega) (by show q'.length < _; omega)
  have cO := fun w' => core_any (Ver.mk a1 a2 a3 p q) w' (by show p.length ≤ _; omega)
  have cP := fun w' => core_any (Ver.mk b1 b2 b3 p' q') w' (by show p'.length ≤ _; omega)
  have i1 := fun w' => Try.cmp_Compare_int a1 b1 w'
  have i2 := fun w' => Try.cmp_Compare_int a2 b2 w'
  have i3 := fun w' => Try.cmp_Compare_int a3 b3 w'
  obtain ⟨o1, ho1⟩ : ∃ o, Lib.compareInt a1 b1 = o := ⟨_, rfl⟩
  obtain ⟨o2, ho2⟩ : ∃ o, Lib.compareInt a2 b2 = o := ⟨_, rfl⟩
  obtain ⟨o3, ho3⟩ : ∃ o, Lib.compareInt a3 b3 = o := ⟨_, rfl⟩
  rw [ho1] at i1 hn2
  rw [ho2] at i2 hn2
  rw [ho3] at i3 hn2
  have cR := fun B w' h => or_any B o1 o2 o3 w' h
  rw [hn2] at cR
  rw [hm] at cM
  rw [hn] at cN
  unfold verV at cM cN cO cP ⊢
  dsimp only at cM cN cO cP ⊢
  clear hm hn ho1 ho2 ho3 hn2
  have cQ := fun w' => comparePre_any p p' w' h1 h3
  obtain ⟨x, hx⟩ : ∃ x, cpre p p' = x := ⟨_, rfl⟩
  rw [hx] at cQ ⊢
  clear hx
  rcases hd with d1 | ⟨d1, d2⟩ | ⟨d1, d2, d3⟩ | ⟨d1, d2, d3, d4⟩
  all_goals
    go_enter Try.func7, Try.ntmps7
    go_wp2_with fail
    go_region_held3 (fun w' => (w'.cell? ⟨w.heap.size, 0, none⟩ = some (.int .i64 a1) ∧ w'.cell? ⟨w.heap.size, 1, none⟩ = some (.int .i64 a2) ∧ w'.cell? ⟨w.heap.size, 2, none⟩ = some (.int .i64 a3) ∧ w'.cell? ⟨w.heap.size, 3, none⟩ = some (.string (mkS p)) ∧ w'.cell? ⟨w.heap.size, 4, none⟩ = some (.string (mkS q))) ∧ (w'.cell? ⟨(w.heap.size + 1), 0, none⟩ = some (.int .i64 b1) ∧ w'.cell? ⟨(w.heap.size + 1), 1, none⟩ = some (.int .i64 b2) ∧ w'.cell? ⟨(w.heap.size + 1), 2, none⟩ = some (.int .i64 b3) ∧ w'.cell? ⟨(w.heap.size + 1), 3, none⟩ = some (.string (mkS p')) ∧ w'.cell? ⟨(w.heap.size + 1), 4, none⟩ = some (.string (mkS q'))) ∧ Below w.heap.size w w' ∧ w.heap.size < w'.heap.size ∧ (w.heap.size + 1) < w'.heap.size)
      ((first | exact two_start w _ _ _ _ _ _ _ _ _ _ _ | exact two_keep ‹_› ‹_›))
      (first
        | (go_at_call 20; with_reducible refine (cM _).mono ?_; rintro e w1 ⟨rfl, hb1⟩)
        | (go_at_call 20; with_reducible refine (cN _).mono ?_; rintro e w2 ⟨rfl, hb2⟩)
        | (go_at_call 21; with_reducible refine (cO _).mono ?_; rintro e w3 ⟨rfl, hb3⟩)
        | (go_at_call 21; with_reducible refine (cP _).mono ?_; rintro e w4 ⟨rfl, hb4⟩))
    all_goals
      rename_i hH
      go_wp2_with fail
      go_region_held3 (fun w' => (w'.cell? ⟨w.heap.size, 0, none⟩ = some (.int .i64 a1) ∧ w'.cell? ⟨w.heap.size, 1, none⟩ = some (.int .i64 a2) ∧ w'.cell? ⟨w.heap.size, 2, none⟩ = some (.int .i64 a3) ∧ w'.cell? ⟨w.heap.size, 3, none⟩ = some (.string (mkS p)) ∧ w'.cell? ⟨w.heap.size, 4, none⟩ = some (.string (mkS q))) ∧ (w'.cell? ⟨(w.heap.size + 1), 0, none⟩ = some (.int .i64 b1) ∧ w'.cell? ⟨(w.heap.size + 1), 1, none⟩ = some (.int .i64 b2) ∧ w'.cell? ⟨(w.heap.size + 1), 2, none⟩ = some (.int .i64 b3) ∧ w'.cell? ⟨(w.heap.size + 1), 3, none⟩ = some (.string (mkS p')) ∧ w'.cell? ⟨(w.heap.size + 1), 4, none⟩ = some (.string (mkS q'))) ∧ Below w.heap.size w w' ∧ w.heap.size < w'.heap.size ∧ (w.heap.size + 1) < w'.heap.size)
        ((first | exact hH | exact two_keep hH (below_drew (Below.refl _ _)) | assumption | exact two_keep ‹_› ((Below.refl _ _).alloc (Nat.le_refl _) _)))
        (first
          | (go_at_call 24; with_reducible refine (i1 _).mono ?_; rintro e w5 ⟨rfl, rfl⟩)
          | (go_at_call 24; with_reducible refine (i2 _).mono ?_; rintro e w6 ⟨rfl, rfl⟩)
          | (go_at_call 24; with_reducible refine (i3 _).mono ?_; rintro e w7 ⟨rfl, rfl⟩)
          | (go_at_call 23; refine (cR _ _ (heap_new_drew _ _)).mono ?_; rintro e w8 ⟨rfl, rfl⟩))
      all_goals
        rename_i hK
        obtain ⟨⟨_, _, _, k4, _⟩, ⟨_, _, _, m4, _⟩, hbk, _, _⟩ := hK
        by_cases h0 : n = 0
        · subst h0
          go_wp2_with (go_at_call 25; refine (cQ _).mono ?_; rintro e w9 ⟨rfl, hb9⟩)
          go_ret
          exact ⟨rfl, hbk.trans (hb9.mono hbk.size)⟩
        · have h0b : (n == 0) = false := by simpa using h0
          go_wp2
          go_ret
          exact ⟨rfl, hbk⟩

set_option maxHeartbeats 8000000 in
set_option maxRecDepth 100000 in
theorem compare_bad (v u : Ver) (w : World) (h1 : v.pre.length ≤ 1000000) (h2 : v.build.length ≤ 1000000) (h3 : u.pre.length ≤ 1000000) (h4 : u.build.length ≤ 1000000) (hm : v.may = false ∨ (v.may = true ∧ u.may = false)) :
    Calls Try.prog 7 #[verV v, verV u] w fun e w' => e = .returned (.int .i64 0) ∧ Below w.heap.size w w' := by
  have cM := fun w' => may_any v w' (by omega) (by omega)
  have cN := fun w' => may_any u w' (by omega) (by omega)
  obtain ⟨a1, a2, a3, p, q⟩ := v
  obtain ⟨b1, b2, b3, p', q'⟩ := u
  unfold verV at cM cN ⊢
  dsimp only at cM cN ⊢
  rcases hm with hm | ⟨hm, hn⟩
  · rw [hm] at cM
    clear hm
    go_enter Try.func7, Try.ntmps7
    go_wp2_with fail
    go_region_with (go_at_call 20; with_reducible refine (cM _).mono ?_; rintro e w1 ⟨rfl, hb1⟩)
    all_goals
      go_wp2
      go_ret
      exact ⟨rfl, (two_keep (two_start w _ _ _ _ _ _ _ _ _ _ _) hb1).2.2.1⟩
  · rw [hm] at cM
    rw [hn] at cN
    clear hm hn
    go_enter Try.func7, Try.ntmps7
    go_wp2_with fail
    go_region_with (first
        | (go_at_call 20; with_reducible refine (cM _).mono ?_; rintro e w1 ⟨rfl, hb1⟩; obtain ⟨⟨k1, k2, k3, k4, k5⟩, ⟨m1, m2, m3, m4, m5⟩, hbk, _, _⟩ := two_keep (two_start w _ _ _ _ _ _ _ _ _ _ _) hb1)
        | (go_at_call 20; with_reducible refine (cN _).mono ?_; rintro e w2 ⟨rfl, hb2⟩))
    all_goals
      go_wp2
      go_ret
      exact ⟨rfl, hbk.trans (hb2.mono hbk.size)⟩

theorem or3_cmpN (v u : Ver) : or3 (Lib.compareInt v.maj u.maj) (Lib.compareInt v.min u.min) (Lib.compareInt v.pat u.pat) = cmpN v u := rfl
/-- Compare, for all versions. -/
theorem vcompare_any (v u : Ver) (w : World) (h1 : v.pre.length ≤ 1000000) (h2 : v.build.length ≤ 1000000) (h3 : u.pre.length ≤ 1000000) (h4 : u.build.length ≤ 1000000) :
    Calls Try.prog 7 #[verV v, verV u] w fun e w' => e = .returned (.int .i64 (cmpR v u)) ∧ Below w.heap.size w w' := by
  cases hm : v.may with
  | false => rw [cmpR_bad (.inl hm)]; exact compare_bad v u w h1 h2 h3 h4 (.inl hm)
  | true =>
    cases hn : u.may with
    | false => rw [cmpR_bad (.inr hn)]; exact compare_bad v u w h1 h2 h3 h4 (.inr ⟨hm, hn⟩)
    | true =>
      by_cases hc : coreV v = coreV u
      · rw [cmpR_core hc]
        obtain ⟨a1, a2, a3, p, q⟩ := v
        obtain ⟨b1, b2, b3, p', q'⟩ := u
        unfold coreV at hc
        simp only [Ver.mk.injEq, and_true] at hc
        obtain ⟨rfl, rfl, rfl, rfl⟩ := hc
        exact compare_same a1 a2 a3 p q q' w h1 h2 h4 hm hn
      · rw [cmpR_go hm hn hc]
        obtain ⟨a1, a2, a3, p, q⟩ := v
        obtain ⟨b1, b2, b3, p', q'⟩ := u
        refine compare_diff a1 a2 a3 b1 b2 b3 p q p' q' w h1 h2 h3 h4 hm hn ?_ _ (or3_cmpN ⟨a1, a2, a3, p, q⟩ ⟨b1, b2, b3, p', q'⟩)
        by_cases g1 : a1 = b1
        · by_cases g2 : a2 = b2
          · by_cases g3 : a3 = b3
            · have g4 : p ≠ p' := fun e => hc (by unfold coreV; rw [g1, g2, g3, e])
              exact .inr (.inr (.inr ⟨by simpa using g1, by simpa using g2, by simpa using g3, mkS_ne g4⟩))
            · exact .inr (.inr (.inl ⟨by simpa using g1, by simpa using g2, by simpa using g3⟩))
          · exact .inr (.inl ⟨by simpa using g1, by simpa using g2⟩)
        · exact .inl (by simpa using g1)
end Go.Proofs.Ytgeccfdofmnphaa
end

section
/-
  The document's own answer for chapter 2 (linchpinref2): Numeric, tag, tags, num and May: the same plain functions as package version's. Conditions: strings of at most a million bytes.
-/
namespace Go.Proofs.Ytgeccfdofmnphaa
open Go.RowKit

theorem pcs_mem_len (s : List UInt8) : ∀ x ∈ pcs s, x.length ≤ s.length := by
  intro x hx
  have := split_le 46 s [] x hx
  simpa using this
theorem pcs_len (s : List UInt8) : (pcs s).length ≤ s.length + 1 := by
  unfold pcs; rw [split_len]
  have := List.length_filter_le (fun x : UInt8 => x == 46) s
  omega

/-- tags: at the flag pre. -/
def tagsB (s : List UInt8) (b : Bool) : Bool := s.isEmpty || (decide ((pcs s).length ≤ 4) && (pcs s).all fun t => tagOk t && !(b && numer t && !numI t))
theorem all_both {α : Type} (p q r : α → Bool) (h : ∀ x, r x = (p x && q x)) (l : List α) : l.all r = (l.all p && l.all q) := by
  induction l with
  | nil => rfl
  | cons a l ih =>
    rw [List.all_cons, List.all_cons, List.all_cons, ih, h]
    cases p a <;> cases q a <;> simp
theorem tagsB_pre (s : List UInt8) : tagsB s true = preOk s := by
  unfold tagsB preOk listOk preT
  cases s.isEmpty
  · simp only [Bool.false_or, Bool.true_and, Bool.and_assoc]
    congr 1
    refine all_both _ _ _ (fun t => ?_) _
    cases tagOk t <;> cases numer t <;> cases numI t <;> rfl
  · rfl
theorem tagsB_build (s : List UInt8) : tagsB s false = listOk s := by
  unfold tagsB listOk
  simp

def tagF (b : Bool) (t : List UInt8) : Bool := tagOk t && !(b && numer t && !numI t)
theorem tagsB_eq (s : List UInt8) (b : Bool) : tagsB s b = (s.isEmpty || (decide ((pcs s).length ≤ 4) && (pcs s).all (tagF b))) := rfl
theorem all_cut {l : List (List UInt8)} {p : List UInt8 → Bool} (k : Nat) (h : k < l.length) (hb : p l[k] = false) : l.all p = false := by
  rw [Bool.eq_false_iff]; intro e
  have := List.all_eq_true.1 e l[k] (List.getElem_mem h)
  rw [this] at hb; cases hb
theorem all_done {l : List (List UInt8)} {p : List UInt8 → Bool} (h : ∀ j (hj : j < l.length), p l[j] = true) : l.all p = true := by
  rw [List.all_eq_true]
  intro x hx
  obtain ⟨j, hj, rfl⟩ := List.getElem_of_mem hx
  exact h j hj

end Go.Proofs.Ytgeccfdofmnphaa
end

section
/-
  The document's own answer for chapter 2 (linchpinref2): Ints, Texts, one, pres, Compare and Core. Conditions: strings of at most a million bytes.
-/
namespace Go.Proofs.Ytgeccfdofmnphaa
open Go.RowKit

theorem below_drew2 {B : Nat} {a w : World} (h : Below B a w) : Below B a w.drew := h.drew
theorem less_cmp (a : List UInt8) : ∀ b, Op.bytesLess a b = decide (Lib.compareBytes a b = -1) := by
  induction a with
  | nil => intro b; cases b <;> simp [Op.bytesLess, Lib.compareBytes]
  | cons x l ih =>
    intro b
    cases b with
    | nil => simp [Op.bytesLess, Lib.compareBytes]
    | cons y m =>
      rw [Op.bytesLess, Lib.compareBytes, ih]
      by_cases h1 : x < y
      · simp [h1]
      · by_cases h2 : y < x
        · simp [h1, h2]
          intro e; subst e; exact absurd h2 h1
        · have e : x = y := UInt8.le_antisymm (UInt8.not_lt.1 h2) (UInt8.not_lt.1 h1)
          simp [e]
theorem cmpB_zero (a : List UInt8) : ∀ b, Lib.compareBytes a b = 0 ↔ a = b := by
  induction a with
  | nil => intro b; cases b <;> simp [Lib.compareBytes]
  | cons x l ih =>
    intro b
    cases b with
    | nil => simp [Lib.compareBytes]
    | cons y m =>
      rw [Lib.compareBytes]
      by_cases h1 : x < y
      · simp [h1]; intro e; subst e; exact absurd h1 (UInt8.lt_irrefl _)
      · by_cases h2 : y < x
        · simp [h1, h2]; intro e; subst e; exact absurd h2 (UInt8.lt_irrefl _)
        · have e : x = y := UInt8.le_antisymm (UInt8.not_lt.1 h2) (UInt8.not_lt.1 h1)
          simp [e, ih]
theorem cmpB_range (a : List UInt8) : ∀ b, Lib.compareBytes a b = -1 ∨ Lib.compareBytes a b = 0 ∨ Lib.compareBytes a b = 1 := by
  induction a with
  | nil => intro b; cases b <;> simp [Lib.compareBytes]
  | cons x l ih =>
    intro b
    cases b with
    | nil => simp [Lib.compareBytes]
    | cons y m =>
      rw [Lib.compareBytes]
      split
      · simp
      · split
        · simp
        · exact ih m
theorem presL_end (l m : List (List UInt8)) (k : Nat) (hl : k ≤ l.length) (hm : k ≤ m.length) (h : ¬ (k < l.length ∧ k < m.length)) : presL (l.drop k) (m.drop k) = Lib.compareInt l.length m.length := by
  unfold Lib.compareInt
  by_cases h1 : k < l.length
  · have h2 : ¬ k < m.length := fun h2 => h ⟨h1, h2⟩
    rw [List.drop_eq_nil_of_le (by omega : m.length ≤ k), List.drop_eq_getElem_cons h1, presL, if_neg (by omega), if_pos (by omega)]
  · by_cases h2 : k < m.length
    · rw [List.drop_eq_nil_of_le (by omega : l.length ≤ k), List.drop_eq_getElem_cons h2, presL, if_pos (by omega)]
    · rw [List.drop_eq_nil_of_le (by omega : m.length ≤ k), List.drop_eq_nil_of_le (by omega : l.length ≤ k), presL, if_neg (by omega), if_neg (by omega)]
theorem presL_on (l m : List (List UInt8)) (k : Nat) (h1 : k < l.length) (h2 : k < m.length) (h : oneR l[k] m[k] = 0) : presL (l.drop k) (m.drop k) = presL (l.drop (k + 1)) (m.drop (k + 1)) := by
  rw [List.drop_eq_getElem_cons h1, List.drop_eq_getElem_cons h2, presL, if_neg (by simpa using h)]
theorem presL_off (l m : List (List UInt8)) (k : Nat) (h1 : k < l.length) (h2 : k < m.length) (h : ¬ oneR l[k] m[k] = 0) : presL (l.drop k) (m.drop k) = oneR l[k] m[k] := by
  rw [List.drop_eq_getElem_cons h1, List.drop_eq_getElem_cons h2, presL, if_pos h]
theorem own_cells {w : World} {base : Nat} {v : Value} {l : List (List UInt8)} (h : w.ownsRow base 9 1 v l.length (strV l)) (hl : 0 < l.length) :
    ∃ g cap, v = .slice (some ⟨g, 0, none⟩) l.length cap ∧ g < w.heap.size ∧ ∀ j (hj : j < l.length), w.cell? ⟨g, j, none⟩ = some (.string (mkS l[j])) := by
  rcases h.2 with ⟨_, h0⟩ | ⟨g, cap, cur, hv, hg, hh, hn, _⟩
  · omega
  · refine ⟨g, cap, hv, (Array.getElem?_eq_some_iff.1 hh).1, fun j hj => ?_⟩
    have h := h.cells (g := g) (by rw [hv]; rfl) j (.string (mkS l[j])) (by unfold strV; rw [List.getElem?_map, List.getElem?_eq_getElem hj]; rfl)
    have ha : (⟨g, 0, none⟩ : Addr).add j = ⟨g, j, none⟩ := by unfold Addr.add; split <;> simp_all
    rwa [ha] at h
theorem pcs_pos (s : List UInt8) : 0 < (pcs s).length := by
  have := splitL_ne 46 s []
  cases h : pcs s with
  | nil => exact absurd h this
  | cons _ _ => simp

theorem cmpR_split (v u : Ver) : cmpR v u = if v.may && u.may then (if Lib.compareInt v.maj u.maj ≠ 0 then Lib.compareInt v.maj u.maj else if Lib.compareInt v.min u.min ≠ 0 then Lib.compareInt v.min u.min else if Lib.compareInt v.pat u.pat ≠ 0 then Lib.compareInt v.pat u.pat else presR v.pre u.pre) else 0 := by
  unfold cmpR cmpN
  by_cases h : (v.may && u.may) = true
  · rw [if_pos h, if_pos h]
    by_cases h1 : Lib.compareInt v.maj u.maj = 0
    · by_cases h2 : Lib.compareInt v.min u.min = 0
      · simp [h1, h2]
      · simp [h1, h2]
    · simp [h1]
  · rw [if_neg h, if_neg h]

end Go.Proofs.Ytgeccfdofmnphaa
end

section
/-
  Package cut and the document's own answer for chapter 3: May, Compare, Ahead, SpanMay, Holds of both: what they return for cuts and versions whose strings have at most a million bytes; nothing that was there is changed.
-/
namespace Go.Proofs.Ytgeccfdofmnphaa
open Go.RowKit
set_option maxRecDepth 100000
set_option linter.unusedVariables false
set_option linter.unusedSimpArgs false
set_option maxHeartbeats 2000000

def Cu.short (c : Cu) : Prop := c.v.pre.length ≤ 1000000 ∧ c.v.build.length ≤ 1000000
def Ver.short (v : Ver) : Prop := v.pre.length ≤ 1000000 ∧ v.build.length ≤ 1000000
def Sp.short (s : Sp) : Prop := s.lo.short ∧ s.hi.short
theorem pos_short {v : Ver} (h : v.short) : (Cu.mk 0 v false).short := h
theorem mayC_0 {c : Cu} (h : c.e = 0) : c.may = (c.v.may && c.v.build.isEmpty) := by unfold Cu.may; rw [if_pos h]
theorem mayC_1 {c : Cu} (h : c.e = -1 ∨ c.e = 1) : c.may = decide (c = ⟨c.e, Ver.zero, false⟩) := by
  unfold Cu.may
  rw [if_neg (by omega), decide_eq_true h]
  obtain ⟨e, v, a⟩ := c
  simp only [Cu.mk.injEq, Bool.true_and, true_and, Bool.decide_and]
  cases a <;> simp
theorem mayC_n {c : Cu} (h0 : ¬ c.e = 0) (h : ¬ (c.e = -1 ∨ c.e = 1)) : c.may = false := by
  unfold Cu.may; rw [if_neg h0, decide_eq_false h]; rfl

theorem less_any (a b : Cu) (W : World) (ha : a.short) (hb : b.short) : Calls Try.prog 70 #[cutV a, cutV b] W fun e w' => e = .returned (.bool (lessC a b)) ∧ Below W.heap.size W w' := by
  refine calls_ok (n := 31) Try.func70 rfl (by kernel_rfl) (by kernel_rfl) ?_
  refine ok_seq ?_
  refine ok_region ?_
  refine s_box (cutV a) (by kernel_rfl) rfl (by kernel_rfl) (fun b1 => ?_)
  refine s_box (cutV b) (by kernel_rfl) rfl (by kernel_rfl) (fun b2 => ?_)
  refine s_val (.bool false) (by kernel_rfl) (fun _ => by kernel_rfl) ?_
  refine s_nil ?_
  refine fin_seq ?_
  refine ok_seq ?_
  refine ok_seq ?_
  refine ok_region ?_
  refine s_val (.pointer (some ⟨b1, 0, none⟩)) (by kernel_rfl) (fun _ => by kernel_rfl) ?_
  refine s_load 1 ⟨b1, (cutV a).cells, 47⟩ (off := 0) (.int .i64 a.e) (by kernel_rfl) rfl (by kernel_rfl) (by kernel_rfl) (by kernel_rfl) ?_
  refine s_val (.pointer (some ⟨b2, 0, none⟩)) (by kernel_rfl) (fun _ => by kernel_rfl) ?_
  refine s_load 0 ⟨b2, (cutV b).cells, 47⟩ (off := 0) (.int .i64 b.e) (by kernel_rfl) rfl (by kernel_rfl) (by kernel_rfl) (by kernel_rfl) ?_
  by_cases h1 : (a.e : Int) = b.e
  · skip
    refine s_ndec (p := (a.e : Int) = b.e) true (by kernel_rfl) (fun _ => by kernel_rfl) (decide_eq_true (h1)) ?_
    refine s_nil ?_
    refine fin_seq ?_
    refine ok_false (by kernel_rfl) ?_
    refine ok_skip ?_
    refine fin_seq ?_
    refine ok_seq ?_
    refine ok_seq ?_
    refine ok_region ?_
    refine s_val (.pointer (some ⟨b1, 1, none⟩)) (by kernel_rfl) (fun _ => by kernel_rfl) ?_
    refine s_load 1 ⟨b1, (cutV a).cells, 47⟩ (off := 1) (.agg #[.int .i64 a.v.maj, .int .i64 a.v.min, .int .i64 a.v.pat, .string (mkS a.v.pre), .string (mkS a.v.build)]) (by kernel_rfl) rfl (by kernel_rfl) (by kernel_rfl) (by kernel_rfl) ?_
    refine s_val (.pointer (some ⟨b2, 1, none⟩)) (by kernel_rfl) (fun _ => by kernel_rfl) ?_
    refine s_load 0 ⟨b2, (cutV b).cells, 47⟩ (off := 1) (.agg #[.int .i64 b.v.maj, .int .i64 b.v.min, .int .i64 b.v.pat, .string (mkS b.v.pre), .string (mkS b.v.build)]) (by kernel_rfl) rfl (by kernel_rfl) (by kernel_rfl) (by kernel_rfl) ?_
    refine s_call (k := 7) (args := #[.agg #[.int .i64 a.v.maj, .int .i64 a.v.min, .int .i64 a.v.pat, .string (mkS a.v.pre), .string (mkS a.v.build)], .agg #[.int .i64 b.v.maj, .int .i64 b.v.min, .int .i64 b.v.pat, .string (mkS b.v.pre), .string (mkS b.v.build)]]) (.int .i64 (cmpR a.v b.v)) (by kernel_rfl) (fun _ => by kernel_rfl) (fun w _ => vcompare_any a.v b.v w ha.1 ha.2 hb.1 hb.2) ?_
    refine s_nil ?_
    refine fin_seq ?_
    refine ok_block ?_
    refine ok_seq ?_
    refine ok_region ?_
    by_cases h2 : (cmpR a.v b.v : Int) = -1
    · skip
      refine s_dec (p := (cmpR a.v b.v : Int) = -1) true (by kernel_rfl) (fun _ => by kernel_rfl) (decide_eq_true (h2)) ?_
      refine s_val (.bool true) (by kernel_rfl) (fun _ => by kernel_rfl) ?_
      refine s_nil ?_
      refine fin_seq ?_
      refine ok_true (by kernel_rfl) ?_
      refine ok_seq ?_
      refine ok_region ?_
      refine s_val (.bool true) (by kernel_rfl) (fun _ => by kernel_rfl) ?_
      refine s_nil ?_
      refine fin_seq ?_
      refine ok_ret ?_
      refine fin_block_ret ?_
      refine fin_seq_ret ?_
      refine fin_ret (.bool true) Try.results70 (by kernel_rfl) ?_
      exact fun w hO => ⟨by rw [show lessC a b = true from by unfold lessC; simp [h1, h2]], hO.below⟩
    · skip
      refine s_dec (p := (cmpR a.v b.v : Int) = -1) false (by kernel_rfl) (fun _ => by kernel_rfl) (decide_eq_false (h2)) ?_
      refine s_val (.bool false) (by kernel_rfl) (fun _ => by kernel_rfl) ?_
      refine s_nil ?_
      refine fin_seq ?_
      refine ok_false (by kernel_rfl) ?_
      refine ok_seq ?_
      refine ok_region ?_
      by_cases h3 : (cmpR a.v b.v : Int) = 1
      · skip
        refine s_dec (p := (cmpR a.v b.v : Int) = 1) true (by kernel_rfl) (fun _ => by kernel_rfl) (decide_eq_true (h3)) ?_
        refine s_val (.bool true) (by kernel_rfl) (fun _ => by kernel_rfl) ?_
        refine s_nil ?_
        refine fin_seq ?_
        refine ok_true (by kernel_rfl) ?_
        refine ok_seq ?_
        refine ok_region ?_
        refine s_val (.bool false) (by kernel_rfl) (fun _ => by kernel_rfl) ?_
        refine s_nil ?_
        refine fin_seq ?_
        refine ok_ret ?_
        refine fin_block_ret ?_
        refine fin_seq_ret ?_
        refine fin_ret (.bool false) Try.results70 (by kernel_rfl) ?_
        exact fun w hO => ⟨by rw [show lessC a b = false from by unfold lessC; simp [h1, h2, h3]], hO.below⟩
      · skip
        refine s_dec (p := (cmpR a.v b.v : Int) = 1) false (by kernel_rfl) (fun _ => by kernel_rfl) (decide_eq_false (h3)) ?_
        refine s_val (.bool false) (by kernel_rfl) (fun _ => by kernel_rfl) ?_
        refine s_nil ?_
        refine fin_seq ?_
        refine ok_false (by kernel_rfl) ?_
        refine ok_skip ?_
        refine fin_block ?_
        refine fin_seq ?_
        refine ok_seq ?_
        refine ok_region ?_
        refine s_val (.pointer (some ⟨b1, 6, none⟩)) (by kernel_rfl) (fun _ => by kernel_rfl) ?_
        refine s_load 1 ⟨b1, (cutV a).cells, 47⟩ (off := 6) (.bool a.aft) (by kernel_rfl) rfl (by kernel_rfl) (by kernel_rfl) (by kernel_rfl) ?_
        cases h4 : a.aft with
        | true =>
          refine s_val (.bool false) (by kernel_rfl) (fun _ => by kernel_rfl) ?_
          refine s_val (.bool false) (by kernel_rfl) (fun _ => by kernel_rfl) ?_
          refine s_skip (by kernel_rfl) ?_
          refine s_skip (by kernel_rfl) ?_
          refine s_val (.bool false) (by kernel_rfl) (fun _ => by kernel_rfl) ?_
          refine s_val (.bool false) (by kernel_rfl) (fun _ => by kernel_rfl) ?_
          refine s_nil ?_
          refine fin_seq ?_
          refine ok_ret ?_
          refine fin_ret (.bool false) Try.results70 (by kernel_rfl) ?_
          exact fun w hO => ⟨by rw [show lessC a b = false from by unfold lessC; simp [h1, h2, h3, h4]], hO.below⟩
        | false =>
          refine s_val (.bool true) (by kernel_rfl) (fun _ => by kernel_rfl) ?_
          refine s_val (.bool true) (by kernel_rfl) (fun _ => by kernel_rfl) ?_
          refine s_val (.pointer (some ⟨b2, 6, none⟩)) (by kernel_rfl) (fun _ => by kernel_rfl) ?_
          refine s_load 0 ⟨b2, (cutV b).cells, 47⟩ (off := 6) (.bool b.aft) (by kernel_rfl) rfl (by kernel_rfl) (by kernel_rfl) (by kernel_rfl) ?_
          refine s_val (.bool b.aft) (by kernel_rfl) (fun _ => by kernel_rfl) ?_
          refine s_val (.bool b.aft) (by kernel_rfl) (fun _ => by kernel_rfl) ?_
          refine s_nil ?_
          refine fin_seq ?_
          refine ok_ret ?_
          refine fin_ret (.bool b.aft) Try.results70 (by kernel_rfl) ?_
          exact fun w hO => ⟨by rw [show lessC a b = b.aft from by unfold lessC; simp [h1, h2, h3, h4]], hO.below⟩
  · skip
    refine s_ndec (p := (a.e : Int) = b.e) false (by kernel_rfl) (fun _ => by kernel_rfl) (decide_eq_false (h1)) ?_
    refine s_nil ?_
    refine fin_seq ?_
    refine ok_true (by kernel_rfl) ?_
    refine ok_seq ?_
    refine ok_region ?_
    refine s_val (.pointer (some ⟨b1, 0, none⟩)) (by kernel_rfl) (fun _ => by kernel_rfl) ?_
    refine s_load 1 ⟨b1, (cutV a).cells, 47⟩ (off := 0) (.int .i64 a.e) (by kernel_rfl) rfl (by kernel_rfl) (by kernel_rfl) (by kernel_rfl) ?_
    refine s_val (.pointer (some ⟨b2, 0, none⟩)) (by kernel_rfl) (fun _ => by kernel_rfl) ?_
    refine s_load 0 ⟨b2, (cutV b).cells, 47⟩ (off := 0) (.int .i64 b.e) (by kernel_rfl) rfl (by kernel_rfl) (by kernel_rfl) (by kernel_rfl) ?_
    by_cases h5 : (a.e : Int) < b.e
    · skip
      refine s_dec (p := (a.e : Int) < b.e) true (by kernel_rfl) (fun _ => by kernel_rfl) (decide_eq_true (h5)) ?_
      refine s_val (.bool true) (by kernel_rfl) (fun _ => by kernel_rfl) ?_
      refine s_nil ?_
      refine fin_seq ?_
      refine ok_ret ?_
      refine fin_seq_ret ?_
      refine fin_ret (.bool true) Try.results70 (by kernel_rfl) ?_
      exact fun w hO => ⟨by rw [show lessC a b = true from by unfold lessC; simp [h1, h5]], hO.below⟩
    · skip
      refine s_dec (p := (a.e : Int) < b.e) false (by kernel_rfl) (fun _ => by kernel_rfl) (decide_eq_false (h5)) ?_
      refine s_val (.bool false) (by kernel_rfl) (fun _ => by kernel_rfl) ?_
      refine s_nil ?_
      refine fin_seq ?_
      refine ok_ret ?_
      refine fin_seq_ret ?_
      refine fin_ret (.bool false) Try.results70 (by kernel_rfl) ?_
      exact fun w hO => ⟨by rw [show lessC a b = false from by unfold lessC; simp [h1, h5]], hO.below⟩
theorem mayC_any (c : Cu) (W : World) (hc : c.short) : Calls Try.prog 69 #[cutV c] W fun e w' => e = .returned (.bool c.may) ∧ Below W.heap.size W w' := by
  refine calls_ok (n := 24) Try.func69 rfl (by kernel_rfl) (by kernel_rfl) ?_
  refine ok_seq ?_
  refine ok_region ?_
  refine s_box (cutV c) (by kernel_rfl) rfl (by kernel_rfl) (fun b1 => ?_)
  refine s_val (.bool false) (by kernel_rfl) (fun _ => by kernel_rfl) ?_
  refine s_nil ?_
  refine fin_seq ?_
  refine ok_seq ?_
  refine ok_seq ?_
  refine ok_region ?_
  refine s_val (.pointer (some ⟨b1, 0, none⟩)) (by kernel_rfl) (fun _ => by kernel_rfl) ?_
  refine s_load 0 ⟨b1, (cutV c).cells, 47⟩ (off := 0) (.int .i64 c.e) (by kernel_rfl) rfl (by kernel_rfl) (by kernel_rfl) (by kernel_rfl) ?_
  refine s_nil ?_
  refine fin_seq ?_
  refine ok_block ?_
  refine ok_seq ?_
  refine ok_seq ?_
  refine ok_region ?_
  by_cases h1 : (c.e : Int) = -1
  · skip
    refine s_dec (p := (c.e : Int) = -1) true (by kernel_rfl) (fun _ => by kernel_rfl) (decide_eq_true (h1)) ?_
    refine s_val (.bool true) (by kernel_rfl) (fun _ => by kernel_rfl) ?_
    refine s_nil ?_
    refine fin_seq ?_
    refine ok_true (by kernel_rfl) ?_
    refine ok_skip ?_
    refine fin_seq ?_
    refine ok_true (by kernel_rfl) ?_
    refine ok_seq ?_
    refine ok_region ?_
    refine s_load 0 ⟨b1, (cutV c).cells, 47⟩ (off := 0) (cutV c) (by kernel_rfl) rfl (by kernel_rfl) (by kernel_rfl) (by kernel_rfl) ?_
    refine s_val (.pointer (some ⟨b1, 0, none⟩)) (by kernel_rfl) (fun _ => by kernel_rfl) ?_
    refine s_load 0 ⟨b1, (cutV c).cells, 47⟩ (off := 0) (.int .i64 c.e) (by kernel_rfl) rfl (by kernel_rfl) (by kernel_rfl) (by kernel_rfl) ?_
    refine s_val (.agg #[.int .i64 c.e, .int .i64 0, .int .i64 0, .int .i64 0, .string ⟨#[]⟩, .string ⟨#[]⟩, .bool false]) (by kernel_rfl) (fun _ => by kernel_rfl) ?_
    by_cases h2 : c = ⟨c.e, Ver.zero, false⟩
    · skip
      refine s_val (.bool true) (by kernel_rfl) (op_eq_cut rfl (by kernel_rfl) (by kernel_rfl) (decide_eq_true (h2))) ?_
      refine s_val (.bool true) (by kernel_rfl) (fun _ => by kernel_rfl) ?_
      refine s_nil ?_
      refine fin_seq ?_
      refine ok_ret ?_
      refine fin_block_ret ?_
      refine fin_seq_ret ?_
      refine fin_ret (.bool true) Try.results69 (by kernel_rfl) ?_
      exact fun w hO => ⟨by rw [show c.may = true from by first | exact (mayC_1 (by omega)).trans (decide_eq_true (by assumption)) | exact (mayC_1 (by omega)).trans (decide_eq_false (by assumption)) | (rw [mayC_0 (by omega)]; simp [h1, h2]) | (rw [mayC_n (by omega) (by omega)])], hO.below⟩
    · skip
      refine s_val (.bool false) (by kernel_rfl) (op_eq_cut rfl (by kernel_rfl) (by kernel_rfl) (decide_eq_false (h2))) ?_
      refine s_val (.bool false) (by kernel_rfl) (fun _ => by kernel_rfl) ?_
      refine s_nil ?_
      refine fin_seq ?_
      refine ok_ret ?_
      refine fin_block_ret ?_
      refine fin_seq_ret ?_
      refine fin_ret (.bool false) Try.results69 (by kernel_rfl) ?_
      exact fun w hO => ⟨by rw [show c.may = false from by first | exact (mayC_1 (by omega)).trans (decide_eq_true (by assumption)) | exact (mayC_1 (by omega)).trans (decide_eq_false (by assumption)) | (rw [mayC_0 (by omega)]; simp [h1, h2]) | (rw [mayC_n (by omega) (by omega)])], hO.below⟩
  · skip
    refine s_dec (p := (c.e : Int) = -1) false (by kernel_rfl) (fun _ => by kernel_rfl) (decide_eq_false (h1)) ?_
    refine s_val (.bool false) (by kernel_rfl) (fun _ => by kernel_rfl) ?_
    refine s_nil ?_
    refine fin_seq ?_
    refine ok_false (by kernel_rfl) ?_
    refine ok_region ?_
    by_cases h3 : (c.e : Int) = 1
    · skip
      refine s_dec (p := (c.e : Int) = 1) true (by kernel_rfl) (fun _ => by kernel_rfl) (decide_eq_true (h3)) ?_
      refine s_val (.bool true) (by kernel_rfl) (fun _ => by kernel_rfl) ?_
      refine s_nil ?_
      refine fin_seq ?_
      refine ok_true (by kernel_rfl) ?_
      refine ok_seq ?_
      refine ok_region ?_
      refine s_load 0 ⟨b1, (cutV c).cells, 47⟩ (off := 0) (cutV c) (by kernel_rfl) rfl (by kernel_rfl) (by kernel_rfl) (by kernel_rfl) ?_
      refine s_val (.pointer (some ⟨b1, 0, none⟩)) (by kernel_rfl) (fun _ => by kernel_rfl) ?_
      refine s_load 0 ⟨b1, (cutV c).cells, 47⟩ (off := 0) (.int .i64 c.e) (by kernel_rfl) rfl (by kernel_rfl) (by kernel_rfl) (by kernel_rfl) ?_
      refine s_val (.agg #[.int .i64 c.e, .int .i64 0, .int .i64 0, .int .i64 0, .string ⟨#[]⟩, .string ⟨#[]⟩, .bool false]) (by kernel_rfl) (fun _ => by kernel_rfl) ?_
      by_cases h4 : c = ⟨c.e, Ver.zero, false⟩
      · skip
        refine s_val (.bool true) (by kernel_rfl) (op_eq_cut rfl (by kernel_rfl) (by kernel_rfl) (decide_eq_true (h4))) ?_
        refine s_val (.bool true) (by kernel_rfl) (fun _ => by kernel_rfl) ?_
        refine s_nil ?_
        refine fin_seq ?_
        refine ok_ret ?_
        refine fin_block_ret ?_
        refine fin_seq_ret ?_
        refine fin_ret (.bool true) Try.results69 (by kernel_rfl) ?_
        exact fun w hO => ⟨by rw [show c.may = true from by first | exact (mayC_1 (by omega)).trans (decide_eq_true (by assumption)) | exact (mayC_1 (by omega)).trans (decide_eq_false (by assumption)) | (rw [mayC_0 (by omega)]; simp [h1, h3, h4]) | (rw [mayC_n (by omega) (by omega)])], hO.below⟩
      · skip
        refine s_val (.bool false) (by kernel_rfl) (op_eq_cut rfl (by kernel_rfl) (by kernel_rfl) (decide_eq_false (h4))) ?_
        refine s_val (.bool false) (by kernel_rfl) (fun _ => by kernel_rfl) ?_
        refine s_nil ?_
        refine fin_seq ?_
        refine ok_ret ?_
        refine fin_block_ret ?_
        refine fin_seq_ret ?_
        refine fin_ret (.bool false) Try.results69 (by kernel_rfl) ?_
        exact fun w hO => ⟨by rw [show c.may = false from by first | exact (mayC_1 (by omega)).trans (decide_eq_true (by assumption)) | exact (mayC_1 (by omega)).trans (decide_eq_false (by assumption)) | (rw [mayC_0 (by omega)]; simp [h1, h3, h4]) | (rw [mayC_n (by omega) (by omega)])], hO.below⟩
    · skip
      refine s_dec (p := (c.e : Int) = 1) false (by kernel_rfl) (fun _ => by kernel_rfl) (decide_eq_false (h3)) ?_
      refine s_val (.bool false) (by kernel_rfl) (fun _ => by kernel_rfl) ?_
      refine s_nil ?_
      refine fin_seq ?_
      refine ok_false (by kernel_rfl) ?_
      refine ok_seq ?_
      refine ok_region ?_
      by_cases h5 : (c.e : Int) = 0
      · skip
        refine s_dec (p := (c.e : Int) = 0) true (by kernel_rfl) (fun _ => by kernel_rfl) (decide_eq_true (h5)) ?_
        refine s_val (.bool true) (by kernel_rfl) (fun _ => by kernel_rfl) ?_
        refine s_nil ?_
        refine fin_seq ?_
        refine ok_true (by kernel_rfl) ?_
        refine ok_seq ?_
        refine ok_region ?_
        refine s_val (.pointer (some ⟨b1, 1, none⟩)) (by kernel_rfl) (fun _ => by kernel_rfl) ?_
        refine s_val (.pointer (some ⟨b1, 5, none⟩)) (by kernel_rfl) (fun _ => by kernel_rfl) ?_
        refine s_load 0 ⟨b1, (cutV c).cells, 47⟩ (off := 5) (.string (mkS c.v.build)) (by kernel_rfl) rfl (by kernel_rfl) (by kernel_rfl) (by kernel_rfl) ?_
        by_cases h6 : (c.v.build : List UInt8) = []
        · skip
          refine s_val (.bool true) (by kernel_rfl) (run_streql (a := c.v.build) (b := ([])) rfl (by kernel_rfl) (by kernel_rfl) (decide_eq_true (h6))) ?_
          refine s_val (.bool true) (by kernel_rfl) (fun _ => by kernel_rfl) ?_
          refine s_val (.pointer (some ⟨b1, 1, none⟩)) (by kernel_rfl) (fun _ => by kernel_rfl) ?_
          refine s_load 0 ⟨b1, (cutV c).cells, 47⟩ (off := 1) (.agg #[.int .i64 c.v.maj, .int .i64 c.v.min, .int .i64 c.v.pat, .string (mkS c.v.pre), .string (mkS c.v.build)]) (by kernel_rfl) rfl (by kernel_rfl) (by kernel_rfl) (by kernel_rfl) ?_
          refine s_call (k := 20) (args := #[.agg #[.int .i64 c.v.maj, .int .i64 c.v.min, .int .i64 c.v.pat, .string (mkS c.v.pre), .string (mkS c.v.build)]]) (.bool c.v.may) (by kernel_rfl) (fun _ => by kernel_rfl) (fun w _ => may_any c.v w (Nat.lt_of_le_of_lt hc.1 (by decide)) (Nat.lt_of_le_of_lt hc.2 (by decide))) ?_
          refine s_val (.bool c.v.may) (by kernel_rfl) (fun _ => by kernel_rfl) ?_
          refine s_val (.bool c.v.may) (by kernel_rfl) (fun _ => by kernel_rfl) ?_
          refine s_nil ?_
          refine fin_seq ?_
          refine ok_ret ?_
          refine fin_block_ret ?_
          refine fin_seq_ret ?_
          refine fin_ret (.bool c.v.may) Try.results69 (by kernel_rfl) ?_
          exact fun w hO => ⟨by rw [show c.may = c.v.may from by first | exact (mayC_1 (by omega)).trans (decide_eq_true (by assumption)) | exact (mayC_1 (by omega)).trans (decide_eq_false (by assumption)) | (rw [mayC_0 (by omega)]; simp [h1, h3, h5, h6]) | (rw [mayC_n (by omega) (by omega)])], hO.below⟩
        · skip
          refine s_val (.bool false) (by kernel_rfl) (run_streql (a := c.v.build) (b := ([])) rfl (by kernel_rfl) (by kernel_rfl) (decide_eq_false (h6))) ?_
          refine s_val (.bool false) (by kernel_rfl) (fun _ => by kernel_rfl) ?_
          refine s_skip (by kernel_rfl) ?_
          refine s_skip (by kernel_rfl) ?_
          refine s_skip (by kernel_rfl) ?_
          refine s_val (.bool false) (by kernel_rfl) (fun _ => by kernel_rfl) ?_
          refine s_val (.bool false) (by kernel_rfl) (fun _ => by kernel_rfl) ?_
          refine s_nil ?_
          refine fin_seq ?_
          refine ok_ret ?_
          refine fin_block_ret ?_
          refine fin_seq_ret ?_
          refine fin_ret (.bool false) Try.results69 (by kernel_rfl) ?_
          exact fun w hO => ⟨by rw [show c.may = false from by first | exact (mayC_1 (by omega)).trans (decide_eq_true (by assumption)) | exact (mayC_1 (by omega)).trans (decide_eq_false (by assumption)) | (rw [mayC_0 (by omega)]; simp [h1, h3, h5, h6]) | (rw [mayC_n (by omega) (by omega)])], hO.below⟩
      · skip
        refine s_dec (p := (c.e : Int) = 0) false (by kernel_rfl) (fun _ => by kernel_rfl) (decide_eq_false (h5)) ?_
        refine s_val (.bool false) (by kernel_rfl) (fun _ => by kernel_rfl) ?_
        refine s_nil ?_
        refine fin_seq ?_
        refine ok_false (by kernel_rfl) ?_
        refine ok_skip ?_
        refine fin_block ?_
        refine fin_seq ?_
        refine ok_seq ?_
        refine ok_region ?_
        refine s_val (.bool false) (by kernel_rfl) (fun _ => by kernel_rfl) ?_
        refine s_nil ?_
        refine fin_seq ?_
        refine ok_ret ?_
        refine fin_ret (.bool false) Try.results69 (by kernel_rfl) ?_
        exact fun w hO => ⟨by rw [show c.may = false from by first | exact (mayC_1 (by omega)).trans (decide_eq_true (by assumption)) | exact (mayC_1 (by omega)).trans (decide_eq_false (by assumption)) | (rw [mayC_0 (by omega)]; simp [h1, h3, h5]) | (rw [mayC_n (by omega) (by omega)])], hO.below⟩
theorem cmpC_any (a b : Cu) (W : World) (ha : a.short) (hb : b.short) : Calls Try.prog 51 #[cutV a, cutV b] W fun e w' => e = .returned (.int .i64 (cmpC a b)) ∧ Below W.heap.size W w' := by
  refine calls_ok (n := 22) Try.func51 rfl (by kernel_rfl) (by kernel_rfl) ?_
  refine ok_seq ?_
  refine ok_region ?_
  refine s_box (cutV a) (by kernel_rfl) rfl (by kernel_rfl) (fun b1 => ?_)
  refine s_box (cutV b) (by kernel_rfl) rfl (by kernel_rfl) (fun b2 => ?_)
  refine s_val (.int .i64 0) (by kernel_rfl) (fun _ => by kernel_rfl) ?_
  refine s_nil ?_
  refine fin_seq ?_
  refine ok_seq ?_
  refine ok_block ?_
  refine ok_seq ?_
  refine ok_region ?_
  refine s_load 1 ⟨b1, (cutV a).cells, 47⟩ (off := 0) (cutV a) (by kernel_rfl) rfl (by kernel_rfl) (by kernel_rfl) (by kernel_rfl) ?_
  refine s_call (k := 69) (args := #[cutV a]) (.bool a.may) (by kernel_rfl) (fun _ => by kernel_rfl) (fun w _ => mayC_any a w ha) ?_
  cases h1 : a.may with
  | true =>
    refine s_val (.bool false) (by kernel_rfl) (fun _ => by kernel_rfl) ?_
    refine s_val (.bool false) (by kernel_rfl) (fun _ => by kernel_rfl) ?_
    refine s_load 0 ⟨b2, (cutV b).cells, 47⟩ (off := 0) (cutV b) (by kernel_rfl) rfl (by kernel_rfl) (by kernel_rfl) (by kernel_rfl) ?_
    refine s_call (k := 69) (args := #[cutV b]) (.bool b.may) (by kernel_rfl) (fun _ => by kernel_rfl) (fun w _ => mayC_any b w hb) ?_
    cases h2 : b.may with
    | true =>
      refine s_val (.bool false) (by kernel_rfl) (fun _ => by kernel_rfl) ?_
      refine s_val (.bool false) (by kernel_rfl) (fun _ => by kernel_rfl) ?_
      refine s_val (.bool false) (by kernel_rfl) (fun _ => by kernel_rfl) ?_
      refine s_nil ?_
      refine fin_seq ?_
      refine ok_false (by kernel_rfl) ?_
      refine ok_seq ?_
      refine ok_region ?_
      refine s_load 1 ⟨b1, (cutV a).cells, 47⟩ (off := 0) (cutV a) (by kernel_rfl) rfl (by kernel_rfl) (by kernel_rfl) (by kernel_rfl) ?_
      refine s_load 0 ⟨b2, (cutV b).cells, 47⟩ (off := 0) (cutV b) (by kernel_rfl) rfl (by kernel_rfl) (by kernel_rfl) (by kernel_rfl) ?_
      refine s_call (k := 70) (args := #[cutV a, cutV b]) (.bool (lessC a b)) (by kernel_rfl) (fun _ => by kernel_rfl) (fun w _ => less_any a b w ha hb) ?_
      refine s_val (.bool (lessC a b)) (by kernel_rfl) (fun _ => by kernel_rfl) ?_
      refine s_nil ?_
      refine fin_seq ?_
      cases h3 : lessC a b with
      | true =>
        refine ok_true (by kernel_rfl) ?_
        refine ok_seq ?_
        refine ok_region ?_
        refine s_val (.int .i64 (-1)) (by kernel_rfl) (fun _ => by kernel_rfl) ?_
        refine s_nil ?_
        refine fin_seq ?_
        refine ok_ret ?_
        refine fin_block_ret ?_
        refine fin_seq_ret ?_
        refine fin_ret (.int .i64 (-1)) Try.results51 (by kernel_rfl) ?_
        exact fun w hO => ⟨by rw [show cmpC a b = (-1) from by first | (rw [less_cmpC (by assumption) (by assumption)]; simp [h1, h2, h3]) | (exact cmpC_bad (.inl (by assumption))) | (exact cmpC_bad (.inr (by assumption)))], hO.below⟩
      | false =>
        refine ok_false (by kernel_rfl) ?_
        refine ok_seq ?_
        refine ok_region ?_
        refine s_load 0 ⟨b2, (cutV b).cells, 47⟩ (off := 0) (cutV b) (by kernel_rfl) rfl (by kernel_rfl) (by kernel_rfl) (by kernel_rfl) ?_
        refine s_load 1 ⟨b1, (cutV a).cells, 47⟩ (off := 0) (cutV a) (by kernel_rfl) rfl (by kernel_rfl) (by kernel_rfl) (by kernel_rfl) ?_
        refine s_call (k := 70) (args := #[cutV b, cutV a]) (.bool (lessC b a)) (by kernel_rfl) (fun _ => by kernel_rfl) (fun w _ => less_any b a w hb ha) ?_
        refine s_val (.bool (lessC b a)) (by kernel_rfl) (fun _ => by kernel_rfl) ?_
        refine s_nil ?_
        refine fin_seq ?_
        cases h4 : lessC b a with
        | true =>
          refine ok_true (by kernel_rfl) ?_
          refine ok_seq ?_
          refine ok_region ?_
          refine s_val (.int .i64 1) (by kernel_rfl) (fun _ => by kernel_rfl) ?_
          refine s_nil ?_
          refine fin_seq ?_
          refine ok_ret ?_
          refine fin_block_ret ?_
          refine fin_seq_ret ?_
          refine fin_ret (.int .i64 1) Try.results51 (by kernel_rfl) ?_
          exact fun w hO => ⟨by rw [show cmpC a b = 1 from by first | (rw [less_cmpC (by assumption) (by assumption)]; simp [h1, h2, h3, h4]) | (exact cmpC_bad (.inl (by assumption))) | (exact cmpC_bad (.inr (by assumption)))], hO.below⟩
        | false =>
          refine ok_false (by kernel_rfl) ?_
          refine ok_skip ?_
          refine fin_block ?_
          refine fin_seq ?_
          refine ok_seq ?_
          refine ok_region ?_
          refine s_val (.int .i64 0) (by kernel_rfl) (fun _ => by kernel_rfl) ?_
          refine s_nil ?_
          refine fin_seq ?_
          refine ok_ret ?_
          refine fin_ret (.int .i64 0) Try.results51 (by kernel_rfl) ?_
          exact fun w hO => ⟨by rw [show cmpC a b = 0 from by first | (rw [less_cmpC (by assumption) (by assumption)]; simp [h1, h2, h3, h4]) | (exact cmpC_bad (.inl (by assumption))) | (exact cmpC_bad (.inr (by assumption)))], hO.below⟩
    | false =>
      refine s_val (.bool true) (by kernel_rfl) (fun _ => by kernel_rfl) ?_
      refine s_val (.bool true) (by kernel_rfl) (fun _ => by kernel_rfl) ?_
      refine s_val (.bool true) (by kernel_rfl) (fun _ => by kernel_rfl) ?_
      refine s_nil ?_
      refine fin_seq ?_
      refine ok_true (by kernel_rfl) ?_
      refine ok_seq ?_
      refine ok_region ?_
      refine s_val (.int .i64 0) (by kernel_rfl) (fun _ => by kernel_rfl) ?_
      refine s_nil ?_
      refine fin_seq ?_
      refine ok_ret ?_
      refine fin_block_ret ?_
      refine fin_seq_ret ?_
      refine fin_ret (.int .i64 0) Try.results51 (by kernel_rfl) ?_
      exact fun w hO => ⟨by rw [show cmpC a b = 0 from by first | (rw [less_cmpC (by assumption) (by assumption)]; simp [h1, h2]) | (exact cmpC_bad (.inl (by assumption))) | (exact cmpC_bad (.inr (by assumption)))], hO.below⟩
  | false =>
    refine s_val (.bool true) (by kernel_rfl) (fun _ => by kernel_rfl) ?_
    refine s_val (.bool true) (by kernel_rfl) (fun _ => by kernel_rfl) ?_
    refine s_skip (by kernel_rfl) ?_
    refine s_skip (by kernel_rfl) ?_
    refine s_skip (by kernel_rfl) ?_
    refine s_val (.bool true) (by kernel_rfl) (fun _ => by kernel_rfl) ?_
    refine s_val (.bool true) (by kernel_rfl) (fun _ => by kernel_rfl) ?_
    refine s_nil ?_
    refine fin_seq ?_
    refine ok_true (by kernel_rfl) ?_
    refine ok_seq ?_
    refine ok_region ?_
    refine s_val (.int .i64 0) (by kernel_rfl) (fun _ => by kernel_rfl) ?_
    refine s_nil ?_
    refine fin_seq ?_
    refine ok_ret ?_
    refine fin_block_ret ?_
    refine fin_seq_ret ?_
    refine fin_ret (.int .i64 0) Try.results51 (by kernel_rfl) ?_
    exact fun w hO => ⟨by rw [show cmpC a b = 0 from by first | (rw [less_cmpC (by assumption) (by assumption)]; simp [h1]) | (exact cmpC_bad (.inl (by assumption))) | (exact cmpC_bad (.inr (by assumption)))], hO.below⟩
theorem rcmpC_eq {a b : Cu} {r : Int} (ha : a.may = true) (hb : b.may = true) (h : (if a.e ≠ b.e ∨ a.e ≠ 0 then Lib.compareInt a.e b.e else if cmpR a.v b.v ≠ 0 then cmpR a.v b.v else if a.aft = b.aft then 0 else if b.aft then -1 else 1) = r) : cmpC a b = r := by
  rw [← h, cmpC_good ha hb]
  by_cases he : a.e = b.e
  · rw [he, compareInt_self, lex_0]
    by_cases h0 : b.e = 0
    · rw [if_neg (by omega)]
      unfold lex
      by_cases hc : cmpR a.v b.v = 0
      · rw [if_pos hc, if_neg (by simpa using hc)]
        cases a.aft <;> cases b.aft <;> rfl
      · rw [if_neg hc, if_pos hc]
    · rw [if_pos (.inr h0)]
      have e1 : a.v = Ver.zero ∧ a.aft = false := (may_e ha).elim (fun x => absurd (he ▸ x.1) h0) (fun x => x.2)
      have e2 : b.v = Ver.zero ∧ b.aft = false := (may_e hb).elim (fun x => absurd x.1 h0) (fun x => x.2)
      rw [e1.1, e1.2, e2.1, e2.2, order_self]; rfl
  · rw [if_pos (.inl he)]
    rcases Int.lt_or_gt_of_ne he with h | h
    · rw [ci_lt h]; rfl
    · rw [ci_gt h]; rfl
theorem aheadC_any (c : Cu) (v : Ver) (W : World) (hc : c.short) (hv : v.short) : Calls Try.prog 71 #[cutV c, verV v] W fun e w' => e = .returned (.bool (aheadC c v)) ∧ Below W.heap.size W w' := by
  refine calls_ok (n := 18) Try.func71 rfl (by kernel_rfl) (by kernel_rfl) ?_
  refine ok_seq ?_
  refine ok_region ?_
  refine s_box (cutV c) (by kernel_rfl) rfl (by kernel_rfl) (fun b1 => ?_)
  refine s_box (verV v) (by kernel_rfl) rfl (by kernel_rfl) (fun b2 => ?_)
  refine s_val (.bool false) (by kernel_rfl) (fun _ => by kernel_rfl) ?_
  refine s_nil ?_
  refine fin_seq ?_
  refine ok_seq ?_
  refine ok_region ?_
  refine s_load 1 ⟨b1, (cutV c).cells, 47⟩ (off := 0) (cutV c) (by kernel_rfl) rfl (by kernel_rfl) (by kernel_rfl) (by kernel_rfl) ?_
  refine s_call (k := 69) (args := #[cutV c]) (.bool c.may) (by kernel_rfl) (fun _ => by kernel_rfl) (fun w _ => mayC_any c w hc) ?_
  refine s_val (.bool c.may) (by kernel_rfl) (fun _ => by kernel_rfl) ?_
  cases h1 : c.may with
  | true =>
    refine s_load 0 ⟨b2, (verV v).cells, 24⟩ (off := 0) (verV v) (by kernel_rfl) rfl (by kernel_rfl) (by kernel_rfl) (by kernel_rfl) ?_
    refine s_call (k := 20) (args := #[verV v]) (.bool v.may) (by kernel_rfl) (fun _ => by kernel_rfl) (fun w _ => may_any v w (Nat.lt_of_le_of_lt hv.1 (by decide)) (Nat.lt_of_le_of_lt hv.2 (by decide))) ?_
    refine s_val (.bool v.may) (by kernel_rfl) (fun _ => by kernel_rfl) ?_
    refine s_val (.bool v.may) (by kernel_rfl) (fun _ => by kernel_rfl) ?_
    cases h2 : v.may with
    | true =>
      refine s_load 0 ⟨b2, (verV v).cells, 24⟩ (off := 0) (verV v) (by kernel_rfl) rfl (by kernel_rfl) (by kernel_rfl) (by kernel_rfl) ?_
      refine s_val (.agg #[.int .i64 0, .int .i64 v.maj, .int .i64 v.min, .int .i64 v.pat, .string (mkS v.pre), .string (mkS v.build), .bool false]) (by kernel_rfl) (fun _ => by kernel_rfl) ?_
      refine s_load 1 ⟨b1, (cutV c).cells, 47⟩ (off := 0) (cutV c) (by kernel_rfl) rfl (by kernel_rfl) (by kernel_rfl) (by kernel_rfl) ?_
      refine s_call (k := 70) (args := #[.agg #[.int .i64 0, .int .i64 v.maj, .int .i64 v.min, .int .i64 v.pat, .string (mkS v.pre), .string (mkS v.build), .bool false], cutV c]) (.bool (lessC ⟨0, v, false⟩ c)) (by kernel_rfl) (fun _ => by kernel_rfl) (fun w _ => less_any ⟨0, v, false⟩ c w hv hc) ?_
      cases h3 : lessC ⟨0, v, false⟩ c with
      | true =>
        refine s_val (.bool false) (by kernel_rfl) (fun _ => by kernel_rfl) ?_
        refine s_val (.bool false) (by kernel_rfl) (fun _ => by kernel_rfl) ?_
        refine s_val (.bool false) (by kernel_rfl) (fun _ => by kernel_rfl) ?_
        refine s_nil ?_
        refine fin_seq ?_
        refine ok_ret ?_
        refine fin_ret (.bool false) Try.results71 (by kernel_rfl) ?_
        exact fun w hO => ⟨by rw [show aheadC c v = false from by rw [ahead_less]; simp [h1, h2, h3]], hO.below⟩
      | false =>
        refine s_val (.bool true) (by kernel_rfl) (fun _ => by kernel_rfl) ?_
        refine s_val (.bool true) (by kernel_rfl) (fun _ => by kernel_rfl) ?_
        refine s_val (.bool true) (by kernel_rfl) (fun _ => by kernel_rfl) ?_
        refine s_nil ?_
        refine fin_seq ?_
        refine ok_ret ?_
        refine fin_ret (.bool true) Try.results71 (by kernel_rfl) ?_
        exact fun w hO => ⟨by rw [show aheadC c v = true from by rw [ahead_less]; simp [h1, h2, h3]], hO.below⟩
    | false =>
      refine s_skip (by kernel_rfl) ?_
      refine s_skip (by kernel_rfl) ?_
      refine s_skip (by kernel_rfl) ?_
      refine s_skip (by kernel_rfl) ?_
      refine s_skip (by kernel_rfl) ?_
      refine s_val (.bool false) (by kernel_rfl) (fun _ => by kernel_rfl) ?_
      refine s_val (.bool false) (by kernel_rfl) (fun _ => by kernel_rfl) ?_
      refine s_nil ?_
      refine fin_seq ?_
      refine ok_ret ?_
      refine fin_ret (.bool false) Try.results71 (by kernel_rfl) ?_
      exact fun w hO => ⟨by rw [show aheadC c v = false from by rw [ahead_less]; simp [h1, h2]], hO.below⟩
  | false =>
    refine s_skip (by kernel_rfl) ?_
    refine s_skip (by kernel_rfl) ?_
    refine s_val (.bool false) (by kernel_rfl) (fun _ => by kernel_rfl) ?_
    refine s_val (.bool false) (by kernel_rfl) (fun _ => by kernel_rfl) ?_
    refine s_skip (by kernel_rfl) ?_
    refine s_skip (by kernel_rfl) ?_
    refine s_skip (by kernel_rfl) ?_
    refine s_skip (by kernel_rfl) ?_
    refine s_skip (by kernel_rfl) ?_
    refine s_val (.bool false) (by kernel_rfl) (fun _ => by kernel_rfl) ?_
    refine s_val (.bool false) (by kernel_rfl) (fun _ => by kernel_rfl) ?_
    refine s_nil ?_
    refine fin_seq ?_
    refine ok_ret ?_
    refine fin_ret (.bool false) Try.results71 (by kernel_rfl) ?_
    exact fun w hO => ⟨by rw [show aheadC c v = false from by rw [ahead_less]; simp [h1]], hO.below⟩
theorem spanMay_any (s : Sp) (W : World) (hs : s.short) : Calls Try.prog 46 #[spanV s] W fun e w' => e = .returned (.bool s.may) ∧ Below W.heap.size W w' := by
  refine calls_ok (n := 9) Try.func46 rfl (by kernel_rfl) (by kernel_rfl) ?_
  refine ok_seq ?_
  refine ok_region ?_
  refine s_box (spanV s) (by kernel_rfl) rfl (by kernel_rfl) (fun b1 => ?_)
  refine s_val (.bool false) (by kernel_rfl) (fun _ => by kernel_rfl) ?_
  refine s_nil ?_
  refine fin_seq ?_
  refine ok_seq ?_
  refine ok_region ?_
  refine s_val (.pointer (some ⟨b1, 0, none⟩)) (by kernel_rfl) (fun _ => by kernel_rfl) ?_
  refine s_load 0 ⟨b1, (spanV s).cells, 49⟩ (off := 0) (.agg #[.int .i64 s.lo.e, .int .i64 s.lo.v.maj, .int .i64 s.lo.v.min, .int .i64 s.lo.v.pat, .string (mkS s.lo.v.pre), .string (mkS s.lo.v.build), .bool s.lo.aft]) (by kernel_rfl) rfl (by kernel_rfl) (by kernel_rfl) (by kernel_rfl) ?_
  refine s_val (.pointer (some ⟨b1, 7, none⟩)) (by kernel_rfl) (fun _ => by kernel_rfl) ?_
  refine s_load 0 ⟨b1, (spanV s).cells, 49⟩ (off := 7) (.agg #[.int .i64 s.hi.e, .int .i64 s.hi.v.maj, .int .i64 s.hi.v.min, .int .i64 s.hi.v.pat, .string (mkS s.hi.v.pre), .string (mkS s.hi.v.build), .bool s.hi.aft]) (by kernel_rfl) rfl (by kernel_rfl) (by kernel_rfl) (by kernel_rfl) ?_
  refine s_call (k := 51) (args := #[.agg #[.int .i64 s.lo.e, .int .i64 s.lo.v.maj, .int .i64 s.lo.v.min, .int .i64 s.lo.v.pat, .string (mkS s.lo.v.pre), .string (mkS s.lo.v.build), .bool s.lo.aft], .agg #[.int .i64 s.hi.e, .int .i64 s.hi.v.maj, .int .i64 s.hi.v.min, .int .i64 s.hi.v.pat, .string (mkS s.hi.v.pre), .string (mkS s.hi.v.build), .bool s.hi.aft]]) (.int .i64 (cmpC s.lo s.hi)) (by kernel_rfl) (fun _ => by kernel_rfl) (fun w _ => cmpC_any s.lo s.hi w hs.1 hs.2) ?_
  by_cases h1 : (cmpC s.lo s.hi : Int) = -1
  · skip
    refine s_dec (p := (cmpC s.lo s.hi : Int) = -1) true (by kernel_rfl) (fun _ => by kernel_rfl) (decide_eq_true (h1)) ?_
    refine s_val (.bool true) (by kernel_rfl) (fun _ => by kernel_rfl) ?_
    refine s_nil ?_
    refine fin_seq ?_
    refine ok_ret ?_
    refine fin_ret (.bool true) Try.results46 (by kernel_rfl) ?_
    exact fun w hO => ⟨by rw [show s.may = true from by unfold Sp.may; simp [h1]], hO.below⟩
  · skip
    refine s_dec (p := (cmpC s.lo s.hi : Int) = -1) false (by kernel_rfl) (fun _ => by kernel_rfl) (decide_eq_false (h1)) ?_
    refine s_val (.bool false) (by kernel_rfl) (fun _ => by kernel_rfl) ?_
    refine s_nil ?_
    refine fin_seq ?_
    refine ok_ret ?_
    refine fin_ret (.bool false) Try.results46 (by kernel_rfl) ?_
    exact fun w hO => ⟨by rw [show s.may = false from by unfold Sp.may; simp [h1]], hO.below⟩
theorem holdsC_any (s : Sp) (v : Ver) (W : World) (hs : s.short) (hv : v.short) : Calls Try.prog 54 #[spanV s, verV v] W fun e w' => e = .returned (.bool (holdsC s v)) ∧ Below W.heap.size W w' := by
  refine calls_ok (n := 20) Try.func54 rfl (by kernel_rfl) (by kernel_rfl) ?_
  refine ok_seq ?_
  refine ok_region ?_
  refine s_box (spanV s) (by kernel_rfl) rfl (by kernel_rfl) (fun b1 => ?_)
  refine s_box (verV v) (by kernel_rfl) rfl (by kernel_rfl) (fun b2 => ?_)
  refine s_val (.bool false) (by kernel_rfl) (fun _ => by kernel_rfl) ?_
  refine s_nil ?_
  refine fin_seq ?_
  refine ok_seq ?_
  refine ok_region ?_
  refine s_load 1 ⟨b1, (spanV s).cells, 49⟩ (off := 0) (spanV s) (by kernel_rfl) rfl (by kernel_rfl) (by kernel_rfl) (by kernel_rfl) ?_
  refine s_call (k := 46) (args := #[spanV s]) (.bool s.may) (by kernel_rfl) (fun _ => by kernel_rfl) (fun w _ => spanMay_any s w hs) ?_
  refine s_val (.bool s.may) (by kernel_rfl) (fun _ => by kernel_rfl) ?_
  cases h1 : s.may with
  | true =>
    refine s_val (.pointer (some ⟨b1, 0, none⟩)) (by kernel_rfl) (fun _ => by kernel_rfl) ?_
    refine s_load 1 ⟨b1, (spanV s).cells, 49⟩ (off := 0) (.agg #[.int .i64 s.lo.e, .int .i64 s.lo.v.maj, .int .i64 s.lo.v.min, .int .i64 s.lo.v.pat, .string (mkS s.lo.v.pre), .string (mkS s.lo.v.build), .bool s.lo.aft]) (by kernel_rfl) rfl (by kernel_rfl) (by kernel_rfl) (by kernel_rfl) ?_
    refine s_load 0 ⟨b2, (verV v).cells, 24⟩ (off := 0) (verV v) (by kernel_rfl) rfl (by kernel_rfl) (by kernel_rfl) (by kernel_rfl) ?_
    refine s_call (k := 71) (args := #[.agg #[.int .i64 s.lo.e, .int .i64 s.lo.v.maj, .int .i64 s.lo.v.min, .int .i64 s.lo.v.pat, .string (mkS s.lo.v.pre), .string (mkS s.lo.v.build), .bool s.lo.aft], verV v]) (.bool (aheadC s.lo v)) (by kernel_rfl) (fun _ => by kernel_rfl) (fun w _ => aheadC_any s.lo v w hs.1 hv) ?_
    refine s_val (.bool (aheadC s.lo v)) (by kernel_rfl) (fun _ => by kernel_rfl) ?_
    refine s_val (.bool (aheadC s.lo v)) (by kernel_rfl) (fun _ => by kernel_rfl) ?_
    cases h2 : aheadC s.lo v with
    | true =>
      refine s_val (.pointer (some ⟨b1, 7, none⟩)) (by kernel_rfl) (fun _ => by kernel_rfl) ?_
      refine s_load 1 ⟨b1, (spanV s).cells, 49⟩ (off := 7) (.agg #[.int .i64 s.hi.e, .int .i64 s.hi.v.maj, .int .i64 s.hi.v.min, .int .i64 s.hi.v.pat, .string (mkS s.hi.v.pre), .string (mkS s.hi.v.build), .bool s.hi.aft]) (by kernel_rfl) rfl (by kernel_rfl) (by kernel_rfl) (by kernel_rfl) ?_
      refine s_load 0 ⟨b2, (verV v).cells, 24⟩ (off := 0) (verV v) (by kernel_rfl) rfl (by kernel_rfl) (by kernel_rfl) (by kernel_rfl) ?_
      refine s_call (k := 71) (args := #[.agg #[.int .i64 s.hi.e, .int .i64 s.hi.v.maj, .int .i64 s.hi.v.min, .int .i64 s.hi.v.pat, .string (mkS s.hi.v.pre), .string (mkS s.hi.v.build), .bool s.hi.aft], verV v]) (.bool (aheadC s.hi v)) (by kernel_rfl) (fun _ => by kernel_rfl) (fun w _ => aheadC_any s.hi v w hs.2 hv) ?_
      cases h3 : aheadC s.hi v with
      | true =>
        refine s_val (.bool false) (by kernel_rfl) (fun _ => by kernel_rfl) ?_
        refine s_val (.bool false) (by kernel_rfl) (fun _ => by kernel_rfl) ?_
        refine s_val (.bool false) (by kernel_rfl) (fun _ => by kernel_rfl) ?_
        refine s_nil ?_
        refine fin_seq ?_
        refine ok_ret ?_
        refine fin_ret (.bool false) Try.results54 (by kernel_rfl) ?_
        exact fun w hO => ⟨by rw [show holdsC s v = false from by unfold holdsC; simp [h1, h2, h3]], hO.below⟩
      | false =>
        refine s_val (.bool true) (by kernel_rfl) (fun _ => by kernel_rfl) ?_
        refine s_val (.bool true) (by kernel_rfl) (fun _ => by kernel_rfl) ?_
        refine s_val (.bool true) (by kernel_rfl) (fun _ => by kernel_rfl) ?_
        refine s_nil ?_
        refine fin_seq ?_
        refine ok_ret ?_
        refine fin_ret (.bool true) Try.results54 (by kernel_rfl) ?_
        exact fun w hO => ⟨by rw [show holdsC s v = true from by unfold holdsC; simp [h1, h2, h3]], hO.below⟩
    | false =>
      refine s_skip (by kernel_rfl) ?_
      refine s_skip (by kernel_rfl) ?_
      refine s_skip (by kernel_rfl) ?_
      refine s_skip (by kernel_rfl) ?_
      refine s_skip (by kernel_rfl) ?_
      refine s_val (.bool false) (by kernel_rfl) (fun _ => by kernel_rfl) ?_
      refine s_val (.bool false) (by kernel_rfl) (fun _ => by kernel_rfl) ?_
      refine s_nil ?_
      refine fin_seq ?_
      refine ok_ret ?_
      refine fin_ret (.bool false) Try.results54 (by kernel_rfl) ?_
      exact fun w hO => ⟨by rw [show holdsC s v = false from by unfold holdsC; simp [h1, h2]], hO.below⟩
  | false =>
    refine s_skip (by kernel_rfl) ?_
    refine s_skip (by kernel_rfl) ?_
    refine s_skip (by kernel_rfl) ?_
    refine s_skip (by kernel_rfl) ?_
    refine s_val (.bool false) (by kernel_rfl) (fun _ => by kernel_rfl) ?_
    refine s_val (.bool false) (by kernel_rfl) (fun _ => by kernel_rfl) ?_
    refine s_skip (by kernel_rfl) ?_
    refine s_skip (by kernel_rfl) ?_
    refine s_skip (by kernel_rfl) ?_
    refine s_skip (by kernel_rfl) ?_
    refine s_skip (by kernel_rfl) ?_
    refine s_val (.bool false) (by kernel_rfl) (fun _ => by kernel_rfl) ?_
    refine s_val (.bool false) (by kernel_rfl) (fun _ => by kernel_rfl) ?_
    refine s_nil ?_
    refine fin_seq ?_
    refine ok_ret ?_
    refine fin_ret (.bool false) Try.results54 (by kernel_rfl) ?_
    exact fun w hO => ⟨by rw [show holdsC s v = false from by unfold holdsC; simp [h1]], hO.below⟩
end Go.Proofs.Ytgeccfdofmnphaa
end

section
/-
  Plain mathematics for chapter 4: rows of spans; what a row holds, cut by cut; a valid row is what it holds; the row that stretches between rising cuts come to.
-/
namespace Go.Proofs.Ytgeccfdofmnphaa
open Go.RowKit
set_option linter.unusedVariables false
set_option linter.unusedSimpArgs false

/-! ### The order of valid cuts -/
theorem cle_trans {a b c : Cu} (ha : a.may = true) (hb : b.may = true) (hc : c.may = true) (h1 : cmpC a b ≤ 0) (h2 : cmpC b c ≤ 0) : cmpC a c ≤ 0 := (cut_on ha hb hc h1 h2).1
theorem cle_lt {a b c : Cu} (ha : a.may = true) (hb : b.may = true) (hc : c.may = true) (h1 : cmpC a b ≤ 0) (h2 : cmpC b c < 0) : cmpC a c < 0 := by
  have h := cut_on ha hb hc h1 (by omega)
  rcases Int.lt_or_eq_of_le h.1 with h3 | h3
  · exact h3
  · have := (h.2 h3).2; omega
theorem clt_le {a b c : Cu} (ha : a.may = true) (hb : b.may = true) (hc : c.may = true) (h1 : cmpC a b < 0) (h2 : cmpC b c ≤ 0) : cmpC a c < 0 := by
  have h := cut_on ha hb hc (by omega) h2
  rcases Int.lt_or_eq_of_le h.1 with h3 | h3
  · exact h3
  · have := (h.2 h3).1; omega
theorem clt_trans {a b c : Cu} (ha : a.may = true) (hb : b.may = true) (hc : c.may = true) (h1 : cmpC a b < 0) (h2 : cmpC b c < 0) : cmpC a c < 0 := cle_lt ha hb hc (by omega) h2
theorem clt_flip {a b : Cu} (h : ¬ cmpC a b ≤ 0) : cmpC b a < 0 := by have := cut_anti (a := a) (b := b); omega
theorem cle_flip {a b : Cu} (h : ¬ cmpC a b < 0) : cmpC b a ≤ 0 := by have := cut_anti (a := a) (b := b); omega
theorem cut_self (a : Cu) : cmpC a a = 0 := by have := cut_anti (a := a) (b := a); omega
theorem clt_not {a b : Cu} (h : cmpC a b < 0) : ¬ cmpC b a ≤ 0 := by have := cut_anti (a := a) (b := b); omega

/-! ### Rows -/
def rowMay : List Sp → Bool
  | [] => true
  | [s] => s.may
  | s :: t :: r => s.may && decide (cmpC s.hi t.lo < 0) && rowMay (t :: r)
def inSp (s : Sp) (c : Cu) : Bool := decide (cmpC s.lo c ≤ 0) && decide (cmpC c s.hi < 0)
def den (l : List Sp) (c : Cu) : Bool := l.any (inSp · c)
def rowHas (l : List Sp) (v : Ver) : Bool := rowMay l && l.any (holdsC · v)
theorem row_head {s : Sp} {l : List Sp} (h : rowMay (s :: l) = true) : s.may = true := by
  cases l with
  | nil => exact h
  | cons t r => unfold rowMay at h; simp only [Bool.and_eq_true] at h; exact h.1.1
theorem row_tail {s : Sp} {l : List Sp} (h : rowMay (s :: l) = true) : rowMay l = true := by
  cases l with
  | nil => rfl
  | cons t r => unfold rowMay at h; simp only [Bool.and_eq_true] at h; exact h.2
theorem row_mem {l : List Sp} (h : rowMay l = true) : ∀ s ∈ l, s.may = true := by
  induction l with
  | nil => simp
  | cons s l ih =>
    intro t ht
    rcases List.mem_cons.1 ht with rfl | ht
    · exact row_head h
    · exact ih (row_tail h) t ht
theorem sp_lt {s : Sp} (h : s.may = true) : cmpC s.lo s.hi < 0 := by unfold Sp.may at h; rw [decide_eq_true_eq] at h; omega
/-- Every later span begins behind the first one's end. -/
theorem row_after {s : Sp} {l : List Sp} (h : rowMay (s :: l) = true) : ∀ t ∈ l, cmpC s.hi t.lo < 0 := by
  induction l generalizing s with
  | nil => simp
  | cons u l ih =>
    intro t ht
    have hu := row_tail h
    have h1 : cmpC s.hi u.lo < 0 := by
      unfold rowMay at h; simp only [Bool.and_eq_true, decide_eq_true_eq] at h; exact h.1.2
    rcases List.mem_cons.1 ht with rfl | ht'
    · exact h1
    · have h2 := ih hu t ht'
      have ms := span_mays (row_head h)
      have mu := span_mays (row_head hu)
      have mt := span_mays (row_mem (row_tail hu) t ht')
      exact clt_trans ms.2 mu.1 mt.1 h1 (clt_trans mu.1 mu.2 mt.1 (sp_lt (row_head hu)) h2)
theorem holds_in {s : Sp} {v : Ver} (hs : s.may = true) (hv : v.may = true) : holdsC s v = inSp s (posC v) := by
  obtain ⟨h1, h2⟩ := span_mays hs
  unfold holdsC inSp
  rw [hs, ahead_pos h1 hv, ahead_pos h2 hv, Bool.true_and]
  congr 1
  have := cut_anti (a := s.hi) (b := posC v)
  by_cases h : cmpC s.hi (posC v) ≤ 0
  · rw [decide_eq_true h, decide_eq_false (by omega)]; rfl
  · rw [decide_eq_false h, decide_eq_true (by omega)]; rfl
theorem has_den {l : List Sp} {v : Ver} (hl : rowMay l = true) (hv : v.may = true) : rowHas l v = den l (posC v) := by
  unfold rowHas den
  rw [hl, Bool.true_and]
  have hm := row_mem hl
  clear hl
  induction l with
  | nil => rfl
  | cons s l ih =>
    rw [List.any_cons, List.any_cons, holds_in (hm s (by simp)) hv, ih (fun t ht => hm t (by simp [ht]))]
theorem den_before {l : List Sp} {c : Cu} (h : ∀ t ∈ l, cmpC c t.lo < 0) : den l c = false := by
  unfold den
  rw [List.any_eq_false]
  intro t ht
  unfold inSp
  have := clt_not (h t ht)
  simp [this]
/-- A valid row is what it holds. -/
theorem row_ext : ∀ (l m : List Sp), rowMay l = true → rowMay m = true → (∀ c : Cu, c.may = true → cmpC c (endC 1) < 0 → den l c = den m c) → l = m := by
  have key : ∀ (s : Sp) (l m : List Sp), rowMay (s :: l) = true → rowMay m = true → (∀ c : Cu, c.may = true → cmpC c (endC 1) < 0 → den (s :: l) c = den m c) → ∃ t r, m = t :: r ∧ cmpC t.lo s.lo ≤ 0 := by
    intro s l m hl hm h
    have ms := span_mays (row_head hl)
    have hd : den (s :: l) s.lo = true := by
      unfold den; rw [List.any_cons]
      have : inSp s s.lo = true := by unfold inSp; rw [cut_self, decide_eq_true (sp_lt (row_head hl))]; rfl
      rw [this]; rfl
    rw [h s.lo ms.1 (clt_le ms.1 ms.2 last_may (sp_lt (row_head hl)) (le_last ms.2))] at hd
    cases m with
    | nil => cases hd
    | cons t r =>
      refine ⟨t, r, rfl, ?_⟩
      rcases Int.lt_or_le 0 (cmpC t.lo s.lo) with h2 | h2
      · exfalso
        have hlt : cmpC s.lo t.lo < 0 := by have := cut_anti (a := t.lo) (b := s.lo); omega
        have mt := span_mays (row_head hm)
        rw [den_before (fun u hu => by
          rcases List.mem_cons.1 hu with rfl | hu
          · exact hlt
          · have mu := span_mays (row_mem (row_tail hm) u hu)
            exact clt_trans ms.1 mt.1 mu.1 hlt (clt_trans mt.1 mt.2 mu.1 (sp_lt (row_head hm)) (row_after hm u hu)))] at hd
        cases hd
      · exact h2
  intro l
  induction l with
  | nil =>
    intro m _ hm h
    cases m with
    | nil => rfl
    | cons t r =>
      obtain ⟨_, _, e, _⟩ := key t r [] hm rfl (fun c h1 h2 => (h c h1 h2).symm)
      cases e
  | cons s l ih =>
    intro m hl hm h
    obtain ⟨t, r, rfl, h1⟩ := key s l m hl hm h
    obtain ⟨_, _, e, h2⟩ := key t r (s :: l) hm hl (fun c a b => (h c a b).symm)
    cases e
    have ms := span_mays (row_head hl)
    have mt := span_mays (row_head hm)
    have elo : s.lo = t.lo := (cut_eq ms.1 mt.1).1 (by have := cut_anti (a := s.lo) (b := t.lo); omega)
    have part : ∀ (s t : Sp) (l r : List Sp), rowMay (s :: l) = true → rowMay (t :: r) = true → (∀ c : Cu, c.may = true → cmpC c (endC 1) < 0 → den (s :: l) c = den (t :: r) c) → s.lo = t.lo → ¬ cmpC s.hi t.hi < 0 := by
      intro s t l r hl hm h elo hlt
      have ms := span_mays (row_head hl)
      have mt := span_mays (row_head hm)
      have e := h s.hi ms.2 (clt_le ms.2 mt.2 last_may hlt (le_last mt.2))
      have e1 : den (s :: l) s.hi = false := by
        unfold den; rw [List.any_cons]
        have : inSp s s.hi = false := by unfold inSp; rw [cut_self]; simp
        rw [this, Bool.false_or]
        exact den_before (fun u hu => row_after hl u hu)
      have e2 : den (t :: r) s.hi = true := by
        unfold den; rw [List.any_cons]
        have : inSp t s.hi = true := by
          unfold inSp
          have hs := sp_lt (row_head hl)
          rw [← elo, decide_eq_true (by omega), decide_eq_true hlt]; rfl
        rw [this]; rfl
      rw [e1, e2] at e; cases e
    have n1 := part s t l r hl hm h elo
    have n2 := part t s r l hm hl (fun c a b => (h c a b).symm) elo.symm
    have ehi : s.hi = t.hi := (cut_eq ms.2 mt.2).1 (by have := cut_anti (a := s.hi) (b := t.hi); omega)
    have est : s = t := by cases s; cases t; dsimp only at elo ehi; rw [elo, ehi]
    subst est
    rw [ih r (row_tail hl) (row_tail hm) (fun c hc hcl => ?_)]
    by_cases hb : cmpC c s.hi < 0
    · rw [den_before (fun u hu => clt_trans hc ms.2 (span_mays (row_mem (row_tail hl) u hu)).1 hb (row_after hl u hu)), den_before (fun u hu => clt_trans hc ms.2 (span_mays (row_mem (row_tail hm) u hu)).1 hb (row_after hm u hu))]
    · have := h c hc hcl
      unfold den at this ⊢
      rw [List.any_cons, List.any_cons] at this
      have hf : inSp s c = false := by unfold inSp; rw [decide_eq_false hb, Bool.and_false]
      rw [hf, Bool.false_or, Bool.false_or] at this
      exact this

/-! ### A row out of stretches between rising cuts -/
def growL (l : List Sp) (c d : Cu) : List Sp :=
  match l.getLast? with
  | some s => if cmpC s.hi c = 0 then l.dropLast ++ [⟨s.lo, d⟩] else l ++ [⟨c, d⟩]
  | none => [⟨c, d⟩]
def buildL (p : Cu → Cu → Bool) : List Sp → List Cu → List Sp
  | out, c :: d :: r => buildL p (if p c d then growL out c d else out) (d :: r)
  | out, _ => out
theorem row_snoc {l : List Sp} {t : Sp} (hl : rowMay l = true) (ht : t.may = true) (h : ∀ s ∈ l.getLast?, cmpC s.hi t.lo < 0) : rowMay (l ++ [t]) = true := by
  induction l with
  | nil => exact ht
  | cons s l ih =>
    cases l with
    | nil =>
      show rowMay [s, t] = true
      unfold rowMay
      rw [row_head hl, decide_eq_true (h s (by simp)), show rowMay [t] = true from ht]; rfl
    | cons u r =>
      have h2 := ih (row_tail hl) (fun x hx => h x (by simpa using hx))
      show rowMay (s :: u :: (r ++ [t])) = true
      unfold rowMay
      rw [show u :: (r ++ [t]) = (u :: r) ++ [t] from rfl, h2, row_head hl]
      have h3 : cmpC s.hi u.lo < 0 := row_after hl u (by simp)
      rw [decide_eq_true h3]; rfl
theorem row_init {l : List Sp} {s : Sp} (h : rowMay (l ++ [s]) = true) : rowMay l = true ∧ ∀ x ∈ l.getLast?, cmpC x.hi s.lo < 0 := by
  induction l with
  | nil => exact ⟨rfl, by simp⟩
  | cons u l ih =>
    obtain ⟨h1, h2⟩ := ih (row_tail h)
    cases l with
    | nil =>
      refine ⟨row_head h, fun x hx => ?_⟩
      obtain rfl : u = x := by simpa using hx
      exact row_after h s (by simp)
    | cons v r =>
      refine ⟨?_, fun x hx => h2 x (by simpa using hx)⟩
      unfold rowMay
      rw [row_head h, decide_eq_true (row_after h v (by simp)), h1]; rfl
theorem den_app (l m : List Sp) (c : Cu) : den (l ++ m) c = (den l c || den m c) := by unfold den; rw [List.any_append]
theorem last_split {l : List Sp} {s : Sp} (h : l.getLast? = some s) : l = l.dropLast ++ [s] := by
  obtain ⟨l', rfl⟩ := List.getLast?_eq_some_iff.1 h
  simp
/-- One stretch more: valid, its end is the new one's, and it holds the stretch besides. -/
theorem grow_ok {l : List Sp} {c d : Cu} (hl : rowMay l = true) (hc : c.may = true) (hd : d.may = true) (hcd : cmpC c d < 0) (h : ∀ s ∈ l.getLast?, cmpC s.hi c ≤ 0) :
    rowMay (growL l c d) = true ∧ (∀ s ∈ (growL l c d).getLast?, cmpC s.hi d ≤ 0) ∧ ∀ x : Cu, x.may = true → den (growL l c d) x = (den l x || inSp ⟨c, d⟩ x) := by
  have hm : (Sp.mk c d).may = true := by
    unfold Sp.may; rw [decide_eq_true_eq]; rcases cmpC_range c d with e | e | e <;> omega
  unfold growL
  cases hg : l.getLast? with
  | none =>
    have : l = [] := by simpa using hg
    subst this
    refine ⟨hm, fun s hs => ?_, fun x _ => by simp [den]⟩
    obtain rfl : s = ⟨c, d⟩ := by simpa using hs.symm
    rw [cut_self]; omega
  | some s =>
    dsimp only
    have hsl := last_split hg
    have hs : s.may = true := row_mem hl s (List.mem_of_getLast? hg)
    have ms := span_mays hs
    by_cases h0 : cmpC s.hi c = 0
    · rw [if_pos h0]
      have ehc : s.hi = c := (cut_eq ms.2 hc).1 h0
      have hl2 := hl
      rw [hsl] at hl2
      obtain ⟨h1, h2⟩ := row_init hl2
      have hlt : cmpC s.lo d < 0 := clt_trans ms.1 hc hd (ehc ▸ sp_lt hs) hcd
      have hm2 : (Sp.mk s.lo d).may = true := by
        unfold Sp.may; rw [decide_eq_true_eq]; rcases cmpC_range s.lo d with e | e | e <;> omega
      refine ⟨row_snoc h1 hm2 h2, fun t ht => ?_, fun x hx => ?_⟩
      · obtain rfl : t = ⟨s.lo, d⟩ := by simpa using ht.symm
        rw [cut_self]; omega
      · rw [den_app]
        have e : den l x = (den l.dropLast x || den [s] x) := by rw [← den_app, ← hsl]
        rw [e, Bool.or_assoc]
        congr 1
        show (inSp ⟨s.lo, d⟩ x || false) = ((inSp s x || false) || inSp ⟨c, d⟩ x)
        rw [Bool.or_false, Bool.or_false]
        unfold inSp
        rw [ehc]
        dsimp only
        by_cases hxc : cmpC x c < 0
        · rw [decide_eq_true hxc, decide_eq_true (clt_trans hx hc hd hxc hcd), decide_eq_false (clt_not hxc)]
          simp
        · have hcx := cle_flip hxc
          rw [decide_eq_false hxc, decide_eq_true hcx, decide_eq_true (cle_trans ms.1 hc hx (by have := ehc ▸ sp_lt hs; omega) hcx)]
          simp
    · rw [if_neg h0]
      have hlt : cmpC s.hi c < 0 := by have := h s hg; omega
      refine ⟨row_snoc hl hm (fun t ht => by
        rw [hg] at ht
        obtain rfl : s = t := by simpa using ht
        exact hlt), fun t ht => ?_, fun x _ => ?_⟩
      · obtain rfl : t = ⟨c, d⟩ := by simpa using ht.symm
        rw [cut_self]; omega
      · rw [den_app]; congr 1; show (inSp ⟨c, d⟩ x || false) = _; rw [Bool.or_false]
/-- The stretch that a cut stands in. -/
def pick (p : Cu → Cu → Bool) (x : Cu) : List Cu → Bool
  | c :: d :: r => (p c d && inSp ⟨c, d⟩ x) || pick p x (d :: r)
  | _ => false
def Rise : List Cu → Prop
  | c :: d :: r => c.may = true ∧ cmpC c d < 0 ∧ Rise (d :: r)
  | [c] => c.may = true
  | [] => True
theorem build_ok (p : Cu → Cu → Bool) : ∀ (cs : List Cu) (out : List Sp), Rise cs → rowMay out = true → (∀ s ∈ out.getLast?, ∀ c ∈ cs.head?, cmpC s.hi c ≤ 0) →
    rowMay (buildL p out cs) = true ∧ ∀ x : Cu, x.may = true → den (buildL p out cs) x = (den out x || pick p x cs) := by
  intro cs
  induction cs with
  | nil => intro out _ h _; exact ⟨h, fun x _ => by unfold buildL pick; rw [Bool.or_false]⟩
  | cons c r ih =>
    intro out hr ho hlast
    cases r with
    | nil => exact ⟨ho, fun x _ => by unfold buildL pick; rw [Bool.or_false]⟩
    | cons d r =>
      obtain ⟨hc, hcd, hr'⟩ := hr
      have hd : d.may = true := by cases r with
        | nil => exact hr'
        | cons e r => exact hr'.1
      unfold buildL
      by_cases hp : p c d = true
      · rw [if_pos hp]
        obtain ⟨g1, g2, g3⟩ := grow_ok ho hc hd hcd (fun s hs => hlast s hs c (by simp))
        obtain ⟨i1, i2⟩ := ih (growL out c d) hr' g1 (fun s hs e he => by
          obtain rfl : d = e := by simpa using he
          exact g2 s hs)
        refine ⟨i1, fun x hx => ?_⟩
        rw [i2 x hx, g3 x hx]
        conv => rhs; unfold pick
        rw [hp, Bool.true_and, Bool.or_assoc]
      · rw [if_neg hp]
        obtain ⟨i1, i2⟩ := ih out hr' ho (fun s hs e he => by
          obtain rfl : d = e := by simpa using he
          have ms := span_mays (row_mem ho s (List.mem_of_getLast? hs))
          have := cle_lt ms.2 hc hd (hlast s hs c (by simp)) hcd
          omega)
        refine ⟨i1, fun x hx => ?_⟩
        rw [i2 x hx]
        conv => rhs; unfold pick
        rw [show p c d = false from by simpa using hp, Bool.false_and, Bool.false_or]

/-! ### The cuts of spans -/
def putL (c : Cu) : List Cu → List Cu
  | [] => [c]
  | d :: r => if cmpC d c < 0 then d :: putL c r else if cmpC d c = 0 then d :: r else c :: d :: r
def cutsL (l : List Sp) : List Cu := l.foldl (fun out s => putL s.hi (putL s.lo out)) [endC (-1), endC 1]
theorem putL_mem (c : Cu) : ∀ (l : List Cu) (x : Cu), x ∈ putL c l → x = c ∨ x ∈ l := by
  intro l
  induction l with
  | nil => intro x hx; simpa [putL] using hx
  | cons d r ih =>
    intro x hx
    unfold putL at hx
    split at hx
    · rcases List.mem_cons.1 hx with rfl | hx
      · exact .inr (by simp)
      · rcases ih x hx with h | h
        · exact .inl h
        · exact .inr (by simp [h])
    · split at hx
      · exact .inr hx
      · rcases List.mem_cons.1 hx with rfl | hx
        · exact .inl rfl
        · exact .inr hx
theorem putL_old (c : Cu) : ∀ (l : List Cu) (x : Cu), x ∈ l → x ∈ putL c l := by
  intro l
  induction l with
  | nil => intro x hx; cases hx
  | cons d r ih =>
    intro x hx
    unfold putL
    split
    · rcases List.mem_cons.1 hx with rfl | hx
      · simp
      · simp [ih x hx]
    · split
      · exact hx
      · simp only [List.mem_cons] at hx ⊢; exact .inr hx
def AllMay (l : List Cu) : Prop := ∀ x ∈ l, x.may = true
theorem putL_new {c : Cu} (hc : c.may = true) : ∀ (l : List Cu), AllMay l → c ∈ putL c l := by
  intro l
  induction l with
  | nil => intro _; simp [putL]
  | cons d r ih =>
    intro h
    unfold putL
    split
    · exact List.mem_cons_of_mem _ (ih (fun x hx => h x (by simp [hx])))
    · split
      · rename_i h0
        have := (cut_eq (h d (by simp)) hc).1 h0
        simp [this]
      · simp
theorem rise_may : ∀ {l : List Cu}, Rise l → AllMay l
  | [], _ => fun x hx => by cases hx
  | [c], h => fun x hx => by obtain rfl : x = c := by simpa using hx
                             exact h
  | c :: d :: r, h => fun x hx => by
    rcases List.mem_cons.1 hx with rfl | hx
    · exact h.1
    · exact rise_may h.2.2 x hx
theorem rise_cons {c : Cu} {l : List Cu} (hc : c.may = true) (hl : Rise l) (h : ∀ d ∈ l.head?, cmpC c d < 0) : Rise (c :: l) := by
  cases l with
  | nil => exact hc
  | cons d r => exact ⟨hc, h d (by simp), hl⟩
theorem rise_tail {c : Cu} {l : List Cu} (h : Rise (c :: l)) : Rise l := by
  cases l with
  | nil => trivial
  | cons d r => exact h.2.2
theorem rise_head {c : Cu} {l : List Cu} (h : Rise (c :: l)) : c.may = true ∧ ∀ d ∈ l.head?, cmpC c d < 0 := by
  cases l with
  | nil => exact ⟨h, by simp⟩
  | cons d r => exact ⟨h.1, fun e he => by obtain rfl : d = e := by simpa using he
                                           exact h.2.1⟩
theorem putL_head (c : Cu) (d : Cu) (r : List Cu) (h : cmpC d c < 0) : (putL c (d :: r)).head? = some d := by unfold putL; rw [if_pos h]; rfl
theorem putL_rise {c : Cu} (hc : c.may = true) : ∀ (l : List Cu), Rise l → Rise (putL c l) := by
  intro l
  induction l with
  | nil => intro _; exact hc
  | cons d r ih =>
    intro h
    obtain ⟨hd, h1⟩ := rise_head h
    unfold putL
    by_cases hlt : cmpC d c < 0
    · rw [if_pos hlt]
      refine rise_cons hd (ih (rise_tail h)) fun e he => ?_
      cases r with
      | nil =>
        obtain rfl : c = e := by simpa [putL] using he
        exact hlt
      | cons f r =>
        unfold putL at he
        by_cases h2 : cmpC f c < 0
        · rw [if_pos h2] at he
          obtain rfl : f = e := by simpa using he
          exact h1 f (by simp)
        · rw [if_neg h2] at he
          by_cases h3 : cmpC f c = 0
          · rw [if_pos h3] at he
            obtain rfl : f = e := by simpa using he
            exact h1 f (by simp)
          · rw [if_neg h3] at he
            obtain rfl : c = e := by simpa using he
            exact hlt
    · rw [if_neg hlt]
      by_cases h0 : cmpC d c = 0
      · rw [if_pos h0]; exact h
      · rw [if_neg h0]
        refine rise_cons hc h fun e he => ?_
        obtain rfl : d = e := by simpa using he
        exact clt_flip (by have := cut_anti (a := d) (b := c); omega)
/-- Rising cuts from the first to the last one. -/
structure Ends (l : List Cu) : Prop where
  rise : Rise l
  head : l.head? = some (endC (-1))
  last : l.getLast? = some (endC 1)
theorem ends_two : Ends [endC (-1), endC 1] := ⟨⟨first_may, by decide, last_may⟩, rfl, rfl⟩
theorem putL_head_min {c : Cu} (hc : c.may = true) {l : List Cu} (h : l.head? = some (endC (-1))) : (putL c l).head? = some (endC (-1)) := by
  cases l with
  | nil => cases h
  | cons d r =>
    obtain rfl : d = endC (-1) := by simpa using h
    have h1 := first_le hc
    unfold putL
    by_cases h2 : cmpC (endC (-1)) c < 0
    · rw [if_pos h2]; rfl
    · rw [if_neg h2, if_pos (by omega)]; rfl
theorem putL_last_max {c : Cu} (hc : c.may = true) : ∀ {l : List Cu}, l.getLast? = some (endC 1) → (putL c l).getLast? = some (endC 1) := by
  intro l
  induction l with
  | nil => intro h; cases h
  | cons d r ih =>
    intro h
    unfold putL
    cases r with
    | nil =>
      obtain rfl : d = endC 1 := by simpa using h
      have h1 := le_last hc
      have := cut_anti (a := c) (b := endC 1)
      rw [if_neg (by omega)]
      by_cases h0 : cmpC (endC 1) c = 0
      · rw [if_pos h0]; rfl
      · rw [if_neg h0]; rfl
    | cons e r =>
      have h2 : (e :: r).getLast? = some (endC 1) := by rw [List.getLast?_cons_cons] at h; exact h
      by_cases h3 : cmpC d c < 0
      · rw [if_pos h3]
        have := ih h2
        cases hp : putL c (e :: r) with
        | nil => rw [hp] at this; cases this
        | cons f q => rw [hp] at this; rw [List.getLast?_cons_cons]; exact this
      · rw [if_neg h3]
        by_cases h0 : cmpC d c = 0
        · rw [if_pos h0]; exact h
        · rw [if_neg h0, List.getLast?_cons_cons]; exact h
theorem putL_ends {c : Cu} (hc : c.may = true) {l : List Cu} (h : Ends l) : Ends (putL c l) := ⟨putL_rise hc l h.rise, putL_head_min hc h.head, putL_last_max hc h.last⟩
theorem cuts_go : ∀ (l : List Sp) (out : List Cu), (∀ s ∈ l, s.may = true) → Ends out →
    Ends (l.foldl (fun out s => putL s.hi (putL s.lo out)) out) ∧ (∀ x ∈ out, x ∈ l.foldl (fun out s => putL s.hi (putL s.lo out)) out) ∧ ∀ s ∈ l, s.lo ∈ l.foldl (fun out s => putL s.hi (putL s.lo out)) out ∧ s.hi ∈ l.foldl (fun out s => putL s.hi (putL s.lo out)) out := by
  intro l
  induction l with
  | nil => intro out _ h; exact ⟨h, fun x hx => hx, by simp⟩
  | cons s l ih =>
    intro out hm h
    have ms := span_mays (hm s (by simp))
    have e1 := putL_ends ms.1 h
    have e2 := putL_ends ms.2 e1
    obtain ⟨i1, i2, i3⟩ := ih (putL s.hi (putL s.lo out)) (fun t ht => hm t (by simp [ht])) e2
    rw [List.foldl_cons]
    refine ⟨i1, fun x hx => i2 x (putL_old _ _ _ (putL_old _ _ _ hx)), fun t ht => ?_⟩
    rcases List.mem_cons.1 ht with rfl | ht
    · exact ⟨i2 _ (putL_old _ _ _ (putL_new ms.1 out (rise_may h.rise))), i2 _ (putL_new ms.2 _ (rise_may e1.rise))⟩
    · exact i3 t ht
theorem cuts_ends {l : List Sp} (h : ∀ s ∈ l, s.may = true) : Ends (cutsL l) := (cuts_go l _ h ends_two).1
theorem cuts_have {l : List Sp} (h : ∀ s ∈ l, s.may = true) : ∀ s ∈ l, s.lo ∈ cutsL l ∧ s.hi ∈ cutsL l := (cuts_go l _ h ends_two).2.2

/-! ### A stretch lies in a span as its cuts do -/
def inL (l : List Sp) (c d : Cu) : Bool := l.any fun s => decide (cmpC s.lo c ≤ 0) && decide (cmpC d s.hi ≤ 0)
theorem rise_above {c : Cu} : ∀ {l : List Cu}, Rise (c :: l) → ∀ x ∈ l, cmpC c x < 0 := by
  intro l
  induction l generalizing c with
  | nil => intro _ x hx; cases hx
  | cons d r ih =>
    intro h x hx
    have hcd := (rise_head h).2 d (by simp)
    rcases List.mem_cons.1 hx with rfl | hx
    · exact hcd
    · have hr := rise_tail h
      exact clt_trans (rise_head h).1 (rise_head hr).1 (rise_may (rise_tail hr) x hx) hcd (ih hr x hx)
/-- p on the stretches is q on the cuts that stand in them. -/
theorem pick_eq {p : Cu → Cu → Bool} {q : Cu → Bool} : ∀ (cs : List Cu), Rise cs → (∀ c d x, (∃ A B, cs = A ++ c :: d :: B) → x.may = true → cmpC c x ≤ 0 → cmpC x d < 0 → p c d = q x) →
    ∀ x : Cu, x.may = true → (∀ c ∈ cs.head?, cmpC c x ≤ 0) → (∀ d ∈ cs.getLast?, cmpC x d < 0) → cs ≠ [] → pick p x cs = q x := by
  intro cs
  induction cs with
  | nil => intro _ _ x _ _ _ h; exact absurd rfl h
  | cons c r ih =>
    intro hr hp x hx h1 h2 _
    have hc := h1 c (by simp)
    cases r with
    | nil => have := h2 c (by simp); have := cut_anti (a := c) (b := x); omega
    | cons d r =>
      unfold pick
      by_cases hd : cmpC x d < 0
      · have e : inSp ⟨c, d⟩ x = true := by unfold inSp; rw [decide_eq_true hc, decide_eq_true hd]; rfl
        rw [e, Bool.and_true, hp c d x ⟨[], r, rfl⟩ hx hc hd]
        cases hq : q x with
        | true => rfl
        | false =>
          rw [Bool.false_or]
          have low : ∀ (cs : List Cu), Rise cs → (∀ y ∈ cs, cmpC x y < 0) → pick p x cs = false := by
            intro cs
            induction cs with
            | nil => intro _ _; rfl
            | cons c r ih =>
              intro hr hy
              cases r with
              | nil => rfl
              | cons d r =>
                unfold pick
                have : inSp ⟨c, d⟩ x = false := by unfold inSp; rw [decide_eq_false (clt_not (hy c (by simp)))]; rfl
                rw [this, Bool.and_false, Bool.false_or]
                exact ih (rise_tail hr) (fun y hy' => hy y (by simp [hy']))
          refine low _ (rise_tail hr) (fun y hy => ?_)
          rcases List.mem_cons.1 hy with rfl | hy
          · exact hd
          · exact clt_trans hx (rise_head (rise_tail hr)).1 (rise_may (rise_tail (rise_tail hr)) y hy) hd (rise_above (rise_tail hr) y hy)
      · have e : inSp ⟨c, d⟩ x = false := by unfold inSp; rw [decide_eq_false hd, Bool.and_false]
        rw [e, Bool.and_false, Bool.false_or]
        refine ih (rise_tail hr) (fun c' d' x' ⟨A, B, hAB⟩ => hp c' d' x' ⟨c :: A, B, by rw [hAB]; rfl⟩) x hx (fun c' hc' => ?_) (fun d' hd' => h2 d' (by rw [List.getLast?_cons_cons]; exact hd')) (by simp)
        obtain rfl : d = c' := by simpa using hc'
        exact cle_flip hd
/-- No cut of a rising row stands inside one of its stretches. -/
theorem rise_gap {A B : List Cu} {c d : Cu} (h : Rise (A ++ c :: d :: B)) : ∀ y ∈ A ++ c :: d :: B, cmpC y c ≤ 0 ∨ cmpC d y ≤ 0 := by
  induction A with
  | nil =>
    intro y hy
    rcases List.mem_cons.1 hy with rfl | hy
    · exact .inl (by rw [cut_self]; omega)
    · rcases List.mem_cons.1 hy with rfl | hy
      · exact .inr (by rw [cut_self]; omega)
      · exact .inr (by have := rise_above (rise_tail h) y hy; omega)
  | cons a A ih =>
    intro y hy
    rcases List.mem_cons.1 hy with rfl | hy
    · exact .inl (by have := rise_above h c (by simp); omega)
    · exact ih (rise_tail h) y hy
theorem in_den {l : List Sp} (hl : ∀ s ∈ l, s.may = true) {cs : List Cu} (hr : Rise cs) (hcs : ∀ s ∈ l, s.lo ∈ cs ∧ s.hi ∈ cs) {A B : List Cu} {c d x : Cu} (e : cs = A ++ c :: d :: B) (hx : x.may = true) (h1 : cmpC c x ≤ 0) (h2 : cmpC x d < 0) : inL l c d = den l x := by
  have hm := rise_may hr
  have mc := hm c (by rw [e]; simp)
  have md := hm d (by rw [e]; simp)
  have gap : ∀ y ∈ cs, cmpC y c ≤ 0 ∨ cmpC d y ≤ 0 := by rw [e] at hr ⊢; exact rise_gap hr
  unfold inL den
  have key : ∀ s ∈ l, (decide (cmpC s.lo c ≤ 0) && decide (cmpC d s.hi ≤ 0)) = inSp s x := by
    intro s hs
    obtain ⟨g1, g2⟩ := hcs s hs
    have ms := span_mays (hl s hs)
    unfold inSp
    have a1 : (cmpC s.lo c ≤ 0) ↔ (cmpC s.lo x ≤ 0) := by
      constructor
      · intro h; exact cle_trans ms.1 mc hx h h1
      · intro h
        rcases gap s.lo g1 with g | g
        · exact g
        · have := cle_lt ms.1 hx md h h2
          have := cut_anti (a := s.lo) (b := d); omega
    have a2 : (cmpC d s.hi ≤ 0) ↔ (cmpC x s.hi < 0) := by
      constructor
      · intro h; exact clt_le hx md ms.2 h2 h
      · intro h
        rcases gap s.hi g2 with g | g
        · have := cle_lt mc hx ms.2 h1 h
          have := cut_anti (a := s.hi) (b := c); omega
        · exact g
    rw [decide_eq_decide.2 a1, decide_eq_decide.2 a2]
  clear hcs gap hl
  induction l with
  | nil => rfl
  | cons s l ih =>
    rw [List.any_cons, List.any_cons, key s (by simp), ih (fun t ht => key t (by simp [ht]))]

/-! ### What the document's own answer makes -/
def makeL (l : List Sp) : List Sp := buildL (inL l) [] (cutsL l)
def orL (a b : List Sp) : List Sp := makeL (a ++ b)
def andL (a b : List Sp) : List Sp := buildL (fun c d => inL a c d && inL b c d) [] (cutsL (a ++ b))
def notL (a : List Sp) : List Sp := buildL (fun c d => !inL a c d) [] (cutsL a)
theorem build_den {p : Cu → Cu → Bool} {q : Cu → Bool} {cs : List Cu} (h : Ends cs) (hp : ∀ c d x, (∃ A B, cs = A ++ c :: d :: B) → x.may = true → cmpC c x ≤ 0 → cmpC x d < 0 → p c d = q x) :
    rowMay (buildL p [] cs) = true ∧ ∀ x : Cu, x.may = true → cmpC x (endC 1) < 0 → den (buildL p [] cs) x = q x := by
  obtain ⟨h1, h2⟩ := build_ok p cs [] h.rise rfl (by simp)
  refine ⟨h1, fun x hx hl => ?_⟩
  rw [h2 x hx]
  show (false || pick p x cs) = q x
  rw [Bool.false_or]
  refine pick_eq cs h.rise hp x hx (fun c hc => ?_) (fun d hd => ?_) (fun e => by rw [e] at h; cases h.head)
  · rw [h.head] at hc; obtain rfl : endC (-1) = c := by simpa using hc
    exact first_le hx
  · rw [h.last] at hd; obtain rfl : endC 1 = d := by simpa using hd
    exact hl
theorem make_ok {l : List Sp} (hl : ∀ s ∈ l, s.may = true) : rowMay (makeL l) = true ∧ ∀ x : Cu, x.may = true → cmpC x (endC 1) < 0 → den (makeL l) x = den l x :=
  build_den (cuts_ends hl) fun c d x ⟨A, B, e⟩ hx h1 h2 => in_den hl (cuts_ends hl).rise (cuts_have hl) e hx h1 h2
theorem both_may {a b : List Sp} (ha : rowMay a = true) (hb : rowMay b = true) : ∀ s ∈ a ++ b, s.may = true := fun s hs => by
  rcases List.mem_append.1 hs with h | h
  · exact row_mem ha s h
  · exact row_mem hb s h
theorem or_ok {a b : List Sp} (ha : rowMay a = true) (hb : rowMay b = true) : rowMay (orL a b) = true ∧ ∀ x : Cu, x.may = true → cmpC x (endC 1) < 0 → den (orL a b) x = (den a x || den b x) := by
  obtain ⟨h1, h2⟩ := make_ok (both_may ha hb)
  exact ⟨h1, fun x hx hl => by rw [← den_app]; exact h2 x hx hl⟩
theorem and_ok {a b : List Sp} (ha : rowMay a = true) (hb : rowMay b = true) : rowMay (andL a b) = true ∧ ∀ x : Cu, x.may = true → cmpC x (endC 1) < 0 → den (andL a b) x = (den a x && den b x) := by
  have hm := both_may ha hb
  have hc := cuts_have hm
  refine build_den (cuts_ends hm) fun c d x ⟨A, B, e⟩ hx h1 h2 => ?_
  rw [in_den (row_mem ha) (cuts_ends hm).rise (fun s hs => hc s (by simp [hs])) e hx h1 h2, in_den (row_mem hb) (cuts_ends hm).rise (fun s hs => hc s (by simp [hs])) e hx h1 h2]
theorem not_ok {a : List Sp} (ha : rowMay a = true) : rowMay (notL a) = true ∧ ∀ x : Cu, x.may = true → cmpC x (endC 1) < 0 → den (notL a) x = !den a x := by
  have hm := row_mem ha
  refine build_den (cuts_ends hm) fun c d x ⟨A, B, e⟩ hx h1 h2 => ?_
  rw [in_den hm (cuts_ends hm).rise (cuts_have hm) e hx h1 h2]
theorem make_self {l : List Sp} (h : rowMay l = true) : makeL l = l := row_ext _ _ (make_ok (row_mem h)).1 h (make_ok (row_mem h)).2
end Go.Proofs.Ytgeccfdofmnphaa
end

section
/-
  linchpinref4: in, ..: what they return; nothing that was there is changed.
-/
namespace Go.Proofs.Ytgeccfdofmnphaa
open Go.RowKit
set_option maxRecDepth 100000
set_option linter.unusedVariables false
set_option linter.unusedSimpArgs false
set_option maxHeartbeats 2000000

def spanC (s : Sp) : List Value := (spanV s).cells.toList
theorem spanC_len (s : Sp) : (spanC s).length = 14 := rfl
def ShortL (l : List Sp) : Prop := ∀ s ∈ l, s.short
theorem inL_drop (l : List Sp) (c d : Cu) (k : Nat) (hk : k < l.length) : inL (l.drop k) c d = ((decide (cmpC l[k].lo c ≤ 0) && decide (cmpC d l[k].hi ≤ 0)) || inL (l.drop (k + 1)) c d) := by
  rw [List.drop_eq_getElem_cons hk]; unfold inL; rw [List.any_cons]

end Go.Proofs.Ytgeccfdofmnphaa
end

section
/-
  linchpinref4.Same: two rows, span by span; nothing that was there is changed.
-/
namespace Go.Proofs.Ytgeccfdofmnphaa
open Go.RowKit
set_option maxRecDepth 100000
set_option linter.unusedVariables false
set_option linter.unusedSimpArgs false
set_option maxHeartbeats 2000000

deriving instance DecidableEq for Sp
theorem all2 (a b : Bool) : ([a, b].all id) = (a && b) := by simp
theorem sp_dec (u v : Sp) : decide (u = v) = (decide (u.lo = v.lo) && decide (u.hi = v.hi)) := by
  obtain ⟨a, b⟩ := u
  obtain ⟨a', b'⟩ := v
  simp only [Sp.mk.injEq, Bool.decide_and]
theorem eq_span (u v : Sp) (d : Nat) (w : World) : (Op.equalIn (d + 1 + 1 + 1 + 1) 49 (spanV u) (spanV v)).run Try.prog w = .ok (decide (u = v)) w := by
  have h := eq_agg (P := Try.prog) (d := d + 1 + 1 + 1) (t := 49) (xs := (spanV u).cells) (ys := (spanV v).cells) (bs := [decide (u.lo = v.lo), decide (u.hi = v.hi)]) Try.underlying49 (by kernel_rfl)
    ⟨by decide, ⟨cutV u.lo, cutV v.lo, fun w => ⟨by kernel_rfl, by kernel_rfl, eq_cut u.lo v.lo d w⟩⟩,
     by decide, ⟨cutV u.hi, cutV v.hi, fun w => ⟨by kernel_rfl, by kernel_rfl, eq_cut u.hi v.hi d w⟩⟩, trivial⟩ w
  rw [all2, ← sp_dec] at h
  exact h
theorem guard_span : Try.prog.eqGuardType Try.prog.depth 49 = false := by kernel_rfl
theorem binOp_agg_neq {P : Program} {t : TypeId} {xs ys : Array Value} {b : Bool} (w : World) (h : (Op.equalIn 10000 t (.agg xs) (.agg ys)).run P w = .ok b w) : (binOp .neq t (.agg xs) (.agg ys)).run P w = .ok (.bool (!b)) w := by
  have e : binOp .neq t (.agg xs) (.agg ys) = (do let r ← Op.equalIn 10000 t (.agg xs) (.agg ys); pure (.bool (!r))) := by first | rfl | simp [binOp]
  rw [e]
  simp only [Sem.run_bind, h, Result.andThen_ok, Sem.run_pure]
theorem run_ne_op {P : Program} {ρ : Operand → Value} {o : Oper} {t t' : TypeId} {x y : Operand} {xs ys : Array Value} {b : Bool} (ho : o.op = .binOp .neq t x y t') (hx : ρ x = .agg xs) (hy : ρ y = .agg ys) (hm : P.eqGuardType P.depth t = false)
    (h : ∀ w, (Op.equalIn 10000 t (.agg xs) (.agg ys)).run P w = .ok b w) (w : World) : (execOp ρ o).run P w = .ok (.value (.bool (!b))) w := by
  have h1 := run_eqGuard_agg (P := P) w .neq t x y xs ys hm
  have h2 := binOp_agg_neq w (h w)
  unfold execOp
  simp only [ho, hx, hy, Sem.run_bind, h1, Result.andThen_ok, h2, Sem.run_pure]
theorem op_ne_span {ρ : Operand → Value} {o : Oper} {t' : TypeId} {x y : Operand} {u v : Sp} {b : Bool} (ho : o.op = .binOp .neq 49 x y t') (hx : ρ x = spanV u) (hy : ρ y = spanV v) (hb : decide (u = v) = b) (w : World) : (execOp ρ o).run Try.prog w = .ok (.value (.bool (!b))) w :=
  run_ne_op ho hx hy guard_span (fun w => by rw [← hb]; exact eq_span u v 9996 w) w
theorem same_step {a b : List Sp} {k : Nat} (ha : k < a.length) (hb : k < b.length) (h : a.take k = b.take k) (e : a[k] = b[k]) : a.take (k + 1) = b.take (k + 1) := by
  rw [List.take_succ_eq_append_getElem ha, List.take_succ_eq_append_getElem hb, h, e]

end Go.Proofs.Ytgeccfdofmnphaa
end

section
/-
  linchpinref4: May, Has, Same: what they return for slices of spans whose strings have at most a million bytes; nothing that was there is changed.
-/
namespace Go.Proofs.Ytgeccfdofmnphaa
open Go.RowKit
set_option maxRecDepth 100000
set_option linter.unusedVariables false
set_option linter.unusedSimpArgs false
set_option maxHeartbeats 2000000

theorem row_take_step {l : List Sp} {k : Nat} (hk : k < l.length) (h : rowMay (l.take k) = true) (hs : l[k].may = true) (hc : ∀ h0 : 0 < k, cmpC (l[k - 1]'(by omega)).hi l[k].lo < 0) : rowMay (l.take (k + 1)) = true := by
  rw [List.take_succ_eq_append_getElem hk]
  refine row_snoc h hs fun t ht => ?_
  cases k with
  | zero => simp at ht
  | succ k =>
    have e := List.take_succ_eq_append_getElem (l := l) (i := k) (by omega)
    rw [e, List.getLast?_concat] at ht
    obtain rfl : l[k] = t := Option.some.inj ht
    exact hc (by omega)
theorem row_pair : ∀ {l : List Sp}, rowMay l = true → ∀ k (hk : k < l.length) (h0 : 0 < k), cmpC (l[k - 1]'(by omega)).hi l[k].lo < 0
  | [], _, k, hk, _ => by simp at hk
  | s :: l, h, k, hk, h0 => by
    cases k with
    | zero => omega
    | succ k =>
      cases k with
      | zero => exact row_after h _ (List.getElem_mem _)
      | succ k => exact row_pair (row_tail h) (k + 1) (by simpa using hk) (by omega)
theorem any_drop (l : List Sp) (v : Ver) (k : Nat) (hk : k < l.length) : (l.drop k).any (holdsC · v) = (holdsC l[k] v || (l.drop (k + 1)).any (holdsC · v)) := by
  rw [List.drop_eq_getElem_cons hk, List.any_cons]

end Go.Proofs.Ytgeccfdofmnphaa
end

section
/-
  linchpinref4.grow: a row with a stretch behind it; it may write into the slice that it is lent; of all other memory nothing is changed.
-/
namespace Go.Proofs.Ytgeccfdofmnphaa
open Go.RowKit
set_option maxRecDepth 100000
set_option linter.unusedVariables false
set_option linter.unusedSimpArgs false
set_option maxHeartbeats 2000000

/-- The value v is a slice of the spans l that lies in ob, a caller's own. -/
def SlS (v : Value) (l : List Sp) (ob : List Blk) : Prop := Sl 49 14 v l.length (l.flatMap spanC) ob
theorem spanInfo : (Try.prog.info? 49).map (fun i => (i.zero.map (·.cells.size), i.size, i.bytes)) = some (some 14, 14, 144) := by kernel_rfl
theorem span_info : ∃ i z, Try.prog.info? 49 = some i ∧ i.zero = some z ∧ i.size = 14 ∧ z.cells.size = 14 ∧ i.bytes = 144 := by
  have h := spanInfo
  cases hi : Try.prog.info? 49 with
  | none => rw [hi] at h; cases h
  | some i =>
    rw [hi] at h
    simp only [Option.map_some, Option.some.injEq, Prod.mk.injEq] at h
    cases hz : i.zero with
    | none => rw [hz] at h; simp at h
    | some z => rw [hz] at h; simp at h; exact ⟨i, z, rfl, hz, h.2.1, h.1, h.2.2⟩
theorem span_cells (s : Sp) : ∀ u ∈ spanC s, u.oneCell' = true := by
  intro u hu
  unfold spanC spanV at hu
  simp only [Value.cells, List.mem_cons, List.not_mem_nil, or_false] at hu
  rcases hu with rfl | rfl | rfl | rfl | rfl | rfl | rfl | rfl | rfl | rfl | rfl | rfl | rfl | rfl <;> rfl
theorem grow_app {l : List Sp} {c d : Cu} (h : ∀ s ∈ l.getLast?, ¬ cmpC s.hi c = 0) : growL l c d = l ++ [⟨c, d⟩] := by
  unfold growL
  cases hg : l.getLast? with
  | none => have : l = [] := by simpa using hg
            subst this; rfl
  | some s => dsimp only; rw [if_neg (h s hg)]
theorem grow_set {l : List Sp} {c d : Cu} {s : Sp} (h0 : 0 < l.length) (hs : l[l.length - 1]'(by omega) = s) (h : cmpC s.hi c = 0) : growL l c d = l.set (l.length - 1) ⟨s.lo, d⟩ := by
  have hg : l.getLast? = some s := by rw [List.getLast?_eq_getElem?, List.getElem?_eq_getElem (by omega), hs]
  unfold growL
  rw [hg]
  dsimp only
  rw [if_pos h, List.dropLast_eq_take, List.set_eq_take_append_cons_drop, if_pos (by omega), List.drop_of_length_le (by omega)]
theorem grow_len_set {l : List Sp} {k : Nat} {y : Sp} : (l.set k y).length = l.length := List.length_set
theorem last_at {l : List Sp} (h0 : 0 < l.length) {s t : Sp} (hs : l[l.length - 1]'(by omega) = s) (ht : t ∈ l.getLast?) : t = s := by
  rw [List.getLast?_eq_getElem?, List.getElem?_eq_getElem (by omega), hs] at ht
  exact (Option.some.inj ht).symm

end Go.Proofs.Ytgeccfdofmnphaa
end
