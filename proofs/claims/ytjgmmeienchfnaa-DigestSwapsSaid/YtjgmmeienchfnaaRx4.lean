/-
  Slices that the call has made: what they hold, append, an element's address and value. No condition of their own but the bounds that each theorem names.
-/
import Derived.Test.YtjgmmeienchfnaaRx3
import Derived.Laws.AppendOwn
namespace Go.Proofs.Ytjgmmeienchfnaa
open Go.RowKit
set_option linter.unusedVariables false
set_option linter.unusedSimpArgs false

/-- The slice value v has n elements of type T (sz cells each), the cells xs; it is nil, or it lies at the head of the one block of ob. -/
def Sl (T : TypeId) (sz : Nat) (v : Value) (n : Nat) (xs : List Value) (ob : List Blk) : Prop :=
  xs.length = n * sz ∧ ((v = .slice none 0 0 ∧ n = 0 ∧ ob = []) ∨
    ∃ g cap cur, v = .slice (some ⟨g, 0, none⟩) n cap ∧ ob = [⟨g, cur, T⟩] ∧ n ≤ cap ∧ cap ≤ maxLen ∧ cur.size = cap * sz ∧ cur.toList.take (n * sz) = xs)
theorem Sl.nil (T : TypeId) (sz : Nat) : Sl T sz (.slice none 0 0) 0 [] [] := ⟨by simp, .inl ⟨rfl, rfl, rfl⟩⟩
/-- The list of blocks in another order, or with some left out. -/
theorem Own.take {M : List Nat} {W w : World} {L L' : List Blk} (h : Own M W w L) (hs : ∀ x ∈ L', x ∈ L) (hn : (L'.map Blk.b).Nodup) : Own M W w L' :=
  ⟨h.os, h.tape, h.output, h.size, h.drawn, h.kept, fun x hx => h.held x (hs x hx), fun x hx => h.base x (hs x hx), hn⟩
theorem Own.move {M : List Nat} {W w : World} {E ob L0 : List Blk} {x : Blk} (h : Own M W w (x :: (E ++ ob ++ L0))) : Own M W w (E ++ [x] ++ L0) := by
  refine h.take (fun y hy => ?_) ?_
  · simp only [List.mem_append, List.mem_cons, List.not_mem_nil, or_false] at hy ⊢
    rcases hy with (hy | hy) | hy
    · exact .inr (.inl (.inl hy))
    · exact .inl hy
    · exact .inr (.inr hy)
  · have h1 := h.apart
    have h2 : ((x :: (E ++ L0)).map Blk.b).Nodup := by
      refine h1.sublist (List.Sublist.map _ (List.Sublist.cons_cons _ ?_))
      rw [List.append_assoc]
      exact List.Sublist.append (List.Sublist.refl E) (List.sublist_append_right ob L0)
    have hp : (E ++ [x] ++ L0).Perm (x :: (E ++ L0)) := by
      rw [List.append_assoc]; exact List.perm_middle
    exact (hp.map Blk.b).nodup_iff.2 h2
theorem drew_own {M : List Nat} {W w : World} {L : List Blk} (h : Own M W w L) : Own M W w.drew L := h.drew
section
variable {M : List Nat} {P : Program} {W w : World} {E ob L0 : List Blk}
/-- append, precisely: in place, or in a new block in the old one's stead. -/
theorem own_append {t ty T : TypeId} {i : TypeInfo} {z : Value} {sz : Nat} (ht : P.underlying t = some (.slice T)) (hi : P.info? T = some i) (hz : i.zero = some z) (hsz : i.size = sz) (hzs : z.cells.size = sz)
    {v : Value} {n : Nat} {xs : List Value} (hv : Sl T sz v n xs ob) (hO : Own M W w (E ++ ob ++ L0))
    {a : Addr} {m c : Nat} {news : List Value} (hl : news.length = m * sz) (hnews : ∀ j u, news[j]? = some u → w.cell? (a.add j) = some u) (h1 : ∀ u ∈ news, u.oneCell' = true)
    (h63 : n + m ≤ maxLen) (hbytes : (n + m) * i.bytes ≤ 140737488355328) :
    ∃ v' w' ob', (Builtin.append_ #[t, t] ty #[v, .slice (some a) m c]).run P w = .ok v' w' ∧ Sl T sz v' (n + m) (xs ++ news) ob' ∧ Own M W w' (E ++ ob' ++ L0) := by
  subst hsz
  have hsmall : n + m ≤ 9223372036854775807 := by simp only [maxLen] at h63; omega
  have hlen : (xs ++ news).length = (n + m) * i.size := by rw [List.length_append, hv.1, hl, Nat.add_mul]
  rcases hv.2 with ⟨rfl, rfl, rfl⟩ | ⟨g, cap, cur, rfl, rfl, hnc, hcm, hcs, htake⟩
  · have hx : xs = [] := List.eq_nil_of_length_eq_zero (by simpa using hv.1)
    subst hx
    by_cases hm : m = 0
    · subst hm
      have hn : news = [] := List.eq_nil_of_length_eq_zero (by simpa using hl)
      subst hn
      refine ⟨.slice none 0 0, w, [], ?_, Sl.nil T i.size, hO⟩
      simp [Builtin.append_, run_underlying ht, sizeOf, typeInfo, hi, Builtin.lenOf, Builtin.firstCells, loadCells, loadCellsFrom]
    · have hr := run_append_nil (P := P) w t ty T i z ht hi hz a m c news hl hnews (by omega) (by omega) (by have hb := hbytes; simp only [Nat.zero_add] at hb; omega)
      have hge := grownCap_ge w m 0 T
      have hcm := grownCap_le_maxLen w m 0 T (by simpa using h63)
      refine ⟨_, _, [⟨w.heap.size, news.toArray ++ Builtin.zeroCells z.cells (grownCap w m 0 T - m), T⟩], hr, ⟨by simpa using hlen, .inr ⟨w.heap.size, _, _, by simp, rfl, by simpa using hge, hcm, ?_, ?_⟩⟩, ?_⟩
      · simp only [Array.size_append, List.size_toArray, size_zeroCells, hzs, hl, ← Nat.add_mul]
        congr 1
        omega
      · simp only [Array.toList_append, Nat.zero_add, List.nil_append]
        rw [← hl]
        exact List.take_left
      · have := (drew_own hO).alloc (news.toArray ++ Builtin.zeroCells z.cells (grownCap w m 0 T - m)) T
        exact Own.move (ob := []) this
  · by_cases hroom : n + m ≤ cap
    · have hfit : n * i.size + news.length ≤ cur.size := by rw [hl, hcs, ← Nat.add_mul]; exact Nat.mul_le_mul_right _ hroom
      have hk : (E ++ [Blk.mk g cur T] ++ L0)[E.length]? = some ⟨g, cur, T⟩ := by simp
      have hg := hO.get hk
      have hr := run_append_room (P := P) w t ty T i ht hi g n cap cur hg a m c news hl hnews h1 hroom hfit
      refine ⟨_, _, [⟨g, (cur.toList.take (n * i.size) ++ news ++ cur.toList.drop (n * i.size + news.length)).toArray, T⟩], hr, ⟨hlen, .inr ⟨g, cap, _, rfl, rfl, hroom, hcm, ?_, ?_⟩⟩, ?_⟩
      · simp only [List.size_toArray, List.length_append, List.length_take, List.length_drop, Array.length_toList]
        omega
      · rw [htake, ← hlen]
        exact List.take_left
      · have := hO.put hk (cur.toList.take (n * i.size) ++ news ++ cur.toList.drop (n * i.size + news.length)).toArray
        have e : (E ++ [Blk.mk g cur T] ++ L0).set E.length ⟨g, (cur.toList.take (n * i.size) ++ news ++ cur.toList.drop (n * i.size + news.length)).toArray, T⟩ = E ++ [⟨g, (cur.toList.take (n * i.size) ++ news ++ cur.toList.drop (n * i.size + news.length)).toArray, T⟩] ++ L0 := by simp
        rw [e] at this; exact this
    · have hk : (E ++ [Blk.mk g cur T] ++ L0)[E.length]? = some ⟨g, cur, T⟩ := by simp
      have hg := hO.get hk
      have holds : ∀ j u, xs[j]? = some u → w.cell? ((⟨g, 0, none⟩ : Addr).add j) = some u := fun j u hj => by
        rw [add_off, cell_of_row w g (0 + j) cur T _ hg]
        rw [← htake, List.getElem?_take] at hj
        split at hj
        · simpa using hj
        · cases hj
      have hr := run_append_grow (P := P) w t ty T i z ht hi hz ⟨g, 0, none⟩ n cap xs hv.1 holds a m c news hl hnews (by omega) (by omega) (growslice_fits (by omega) hbytes)
      have hge := grownCap_ge w (n + m) cap T
      have hcm := grownCap_le_maxLen w (n + m) cap T h63
      refine ⟨_, _, [⟨w.heap.size, xs.toArray ++ news.toArray ++ Builtin.zeroCells z.cells (grownCap w (n + m) cap T - (n + m)), T⟩], hr, ⟨hlen, .inr ⟨w.heap.size, _, _, rfl, rfl, hge, hcm, ?_, ?_⟩⟩, ?_⟩
      · simp only [Array.size_append, List.size_toArray, size_zeroCells, hzs, hv.1, hl, ← Nat.add_mul]
        congr 1
        omega
      · simp only [Array.toList_append, List.append_assoc]
        rw [← List.append_assoc, ← hlen]
        exact List.take_left
      · exact Own.move ((drew_own hO).alloc (xs.toArray ++ news.toArray ++ Builtin.zeroCells z.cells (grownCap w (n + m) cap T - (n + m))) T)
/-- append of nothing (a nil slice). -/
theorem own_append_nil {t ty T : TypeId} {i : TypeInfo} (ht : P.underlying t = some (.slice T)) (hi : P.info? T = some i) {sz : Nat} {v : Value} {n : Nat} {xs : List Value} (hv : Sl T sz v n xs ob) (m0 : Nat) :
    (Builtin.append_ #[t, t] ty #[v, .slice none 0 0]).run P w = .ok v w := by
  rcases hv.2 with ⟨rfl, rfl, rfl⟩ | ⟨g, cap, cur, rfl, rfl, hnc, hcm, hcs, htake⟩
  · simp [Builtin.append_, run_underlying ht, sizeOf, typeInfo, hi, Builtin.lenOf, Builtin.firstCells]
  · simp [Builtin.append_, run_underlying ht, sizeOf, typeInfo, hi, Builtin.lenOf, Builtin.firstCells, hnc, storeCells]
end
section
variable {M : List Nat} {P : Program} {n0 : Nat} {ops : Array Oper} {W : World} {Q : Exit → Act → World → Prop} {rest : List Oper} {o : Oper} {E ob L0 : List Blk} {f : Nat → Value}
/-- The operation append(s, x..): s a slice of the call's own. -/
theorem s_append {t T : TypeId} {s x : Operand} {i : TypeInfo} {z : Value} {sz : Nat} (hw : want ops n0 f o = true) (ho : o.op = .call { callee := .builtin .append, args := #[s, x], argTypes := #[t, t] })
    (ht : P.underlying t = some (.slice T)) (hi : P.info? T = some i) (hz : i.zero = some z) (hsz : i.size = sz) (hzs : z.cells.size = sz)
    {v : Value} {n : Nat} {xs : List Value} (hs : ev n0 f s = v) (hv : Sl T sz v n xs ob) {a : Addr} {m c : Nat} {news : List Value} (hx : ev n0 f x = .slice (some a) m c)
    (hl : news.length = m * sz) (hnews : ∀ w, Own M W w (E ++ ob ++ L0) → ∀ j u, news[j]? = some u → w.cell? (a.add j) = some u) (h1 : ∀ u ∈ news, u.oneCell' = true)
    (h63 : n + m ≤ maxLen) (hbytes : (n + m) * i.bytes ≤ 140737488355328)
    (h : ∀ v' ob', Sl T sz v' (n + m) (xs ++ news) ob' → Seg M P n0 ops W Q rest (E ++ ob' ++ L0) (upd f o.dst v')) : Seg M P n0 ops W Q (o :: rest) (E ++ ob ++ L0) f :=
  s_step hw fun w hO => by
    obtain ⟨v', w', ob', hr, h2, h3⟩ := own_append (P := P) (ty := o.type) (c := c) ht hi hz hsz hzs hv hO hl (hnews w hO) h1 h63 hbytes
    refine wp_val v' (w' := w') ?_ ((h v' ob' h2).go w' h3)
    unfold execOp
    simp only [ho, resolve, invoke, builtin, Sem.run_bind, Sem.run_pure, Result.andThen_ok, List.map_toArray, List.map_cons, List.map_nil, hs, hx, hr]
theorem s_append_nil {t T : TypeId} {s x : Operand} {i : TypeInfo} {sz : Nat} (hw : want ops n0 f o = true) (ho : o.op = .call { callee := .builtin .append, args := #[s, x], argTypes := #[t, t] })
    (ht : P.underlying t = some (.slice T)) (hi : P.info? T = some i) {v : Value} {n : Nat} {xs : List Value} (hs : ev n0 f s = v) (hv : Sl T sz v n xs ob) (hx : ev n0 f x = .slice none 0 0)
    (h : Seg M P n0 ops W Q rest (E ++ ob ++ L0) (upd f o.dst v)) : Seg M P n0 ops W Q (o :: rest) (E ++ ob ++ L0) f :=
  s_step hw fun w hO => by
    refine wp_val v (w' := w) ?_ (h.go w hO)
    unfold execOp
    simp only [ho, resolve, invoke, builtin, Sem.run_bind, Sem.run_pure, Result.andThen_ok, List.map_toArray, List.map_cons, List.map_nil, hs, hx, own_append_nil ht hi hv 0]
/-- A slice literal: a new block. -/
theorem s_lit {L : List Blk} {t : TypeId} {len : Nat} {parts : Array (Nat × Operand)} (T : TypeId) (cs : Array Value) (hw : want ops n0 f o = true) (ho : o.op = .buildSlice t len parts)
    (hr : ∀ w, (execOp (ev n0 f) o).run P w = .ok (.value (.slice (some ⟨w.heap.size, 0, none⟩) len len)) (w.alloc (.cells cs T)))
    (h : ∀ b, Seg M P n0 ops W Q rest (⟨b, cs, T⟩ :: L) (upd f o.dst (.slice (some ⟨b, 0, none⟩) len len))) : Seg M P n0 ops W Q (o :: rest) L f :=
  s_step hw fun w hO => wp_val _ (hr w) ((h w.heap.size).go _ (hO.alloc _ _))
/-- The address of a slice's element. -/
theorem run_ixsl {ρ : Operand → Value} {t e : TypeId} {x ix : Operand} {b off off' n c sz : Nat} {k : IntKind} {j : Int} (ho : o.op = .indexAddr t x ix) (hx : ρ x = .slice (some ⟨b, off, none⟩) n c) (hi : ρ ix = .int k j)
    (hu : P.underlying t = some (.slice e)) (hs : (P.info? e).map (·.size) = some sz) (h0 : 0 ≤ j) (h1 : j < n) (hoff : off + j.toNat * sz = off') (w : World) : (execOp ρ o).run P w = .ok (.value (.pointer (some ⟨b, off', none⟩))) w := by
  subst hoff
  cases he : P.info? e with
  | none => rw [he] at hs; cases hs
  | some i =>
    rw [he] at hs
    obtain rfl := Option.some.inj hs
    unfold execOp
    simp [ho, hx, hi, Instr.indexAt, Sem.run_bind, asIntOf, run_underlying hu, Instr.sureAddr, h0, h1, sizeOf, typeInfo, he, add_off]
end
/-! ### Elements -/
section
variable {α : Type} {g : α → List Value} {sz : Nat}
theorem flat_len (hg : ∀ x, (g x).length = sz) (l : List α) : (l.flatMap g).length = l.length * sz := by
  induction l with
  | nil => simp
  | cons x l ih => rw [List.flatMap_cons, List.length_append, hg, ih, List.length_cons, Nat.succ_mul, Nat.add_comm]
theorem flat_at (hg : ∀ x, (g x).length = sz) (l : List α) : ∀ k (h : k < l.length), ((l.flatMap g).drop (k * sz)).take sz = g l[k] := by
  induction l with
  | nil => intro k h; simp at h
  | cons x l ih =>
    intro k h
    rw [List.flatMap_cons]
    cases k with
    | zero =>
      have := hg x
      rw [Nat.zero_mul, List.drop_zero, ← this, List.take_left]; rfl
    | succ k =>
      rw [Nat.succ_mul, Nat.add_comm, ← List.drop_drop]
      have hd : (g x ++ l.flatMap g).drop sz = l.flatMap g := by rw [← hg x]; exact List.drop_left
      rw [hd]
      exact ih k (by simpa using h)
/-- An element of a slice of structs, read out of its block. -/
theorem read_elem {P : Program} {T : TypeId} {d : TypeDesc} {i : TypeInfo} (hg : ∀ x, (g x).length = sz) (hu : P.underlying T = some d) (hd : aggB d = true) (hi : P.info? T = some i) (hsz : i.size = sz) {cur : Array Value} {n : Nat} {l : List α} (hn : l.length = n) {cap : Nat} (hc : cur.size = cap * sz) (hnc : n ≤ cap)
    (ht : cur.toList.take (n * sz) = l.flatMap g) (k : Nat) (hk : k < l.length) : readAt P T cur (k * sz) = some (.agg (g l[k]).toArray) := by
  subst hsz
  have hle : k * i.size + i.size ≤ n * i.size := by rw [← Nat.succ_mul]; exact Nat.mul_le_mul_right _ (by omega)
  have hle2 : n * i.size ≤ cur.size := by rw [hc]; exact Nat.mul_le_mul_right _ hnc
  have e : (cur.toList.drop (k * i.size)).take i.size = g l[k] := by
    rw [← flat_at hg l k hk, ← ht, List.drop_take, List.take_take, Nat.min_eq_left (by omega)]
  unfold readAt
  rw [hu, hi]
  cases d <;> first | (simp [aggB] at hd; done) | (dsimp only; rw [if_pos (by omega), e])
end
end Go.Proofs.Ytjgmmeienchfnaa
