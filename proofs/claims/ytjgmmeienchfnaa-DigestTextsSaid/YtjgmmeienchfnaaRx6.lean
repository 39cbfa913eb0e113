/-
  A region that draws its order and makes memory, more freely: any list of blocks that holds the ones at its start which nobody writes; append, slice literals and calls that hand back new memory; and the list of blocks in another form. No condition of their own.
-/
import Derived.Test.YtjgmmeienchfnaaRx5
namespace Go.Proofs.Ytjgmmeienchfnaa
open Go.RowKit
set_option linter.unusedVariables false
set_option linter.unusedSimpArgs false
section
variable {M : List Nat} {P : Program} {n : Nat} {ops : Array Oper} {W : World} {Q : Exit → Act → World → Prop} {L0 L : List Blk} {f : Nat → Value} {fuel : Nat} {listed : Array Bool} {rest : List Oper} {o : Oper}
theorem s_cast {L' : List Blk} (e : L = L') (h : Seg M P n ops W Q rest L' f) : Seg M P n ops W Q rest L f := by subst e; exact h
theorem ok_cast {L' : List Blk} {c : Code} (e : L = L') (h : Ok M P n W Q c L' f) : Ok M P n W Q c L f := by subst e; exact h
theorem fin_cast {L' : List Blk} {x : Exit} (e : L = L') (h : Fin M n W Q x L' f) : Fin M n W Q x L f := by subst e; exact h
theorem ok_take {L' : List Blk} {c : Code} (hs : ∀ w, Own M W w L → Own M W w L') (h : Ok M P n W Q c L' f) : Ok M P n W Q c L f := ⟨fun w hO => h.go w (hs w hO)⟩
theorem s_take {L' : List Blk} (hs : ∀ w, Own M W w L → Own M W w L') (h : Seg M P n ops W Q rest L' f) : Seg M P n ops W Q rest L f := ⟨fun w hO => h.go w (hs w hO)⟩
theorem fin_take {L' : List Blk} {x : Exit} (hs : ∀ w, Own M W w L → Own M W w L') (h : Fin M n W Q x L' f) : Fin M n W Q x L f := ⟨fun w hO => h.go w (hs w hO)⟩
theorem h_cast {L' : List Blk} (e : L = L') (h : HSeg M P n ops W L0 Q fuel listed L' f) : HSeg M P n ops W L0 Q fuel listed L f := by subst e; exact h
/-- The start: L0, of the blocks at hand those that nobody in the region writes. -/
theorem ok_anyhL {id : Nat} {l : List Oper} (L0 : List Blk) (hm : P.follows .mixedOrders = true) (hsub : ∀ w, Own M W w L → Own M W w L0) (h : HSeg M P n l.toArray W L0 Q l.length (Array.replicate l.length false) L f) : Ok M P n W Q (.region id l.toArray true) L f := ⟨fun w hO =>
  wp_region_held (id := id) (S := fun w => Own M W w L0) hm (ops := l.toArray) (Q := Q) (a := Fr n f) (w := w) (by simpa using h.go _ hO.drew)⟩
theorem hl_take (i : Nat) (oi : Oper) (v : Value) (hi : ops[i]? = some oi) (hs : Region.noSelect ops = true) (hf : Region.free .any ops listed i = true) (hr : (Region.ready .any ops listed).contains i = true)
    (hQ : PQ Q) (hsub : ∀ w, Own M W w L → Own M W w L0) (hw : want ops n f oi = true) (hv : ∀ w, Own M W w L0 → (execOp (ev n f) oi).run P w = .ok (.value v) w)
    (h : HSeg M P n ops W L0 Q fuel (listed.setIfInBounds i true) L (upd f oi.dst v)) : HSeg M P n ops W L0 Q (fuel + 1) listed L f := ⟨fun w hO => by
  refine wpAnyH_take hi hs hf hr (fun c a w h => hQ c a _ _ w h) (Or.inl ⟨by rw [want_eq]; exact hw, fun w hw' => by rw [Fr_eval]; exact hv w hw'⟩) (hsub w hO) ?_
  rw [Fr_put]
  exact h.go w hO⟩
theorem hl_skip (i : Nat) (oi : Oper) (hi : ops[i]? = some oi) (hs : Region.noSelect ops = true) (hf : Region.free .any ops listed i = true) (hr : (Region.ready .any ops listed).contains i = true)
    (hQ : PQ Q) (hsub : ∀ w, Own M W w L → Own M W w L0) (hw : want ops n f oi = false)
    (h : HSeg M P n ops W L0 Q fuel (listed.setIfInBounds i true) L (upd f oi.dst undef)) : HSeg M P n ops W L0 Q (fuel + 1) listed L f := ⟨fun w hO => by
  refine wpAnyH_take hi hs hf hr (fun c a w h => hQ c a _ _ w h) (Or.inr ⟨by rw [want_eq]; exact hw, rfl⟩) (hsub w hO) ?_
  rw [Fr_put]
  exact h.go w hO⟩
theorem hl_load (i : Nat) (oi : Oper) (k : Nat) (x : Blk) {ty : TypeId} {p : Operand} {off : Nat} (v : Value) (hi : ops[i]? = some oi) (hs : Region.noSelect ops = true) (hf : Region.free .any ops listed i = true) (hr : (Region.ready .any ops listed).contains i = true)
    (hQ : PQ Q) (hsub : ∀ w, Own M W w L → Own M W w L0) (hw : want ops n f oi = true) (ho : oi.op = .load ty p) (hL : L0[k]? = some x) (hp : ev n f p = .pointer (some ⟨x.b, off, none⟩)) (hv : readAt P ty x.cs off = some v)
    (h : HSeg M P n ops W L0 Q fuel (listed.setIfInBounds i true) L (upd f oi.dst v)) : HSeg M P n ops W L0 Q (fuel + 1) listed L f :=
  hl_take i oi v hi hs hf hr hQ hsub hw (fun _ hO => run_load_op ho hp (run_readAt hv (hO.get hL))) h
theorem hl_old (i : Nat) (oi : Oper) {ty : TypeId} {p : Operand} {a : Addr} (v : Value) (hi : ops[i]? = some oi) (hs : Region.noSelect ops = true) (hf : Region.free .any ops listed i = true) (hr : (Region.ready .any ops listed).contains i = true)
    (hQ : PQ Q) (hsub : ∀ w, Own M W w L → Own M W w L0) (hw : want ops n f oi = true) (ho : oi.op = .load ty p) (hp : ev n f p = .pointer (some a)) (hv : ∀ w, Own M W w L0 → (loadVar ty a).run P w = .ok v w)
    (h : HSeg M P n ops W L0 Q fuel (listed.setIfInBounds i true) L (upd f oi.dst v)) : HSeg M P n ops W L0 Q (fuel + 1) listed L f :=
  hl_take i oi v hi hs hf hr hQ hsub hw (fun w hO => run_load_op ho hp (hv w hO)) h
/-- An operation that is carried out: what it leaves. -/
theorem hl_step {i : Nat} (oi : Oper) (hi : ops[i]? = some oi) (hw : want ops n f oi = true) (L' : World → Value → List Blk → Prop)
    (h : ∀ w, Own M W w L → oi.wp P (Fr n f) w (fun a' w' => ∃ L' f', a' = Fr n f' ∧ Own M W w' L' ∧ Own M W w' L0 ∧ HSeg M P n ops W L0 Q fuel (listed.setIfInBounds i true) L' f') Q) : HStep M P n ops W L0 Q fuel listed i L f :=
  hs_step hi hw fun w hO => by
    refine Oper.wp_mono (fun a' w' ⟨L', f', e, h1, h2, h3⟩ => ?_) (h w hO)
    subst e
    exact ⟨h2, h3.go w' h1⟩
theorem hl_val {i : Nat} (oi : Oper) (v : Value) (hi : ops[i]? = some oi) (hw : want ops n f oi = true) (hsub : ∀ w, Own M W w L → Own M W w L0) (hv : ∀ w, Own M W w L → (execOp (ev n f) oi).run P w = .ok (.value v) w)
    (h : HSeg M P n ops W L0 Q fuel (listed.setIfInBounds i true) L (upd f oi.dst v)) : HStep M P n ops W L0 Q fuel listed i L f :=
  hs_step hi hw fun w hO => wp_val v (hv w hO) ⟨hsub w hO, h.go w hO⟩
theorem hl_call {i : Nat} (oi : Oper) {k : FuncId} {args : Array Value} (v : Value) (hi : ops[i]? = some oi) (hw : want ops n f oi = true) (hsub : ∀ w, Own M W w L → Own M W w L0) (he : ∀ w, (execOp (ev n f) oi).run P w = .ok (.enter k args) w)
    (hc : ∀ w, Own M W w L → Calls P k args w fun e w' => e = .returned v ∧ Below w.heap.size w w') (h : HSeg M P n ops W L0 Q fuel (listed.setIfInBounds i true) L (upd f oi.dst v)) : HStep M P n ops W L0 Q fuel listed i L f :=
  hs_step hi hw fun w hO => wp_enter (he w) ((hc w hO).mono fun e w' ⟨e1, e2⟩ => ⟨v, e1, hsub w' (hO.on e2), h.go w' (hO.on e2)⟩)
/-- A call that hands back something in new memory, or that writes into what it was lent. -/
theorem hl_callx {i : Nat} (oi : Oper) {k : FuncId} {args : Array Value} (R : Value → List Blk → Prop) (hi : ops[i]? = some oi) (hw : want ops n f oi = true) (he : ∀ w, (execOp (ev n f) oi).run P w = .ok (.enter k args) w)
    (hc : ∀ w, Own M W w L → Calls P k args w fun e w' => ∃ v L', e = .returned v ∧ R v L' ∧ Own M W w' L') (hsub : ∀ v L', R v L' → ∀ w, Own M W w L' → Own M W w L0)
    (h : ∀ v L', R v L' → HSeg M P n ops W L0 Q fuel (listed.setIfInBounds i true) L' (upd f oi.dst v)) : HStep M P n ops W L0 Q fuel listed i L f :=
  hs_step hi hw fun w hO => wp_enter (he w) ((hc w hO).mono fun e w' ⟨v, L', e1, e2, e3⟩ => ⟨v, e1, hsub v L' e2 w' e3, (h v L' e2).go w' e3⟩)
theorem hl_append {i0 : Nat} {E ob R : List Blk} (oi : Oper) {t T : TypeId} {s x : Operand} {i : TypeInfo} {z : Value} {sz : Nat} (hi0 : ops[i0]? = some oi) (hw : want ops n f oi = true) (ho : oi.op = .call { callee := .builtin .append, args := #[s, x], argTypes := #[t, t] })
    (ht : P.underlying t = some (.slice T)) (hi : P.info? T = some i) (hz : i.zero = some z) (hsz : i.size = sz) (hzs : z.cells.size = sz)
    {v : Value} {m0 : Nat} {xs : List Value} (hs : ev n f s = v) (hv : Sl T sz v m0 xs ob) {a : Addr} {m c : Nat} {news : List Value} (hx : ev n f x = .slice (some a) m c)
    (hl : news.length = m * sz) (hnews : ∀ w, Own M W w (E ++ ob ++ R) → ∀ j u, news[j]? = some u → w.cell? (a.add j) = some u) (h1 : ∀ u ∈ news, u.oneCell' = true)
    (h63 : m0 + m ≤ maxLen) (hbytes : (m0 + m) * i.bytes ≤ 140737488355328) (hsub : ∀ ob' w, Own M W w (E ++ ob' ++ R) → Own M W w L0)
    (h : ∀ v' ob', Sl T sz v' (m0 + m) (xs ++ news) ob' → HSeg M P n ops W L0 Q fuel (listed.setIfInBounds i0 true) (E ++ ob' ++ R) (upd f oi.dst v')) : HStep M P n ops W L0 Q fuel listed i0 (E ++ ob ++ R) f :=
  hs_step hi0 hw fun w hO => by
    obtain ⟨v', w', ob', hr, h2, h3⟩ := own_append (P := P) (ty := oi.type) (c := c) ht hi hz hsz hzs hv hO hl (hnews w hO) h1 h63 hbytes
    refine wp_val v' (w' := w') ?_ ⟨hsub ob' w' h3, (h v' ob' h2).go w' h3⟩
    unfold execOp
    simp only [ho, resolve, invoke, builtin, Sem.run_bind, Sem.run_pure, Result.andThen_ok, List.map_toArray, List.map_cons, List.map_nil, hs, hx, hr]
theorem hl_append_nil {i0 : Nat} {ob : List Blk} (oi : Oper) {t T : TypeId} {s x : Operand} {i : TypeInfo} {sz : Nat} (hi0 : ops[i0]? = some oi) (hw : want ops n f oi = true) (hsub : ∀ w, Own M W w L → Own M W w L0) (ho : oi.op = .call { callee := .builtin .append, args := #[s, x], argTypes := #[t, t] })
    (ht : P.underlying t = some (.slice T)) (hi : P.info? T = some i) {v : Value} {m0 : Nat} {xs : List Value} (hs : ev n f s = v) (hv : Sl T sz v m0 xs ob) (hx : ev n f x = .slice none 0 0)
    (h : HSeg M P n ops W L0 Q fuel (listed.setIfInBounds i0 true) L (upd f oi.dst v)) : HStep M P n ops W L0 Q fuel listed i0 L f :=
  hs_step hi0 hw fun w hO => by
    refine wp_val v (w' := w) ?_ ⟨hsub w hO, h.go w hO⟩
    unfold execOp
    simp only [ho, resolve, invoke, builtin, Sem.run_bind, Sem.run_pure, Result.andThen_ok, List.map_toArray, List.map_cons, List.map_nil, hs, hx, own_append_nil ht hi hv 0]
theorem hl_lit {i0 : Nat} (oi : Oper) {t : TypeId} {len : Nat} {parts : Array (Nat × Operand)} (T : TypeId) (cs : Array Value) (hi0 : ops[i0]? = some oi) (hw : want ops n f oi = true) (ho : oi.op = .buildSlice t len parts) (hsub : ∀ w, Own M W w L → Own M W w L0)
    (hr : ∀ w, (execOp (ev n f) oi).run P w = .ok (.value (.slice (some ⟨w.heap.size, 0, none⟩) len len)) (w.alloc (.cells cs T)))
    (h : ∀ b, HSeg M P n ops W L0 Q fuel (listed.setIfInBounds i0 true) (⟨b, cs, T⟩ :: L) (upd f oi.dst (.slice (some ⟨b, 0, none⟩) len len))) : HStep M P n ops W L0 Q fuel listed i0 L f :=
  hs_step hi0 hw fun w hO => by
    have hO' := hO.alloc cs T
    refine wp_val _ (hr w) ⟨?_, (h w.heap.size).go _ hO'⟩
    exact hsub _ (Own.sub [⟨w.heap.size, cs, T⟩] hO')
/-- A caller's list of blocks behind a call that has taken over ob and left ob'. -/
theorem Own.join {ob ob' R : List Blk} {w w' : World} (h : Own M W w (ob ++ R)) (hc : Own (ob.map Blk.b) w w' ob') : Own M W w' (ob' ++ R) := by
  have hap := h.apart
  rw [List.map_append, List.nodup_append] at hap
  have notob : ∀ x ∈ R, x.b ∉ ob.map Blk.b := fun x hx hm => hap.2.2 x.b hm x.b (List.mem_map.2 ⟨x, hx, rfl⟩) rfl
  have ltR : ∀ x ∈ R, x.b < w.heap.size := fun x hx => h.lt (List.mem_append_right ob hx)
  have newob : ∀ x ∈ ob', x.b ∉ R.map Blk.b := fun x hx hm => by
    obtain ⟨y, hy, e⟩ := List.mem_map.1 hm
    rcases hc.base x hx with h1 | h1
    · have := ltR y hy; omega
    · exact notob y hy (e ▸ h1)
  refine ⟨hc.os.trans h.os, hc.tape.trans h.tape, hc.output.trans h.output, Nat.le_trans h.size hc.size, Nat.le_trans h.drawn hc.drawn, fun k hk hm => ?_, fun x hx => ?_, fun x hx => ?_, ?_⟩
  · rw [hc.kept k (Nat.lt_of_lt_of_le hk h.size) (fun hmem => by
      obtain ⟨y, hy, e⟩ := List.mem_map.1 hmem
      rcases h.base y (List.mem_append_left R hy) with h1 | h1
      · omega
      · exact hm (e ▸ h1))]
    exact h.kept k hk hm
  · rcases List.mem_append.1 hx with hx | hx
    · exact hc.held x hx
    · rw [hc.kept x.b (ltR x hx) (notob x hx)]
      exact h.held x (List.mem_append_right ob hx)
  · rcases List.mem_append.1 hx with hx | hx
    · rcases hc.base x hx with h1 | h1
      · exact .inl (Nat.le_trans h.size h1)
      · obtain ⟨y, hy, e⟩ := List.mem_map.1 h1
        rw [← e]; exact h.base y (List.mem_append_left R hy)
    · exact h.base x (List.mem_append_right ob hx)
  · rw [List.map_append, List.nodup_append]
    refine ⟨hc.apart, hap.2.1, fun a ha b hb e => ?_⟩
    obtain ⟨x, hx, rfl⟩ := List.mem_map.1 ha
    exact newob x hx (e ▸ hb)
/-- The same for a call that has taken nothing over. -/
theorem Own.joinN {ob' R : List Blk} {w w' : World} (h : Own M W w R) (hc : Own [] w w' ob') : Own M W w' (ob' ++ R) := Own.join (ob := []) h hc
end
section
variable {P : Program} {n : Nat} {W : World} {f : Nat → Value} {Q : Exit → Act → World → Prop} {M : List Nat} {ops : Array Oper} {rest : List Oper} {o : Oper} {L : List Blk}
/-- In, with blocks that the caller lends. -/
theorem calls_okL {k : FuncId} {fn : Func} {c : Code} {args : Array Value} {R : Ending → World → Prop} (hO : Own M W W L) (hf : P.funcs[k]? = some fn) (hb : fn.body = some c) (hn : fn.ntmps = n) (hle : Nat.ble args.size n = true)
    (h : Ok M P n W (bodyPost P fn R) c L (fun t => args.getD t undef)) : Calls P k args W R := by
  have h2 : Ok M P n W (bodyPost P fn R) c [] (fun t => args.getD t undef) → Calls P k args W R := calls_okM M hf hb hn hle
  refine calls_of_wp hf hb ?_
  have hle' : args.size ≤ n := Nat.le_of_ble_eq_true hle
  have e : ({ tmps := args ++ Array.replicate (fn.ntmps - args.size) undef, defers := [] } : Act) = Fr n (fun t => args.getD t undef) := by
    unfold Fr
    congr 1
    rw [hn]
    apply Array.ext_getElem?
    intro i
    rw [Array.getElem?_ofFn, Array.getElem?_append, Array.getElem?_replicate]
    by_cases hi : i < args.size
    · rw [if_pos hi, dif_pos (by omega), Array.getElem?_eq_getElem hi]
      simp [Array.getD, hi]
    · rw [if_neg hi]
      by_cases hin : i < n
      · rw [if_pos (by omega), dif_pos hin]
        simp [Array.getD, hi]
      · rw [if_neg (by omega), dif_neg hin]
  rw [e]
  exact h.go W hO
theorem Sl.block {T sz m : Nat} {A : Option Addr} {cap : Nat} {xs : List Value} {ob : List Blk} (h : Sl T sz (.slice A m cap) m xs ob) (h0 : 0 < m) : ∃ g cur, A = some ⟨g, 0, none⟩ ∧ ob = [⟨g, cur, T⟩] ∧ m ≤ cap ∧ cap ≤ maxLen ∧ cur.size = cap * sz ∧ cur.toList.take (m * sz) = xs := by
  rcases h.2 with ⟨_, h2, _⟩ | ⟨g, c, cur, e, e2, h3, h4, h5, h6⟩
  · omega
  · simp only [Value.slice.injEq] at e
    obtain ⟨rfl, _, rfl⟩ := e
    exact ⟨g, cur, rfl, e2, h3, h4, h5, h6⟩
/-- A part of an element, out of the slice's block. -/
theorem read_part {α : Type} {g : α → List Value} {sz : Nat} (hg : ∀ x, (g x).length = sz) {ty : TypeId} {cur : Array Value} {l : List α} (ht : cur.toList.take (l.length * sz) = l.flatMap g) (k fo : Nat) (hk : k < l.length) (hfo : fo ≤ sz) (v : Value)
    (hr : readAt P ty ((g l[k]).drop fo).toArray 0 = some v) : readAt P ty cur (k * sz + fo) = some v := by
  have hcur : l.length * sz ≤ cur.size := by
    have := congrArg List.length ht
    rw [List.length_take, flat_len hg] at this
    simp at this; omega
  have hks : k * sz + sz ≤ l.length * sz := by rw [← Nat.succ_mul]; exact Nat.mul_le_mul_right _ hk
  have hat : ∀ j u, ((g l[k]).drop fo)[j]? = some u → cur.toList[k * sz + fo + j]? = some u := fun j u hj => by
    rw [List.getElem?_drop] at hj
    have h1 : fo + j < sz := by
      have := (List.getElem?_eq_some_iff.1 hj).1
      rw [hg] at this; exact this
    have h2 : (l.flatMap g)[k * sz + (fo + j)]? = some u := by
      have := flat_at hg l k hk
      rw [← this, List.getElem?_take, if_pos h1, List.getElem?_drop] at hj
      exact hj
    rw [← ht, List.getElem?_take, if_pos (by omega)] at h2
    rw [show k * sz + fo + j = k * sz + (fo + j) from by omega]; exact h2
  unfold readAt at hr ⊢
  cases hu : P.underlying ty with
  | none => rw [hu] at hr; simp at hr
  | some d =>
    cases hi : P.info? ty with
    | none => rw [hu, hi] at hr; cases d <;> simp at hr
    | some i =>
      rw [hu, hi] at hr
      by_cases hd : aggB d = true
      · have h2 : (if 0 + i.size ≤ ((g l[k]).drop fo).toArray.size then some (Value.agg (((g l[k]).drop fo).toArray.toList.drop 0 |>.take i.size).toArray) else none) = some v := by
          cases d <;> first | exact hr | (simp [aggB] at hd)
        have h3 : (if (k * sz + fo) + i.size ≤ cur.size then some (Value.agg (cur.toList.drop (k * sz + fo) |>.take i.size).toArray) else none) = some v := by
          split at h2
          · rename_i hle
            simp only [List.size_toArray, List.length_drop, hg] at hle
            rw [if_pos (by omega), ← h2]
            congr 2
            congr 1
            apply List.ext_getElem?
            intro j
            rw [List.getElem?_take, List.getElem?_take]
            split
            · rename_i hj
              rw [List.getElem?_drop]
              simp only [List.drop_zero]
              have : ∃ u, ((g l[k]).drop fo)[j]? = some u := ⟨_, List.getElem?_eq_getElem (by rw [List.length_drop, hg]; omega)⟩
              obtain ⟨u, hu⟩ := this
              rw [hat j u hu, hu]
            · rfl
          · cases h2
        cases d <;> first | exact h3 | (simp [aggB] at hd)
      · have h2 : ((g l[k]).drop fo).toArray[0]? = some v := by cases d <;> first | exact hr | (simp [aggB] at hd)
        have h3 : cur[k * sz + fo]? = some v := by
          have := hat 0 v (by simpa using h2)
          simpa using this
        cases d <;> first | exact h3 | (simp [aggB] at hd)
end
section
variable {P : Program} {n : Nat} {W : World} {f : Nat → Value} {Q : Exit → Act → World → Prop} {M : List Nat} {ops : Array Oper} {rest : List Oper} {o : Oper} {L : List Blk}
theorem s_storeS (i : Nat) (x : Blk) {T : TypeId} {p q : Operand} {off : Nat} (v : Value) (sz : Nat) (hw : want ops n f o = true) (ho : o.op = .store T p q) (hd : o.dst = none) (hL : L[i]? = some x)
    (hp : ev n f p = .pointer (some ⟨x.b, off, none⟩)) (hq : ev n f q = v) (hz : (P.info? T).map (·.size) = some sz) (hs : v.cells.size = sz) (hle : off + sz ≤ x.cs.size) (h1 : (v.cells.toList.all fun u => u.oneCell') = true)
    (h : Seg M P n ops W Q rest (L.set i ⟨x.b, storeIn x.cs off v.cells, x.ty⟩) f) : Seg M P n ops W Q (o :: rest) L f := by
  cases ht : P.info? T with
  | none => rw [ht] at hz; cases hz
  | some t =>
    rw [ht] at hz
    have e : t.size = sz := Option.some.inj hz
    exact s_store i x v hw ho hd hL hp hq ht (by rw [hs, e]) (by rw [e]; exact hle) (List.all_eq_true.1 h1) h
theorem store_elem {α : Type} {g : α → List Value} {sz : Nat} (hg : ∀ x, (g x).length = sz) {cur : Array Value} {l : List α} (ht : cur.toList.take (l.length * sz) = l.flatMap g) (k fo : Nat) (hk : k < l.length) (vs : Array Value) (y : α) (hfit : fo + vs.size ≤ sz)
    (hy : g y = (g l[k]).take fo ++ vs.toList ++ (g l[k]).drop (fo + vs.size)) : (storeIn cur (k * sz + fo) vs).toList.take (l.length * sz) = (l.set k y).flatMap g ∧ (storeIn cur (k * sz + fo) vs).size = cur.size := by
  obtain ⟨R, hR⟩ : ∃ R, cur.toList = l.flatMap g ++ R := ⟨cur.toList.drop (l.length * sz), by rw [← ht]; exact (List.take_append_drop _ _).symm⟩
  have hsplit : l.flatMap g = (l.take k).flatMap g ++ (g l[k] ++ (l.drop (k + 1)).flatMap g) := by
    rw [← List.flatMap_cons, ← List.drop_eq_getElem_cons hk, ← List.flatMap_append, List.take_append_drop]
  obtain ⟨A, hA⟩ : ∃ A, (l.take k).flatMap g = A := ⟨_, rfl⟩
  obtain ⟨B, hB⟩ : ∃ B, (l.drop (k + 1)).flatMap g = B := ⟨_, rfl⟩
  obtain ⟨G, hG⟩ : ∃ G, g l[k] = G := ⟨_, rfl⟩
  have lA : A.length = k * sz := by rw [← hA, flat_len hg, List.length_take, Nat.min_eq_left (by omega)]
  have lG : G.length = sz := by rw [← hG]; exact hg _
  have lB : B.length = (l.length - (k + 1)) * sz := by rw [← hB, flat_len hg, List.length_drop]
  have tot : k * sz + sz + (l.length - (k + 1)) * sz = l.length * sz := by
    rw [← Nat.succ_mul, ← Nat.add_mul]; congr 1; omega
  rw [hA, hB, hG] at hsplit
  rw [hG] at hy
  have hset : (l.set k y).flatMap g = A ++ (g y ++ B) := by
    rw [List.set_eq_take_append_cons_drop, if_pos hk, List.flatMap_append, List.flatMap_cons, hA, hB]
  have hcur : cur.toList = A ++ (G ++ (B ++ R)) := by rw [hR, hsplit]; simp only [List.append_assoc]
  have e1 : cur.toList.take (k * sz + fo) = A ++ G.take fo := by
    rw [hcur, ← lA, List.take_length_add_append, List.take_append_of_le_length (by omega)]
  have e2 : cur.toList.drop (k * sz + fo + vs.size) = G.drop (fo + vs.size) ++ (B ++ R) := by
    rw [hcur, ← lA, Nat.add_assoc, List.drop_length_add_append, List.drop_append_of_le_length (by omega)]
  have e3 : (storeIn cur (k * sz + fo) vs).toList = A ++ (g y ++ (B ++ R)) := by
    unfold storeIn
    rw [e1, e2, hy]; simp only [List.append_assoc]
  constructor
  · rw [e3, hset]
    have : A ++ (g y ++ (B ++ R)) = (A ++ (g y ++ B)) ++ R := by simp only [List.append_assoc]
    rw [this]
    exact List.take_left' (by rw [List.length_append, List.length_append, lA, lB, hg]; omega)
  · have h1 := congrArg List.length e3
    have h2 := congrArg List.length hcur
    simp only [List.length_append, Array.length_toList, hg, lG] at h1 h2
    omega
end
end Go.Proofs.Ytjgmmeienchfnaa
