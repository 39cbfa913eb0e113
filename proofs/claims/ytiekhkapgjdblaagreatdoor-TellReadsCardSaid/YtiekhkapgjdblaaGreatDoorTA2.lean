/-
  What the statement's proof leans on: the ways of walking, jY mathematics, and what the program's functions return; each theorem says on what conditions.
-/
import Derived.Laws.Slices
import Derived.Laws.MakeOwn
import Derived.Lib.BufferWrite
import Derived.Lib.UnsafeStr
import Derived.Deep.RegionHeld3
import Derived.IntWalk
import Derived.Outline
import Derived.StillTailTactics
import Derived.Laws.StructEq
import Derived.WalkLawsBesides
import Derived.Test.YtiekhkapgjdblaaGreatDoorTA1
set_option maxRecDepth 1000000
set_option maxHeartbeats 8000000
set_option linter.unusedVariables false
set_option linter.unusedSimpArgs false
namespace Go.Proofs.YtiekhkapgjdblaaGreatDoor
open Go.RowKit

section
section
variable {M : List Nat} {P : Program} {n : Nat} {ops : Array Oper} {W : World} {Q : Exit → Act → World → Prop} {L0 L : List Blk} {f : Nat → Value} {fuel : Nat} {listed : Array Bool} {rest : List Oper} {o : Oper}
theorem kI {L' : List Blk} (e : L = L') (h : Seg M P n ops W Q rest L' f) : Seg M P n ops W Q rest L f := by subst e; exact h
theorem qS {L' : List Blk} {c : Code} (e : L = L') (h : Ok M P n W Q c L' f) : Ok M P n W Q c L f := by subst e; exact h
theorem fE {L' : List Blk} {x : Exit} (e : L = L') (h : Fin M n W Q x L' f) : Fin M n W Q x L f := by subst e; exact h
theorem ok_take {L' : List Blk} {c : Code} (hs : ∀ w, Own M W w L → Own M W w L') (h : Ok M P n W Q c L' f) : Ok M P n W Q c L f := ⟨fun w hO => h.go w (hs w hO)⟩
theorem yY {L' : List Blk} (hs : ∀ w, Own M W w L → Own M W w L') (h : Seg M P n ops W Q rest L' f) : Seg M P n ops W Q rest L f := ⟨fun w hO => h.go w (hs w hO)⟩
theorem xT {L' : List Blk} {x : Exit} (hs : ∀ w, Own M W w L → Own M W w L') (h : Fin M n W Q x L' f) : Fin M n W Q x L f := ⟨fun w hO => h.go w (hs w hO)⟩
theorem fC {L' : List Blk} (e : L = L') (h : v7 M P n ops W L0 Q fuel listed L' f) : v7 M P n ops W L0 Q fuel listed L f := by subst e; exact h
theorem bN {id : Nat} {l : List Oper} (L0 : List Blk) (hm : P.follows .mixedOrders = true) (hsub : ∀ w, Own M W w L → Own M W w L0) (h : v7 M P n l.toArray W L0 Q l.length (Array.replicate l.length false) L f) : Ok M P n W Q (.region id l.toArray true) L f := ⟨fun w hO =>
  wp_region_held (id := id) (S := fun w => Own M W w L0) hm (ops := l.toArray) (Q := Q) (a := Fr n f) (w := w) (by simpa using h.go _ hO.drew)⟩
theorem yP (i : Nat) (oi : Oper) (v : Value) (hi : ops[i]? = some oi) (hs : Region.noSelect ops = true) (hf : Region.free .any ops listed i = true) (hr : (Region.ready .any ops listed).contains i = true)
    (hQ : PQ Q) (hsub : ∀ w, Own M W w L → Own M W w L0) (hw : xD ops n f oi = true) (hv : ∀ w, Own M W w L0 → (execOp (ev n f) oi).run P w = .ok (.value v) w)
    (h : v7 M P n ops W L0 Q fuel (listed.setIfInBounds i true) L (upd f oi.dst v)) : v7 M P n ops W L0 Q (fuel + 1) listed L f := ⟨fun w hO => by
  refine wpAnyH_take hi hs hf hr (fun c a w h => hQ c a _ _ w h) (Or.inl ⟨by rw [wL]; exact hw, fun w hw' => by rw [vP]; exact hv w hw'⟩) (hsub w hO) ?_
  rw [wH]
  exact h.go w hO⟩
theorem hl_load (i : Nat) (oi : Oper) (k : Nat) (x : Blk) {ty : TypeId} {p : Operand} {off : Nat} (v : Value) (hi : ops[i]? = some oi) (hs : Region.noSelect ops = true) (hf : Region.free .any ops listed i = true) (hr : (Region.ready .any ops listed).contains i = true)
    (hQ : PQ Q) (hsub : ∀ w, Own M W w L → Own M W w L0) (hw : xD ops n f oi = true) (ho : oi.op = .load ty p) (hL : L0[k]? = some x) (hp : ev n f p = .pointer (some ⟨x.b, off, none⟩)) (hv : kA P ty x.cs off = some v)
    (h : v7 M P n ops W L0 Q fuel (listed.setIfInBounds i true) L (upd f oi.dst v)) : v7 M P n ops W L0 Q (fuel + 1) listed L f :=
  yP i oi v hi hs hf hr hQ hsub hw (fun _ hO => gH ho hp (qB hv (hO.get hL))) h
theorem hl_old (i : Nat) (oi : Oper) {ty : TypeId} {p : Operand} {a : Addr} (v : Value) (hi : ops[i]? = some oi) (hs : Region.noSelect ops = true) (hf : Region.free .any ops listed i = true) (hr : (Region.ready .any ops listed).contains i = true)
    (hQ : PQ Q) (hsub : ∀ w, Own M W w L → Own M W w L0) (hw : xD ops n f oi = true) (ho : oi.op = .load ty p) (hp : ev n f p = .pointer (some a)) (hv : ∀ w, Own M W w L0 → (loadVar ty a).run P w = .ok v w)
    (h : v7 M P n ops W L0 Q fuel (listed.setIfInBounds i true) L (upd f oi.dst v)) : v7 M P n ops W L0 Q (fuel + 1) listed L f :=
  yP i oi v hi hs hf hr hQ hsub hw (fun w hO => gH ho hp (hv w hO)) h
theorem fB {i : Nat} (oi : Oper) {k : FuncId} {args : Array Value} (R : Value → List Blk → Prop) (hi : ops[i]? = some oi) (hw : xD ops n f oi = true) (he : ∀ w, (execOp (ev n f) oi).run P w = .ok (.enter k args) w)
    (hc : ∀ w, Own M W w L → Calls P k args w fun e w' => ∃ v L', e = .returned v ∧ R v L' ∧ Own M W w' L') (hsub : ∀ v L', R v L' → ∀ w, Own M W w L' → Own M W w L0)
    (h : ∀ v L', R v L' → v7 M P n ops W L0 Q fuel (listed.setIfInBounds i true) L' (upd f oi.dst v)) : bW M P n ops W L0 Q fuel listed i L f :=
  hU hi hw fun w hO => nQ (he w) ((hc w hO).mono fun e w' ⟨v, L', e1, e2, e3⟩ => ⟨v, e1, hsub v L' e2 w' e3, (h v L' e2).go w' e3⟩)
theorem kX {i0 : Nat} {E ob R : List Blk} (oi : Oper) {t T : TypeId} {s x : Operand} {i : TypeInfo} {z : Value} {sz : Nat} (hi0 : ops[i0]? = some oi) (hw : xD ops n f oi = true) (ho : oi.op = .call { callee := .builtin .append, args := #[s, x], argTypes := #[t, t] })
    (ht : P.underlying t = some (.slice T)) (hi : P.info? T = some i) (hz : i.zero = some z) (hsz : i.size = sz) (hzs : z.cells.size = sz)
    {v : Value} {m0 : Nat} {xs : List Value} (hs : ev n f s = v) (hv : Sl T sz v m0 xs ob) {a : Addr} {m c : Nat} {news : List Value} (hx : ev n f x = .slice (some a) m c)
    (hl : news.length = m * sz) (hnews : ∀ w, Own M W w (E ++ ob ++ R) → ∀ j u, news[j]? = some u → w.cell? (a.add j) = some u) (h1 : ∀ u ∈ news, u.oneCell' = true)
    (h63 : m0 + m ≤ maxLen) (hbytes : (m0 + m) * i.bytes ≤ 140737488355328) (hsub : ∀ ob' w, Own M W w (E ++ ob' ++ R) → Own M W w L0)
    (h : ∀ v' ob', Sl T sz v' (m0 + m) (xs ++ news) ob' → v7 M P n ops W L0 Q fuel (listed.setIfInBounds i0 true) (E ++ ob' ++ R) (upd f oi.dst v')) : bW M P n ops W L0 Q fuel listed i0 (E ++ ob ++ R) f :=
  hU hi0 hw fun w hO => by
    obtain ⟨v', w', ob', hr, h2, h3⟩ := mZ (P := P) (ty := oi.type) (c := c) ht hi hz hsz hzs hv hO hl (hnews w hO) h1 h63 hbytes
    refine qN v' (w' := w') ?_ ⟨hsub ob' w' h3, (h v' ob' h2).go w' h3⟩
    unfold execOp
    simp only [ho, resolve, invoke, builtin, Sem.run_bind, Sem.run_pure, Result.andThen_ok, List.map_toArray, List.map_cons, List.map_nil, hs, hx, hr]
theorem hl_lit {i0 : Nat} (oi : Oper) {t : TypeId} {len : Nat} {parts : Array (Nat × Operand)} (T : TypeId) (cs : Array Value) (hi0 : ops[i0]? = some oi) (hw : xD ops n f oi = true) (ho : oi.op = .buildSlice t len parts) (hsub : ∀ w, Own M W w L → Own M W w L0)
    (hr : ∀ w, (execOp (ev n f) oi).run P w = .ok (.value (.slice (some ⟨w.heap.size, 0, none⟩) len len)) (w.alloc (.cells cs T)))
    (h : ∀ b, v7 M P n ops W L0 Q fuel (listed.setIfInBounds i0 true) (⟨b, cs, T⟩ :: L) (upd f oi.dst (.slice (some ⟨b, 0, none⟩) len len))) : bW M P n ops W L0 Q fuel listed i0 L f :=
  hU hi0 hw fun w hO => by
    have hO' := hO.alloc cs T
    refine qN _ (hr w) ⟨?_, (h w.heap.size).go _ hO'⟩
    exact hsub _ (Own.sub [⟨w.heap.size, cs, T⟩] hO')
theorem Own.join {ob ob' R : List Blk} {w w' : World} (h : Own M W w (ob ++ R)) (hc : Own (ob.map Blk.b) w w' ob') : Own M W w' (ob' ++ R) := by
  have hap := h.apart
  rw [List.map_append, List.nodup_append] at hap
  have notob : ∀ x ∈ R, x.b ∉ ob.map Blk.b := fun x hx hm => hap.2.2 x.b hm x.b (List.mem_map.2 ⟨x, hx, rfl⟩) rfl
  have ltR : ∀ x ∈ R, x.b < w.heap.size := fun x hx => h.lt (List.mem_append_right ob hx)
  have newob : ∀ x ∈ ob', x.b ∉ R.map Blk.b := fun x hx hm => by
    obtain ⟨y, hy, e⟩ := List.mem_map.1 hm
    rcases hc.base x hx with h1 | h1
    · have := ltR y hy; omega
    · exact notob y hy (e ▸ h1)
  refine ⟨hc.os.trans h.os, hc.tape.trans h.tape, hc.output.trans h.output, Nat.le_trans h.size hc.size, Nat.le_trans h.drawn hc.drawn, fun k hk hm => ?_, fun x hx => ?_, fun x hx => ?_, ?_⟩
  · rw [hc.kept k (Nat.lt_of_lt_of_le hk h.size) (fun hmem => by
      obtain ⟨y, hy, e⟩ := List.mem_map.1 hmem
      rcases h.base y (List.mem_append_left R hy) with h1 | h1
      · omega
      · exact hm (e ▸ h1))]
    exact h.kept k hk hm
  · rcases List.mem_append.1 hx with hx | hx
    · exact hc.held x hx
    · rw [hc.kept x.b (ltR x hx) (notob x hx)]
      exact h.held x (List.mem_append_right ob hx)
  · rcases List.mem_append.1 hx with hx | hx
    · rcases hc.base x hx with h1 | h1
      · exact .inl (Nat.le_trans h.size h1)
      · obtain ⟨y, hy, e⟩ := List.mem_map.1 h1
        rw [← e]; exact h.base y (List.mem_append_left R hy)
    · exact h.base x (List.mem_append_right ob hx)
  · rw [List.map_append, List.nodup_append]
    refine ⟨hc.apart, hap.2.1, fun a ha b hb e => ?_⟩
    obtain ⟨x, hx, rfl⟩ := List.mem_map.1 ha
    exact newob x hx (e ▸ hb)
theorem Own.joinN {ob' R : List Blk} {w w' : World} (h : Own M W w R) (hc : Own [] w w' ob') : Own M W w' (ob' ++ R) := Own.join (ob := []) h hc
end
section
variable {P : Program} {n : Nat} {W : World} {f : Nat → Value} {Q : Exit → Act → World → Prop} {M : List Nat} {ops : Array Oper} {rest : List Oper} {o : Oper} {L : List Blk}
theorem vY {k : FuncId} {fn : Func} {c : Code} {args : Array Value} {R : Ending → World → Prop} (hO : Own M W W L) (hf : P.funcs[k]? = some fn) (hb : fn.body = some c) (hn : fn.ntmps = n) (hle : Nat.ble args.size n = true)
    (h : Ok M P n W (bodyPost P fn R) c L (fun t => args.getD t undef)) : Calls P k args W R := by
  have h2 : Ok M P n W (bodyPost P fn R) c [] (fun t => args.getD t undef) → Calls P k args W R := calls_okM M hf hb hn hle
  refine calls_of_wp hf hb ?_
  have hle' : args.size ≤ n := Nat.le_of_ble_eq_true hle
  have e : ({ tmps := args ++ Array.replicate (fn.ntmps - args.size) undef, defers := [] } : Act) = Fr n (fun t => args.getD t undef) := by
    unfold Fr
    congr 1
    rw [hn]
    apply Array.ext_getElem?
    intro i
    rw [Array.getElem?_ofFn, Array.getElem?_append, Array.getElem?_replicate]
    by_cases hi : i < args.size
    · rw [if_pos hi, dif_pos (by omega), Array.getElem?_eq_getElem hi]
      simp [Array.getD, hi]
    · rw [if_neg hi]
      by_cases hin : i < n
      · rw [if_pos (by omega), dif_pos hin]
        simp [Array.getD, hi]
      · rw [if_neg (by omega), dif_neg hin]
  rw [e]
  exact h.go W hO
theorem Sl.block {T sz m : Nat} {A : Option Addr} {cap : Nat} {xs : List Value} {ob : List Blk} (h : Sl T sz (.slice A m cap) m xs ob) (h0 : 0 < m) : ∃ g cur, A = some ⟨g, 0, none⟩ ∧ ob = [⟨g, cur, T⟩] ∧ m ≤ cap ∧ cap ≤ maxLen ∧ cur.size = cap * sz ∧ cur.toList.take (m * sz) = xs := by
  rcases h.2 with ⟨_, h2, _⟩ | ⟨g, c, cur, e, e2, h3, h4, h5, h6⟩
  · omega
  · simp only [Value.slice.injEq] at e
    obtain ⟨rfl, _, rfl⟩ := e
    exact ⟨g, cur, rfl, e2, h3, h4, h5, h6⟩
theorem gT {α : Type} {g : α → List Value} {sz : Nat} (hg : ∀ x, (g x).length = sz) {ty : TypeId} {cur : Array Value} {l : List α} (ht : cur.toList.take (l.length * sz) = l.flatMap g) (k fo : Nat) (hk : k < l.length) (hfo : fo ≤ sz) (v : Value)
    (hr : kA P ty ((g l[k]).drop fo).toArray 0 = some v) : kA P ty cur (k * sz + fo) = some v := by
  have hcur : l.length * sz ≤ cur.size := by
    have := congrArg List.length ht
    rw [List.length_take, kM hg] at this
    simp at this; omega
  have hks : k * sz + sz ≤ l.length * sz := by rw [← Nat.succ_mul]; exact Nat.mul_le_mul_right _ hk
  have hat : ∀ j u, ((g l[k]).drop fo)[j]? = some u → cur.toList[k * sz + fo + j]? = some u := fun j u hj => by
    rw [List.getElem?_drop] at hj
    have h1 : fo + j < sz := by
      have := (List.getElem?_eq_some_iff.1 hj).1
      rw [hg] at this; exact this
    have h2 : (l.flatMap g)[k * sz + (fo + j)]? = some u := by
      have := flat_at hg l k hk
      rw [← this, List.getElem?_take, if_pos h1, List.getElem?_drop] at hj
      exact hj
    rw [← ht, List.getElem?_take, if_pos (by omega)] at h2
    rw [show k * sz + fo + j = k * sz + (fo + j) from by omega]; exact h2
  unfold kA at hr ⊢
  cases hu : P.underlying ty with
  | none => rw [hu] at hr; simp at hr
  | some d =>
    cases hi : P.info? ty with
    | none => rw [hu, hi] at hr; cases d <;> simp at hr
    | some i =>
      rw [hu, hi] at hr
      by_cases hd : m8 d = true
      · have h2 : (if 0 + i.size ≤ ((g l[k]).drop fo).toArray.size then some (Value.agg (((g l[k]).drop fo).toArray.toList.drop 0 |>.take i.size).toArray) else none) = some v := by
          cases d <;> first | exact hr | (simp [m8] at hd)
        have h3 : (if (k * sz + fo) + i.size ≤ cur.size then some (Value.agg (cur.toList.drop (k * sz + fo) |>.take i.size).toArray) else none) = some v := by
          split at h2
          · rename_i hle
            simp only [List.size_toArray, List.length_drop, hg] at hle
            rw [if_pos (by omega), ← h2]
            congr 2
            congr 1
            apply List.ext_getElem?
            intro j
            rw [List.getElem?_take, List.getElem?_take]
            split
            · rename_i hj
              rw [List.getElem?_drop]
              simp only [List.drop_zero]
              have : ∃ u, ((g l[k]).drop fo)[j]? = some u := ⟨_, List.getElem?_eq_getElem (by rw [List.length_drop, hg]; omega)⟩
              obtain ⟨u, hu⟩ := this
              rw [hat j u hu, hu]
            · rfl
          · cases h2
        cases d <;> first | exact h3 | (simp [m8] at hd)
      · have h2 : ((g l[k]).drop fo).toArray[0]? = some v := by cases d <;> first | exact hr | (simp [m8] at hd)
        have h3 : cur[k * sz + fo]? = some v := by
          have := hat 0 v (by simpa using h2)
          simpa using this
        cases d <;> first | exact h3 | (simp [m8] at hd)
end
section
variable {P : Program} {n : Nat} {W : World} {f : Nat → Value} {Q : Exit → Act → World → Prop} {M : List Nat} {ops : Array Oper} {rest : List Oper} {o : Oper} {L : List Blk}
theorem s_storeS (i : Nat) (x : Blk) {T : TypeId} {p q : Operand} {off : Nat} (v : Value) (sz : Nat) (hw : xD ops n f o = true) (ho : o.op = .store T p q) (hd : o.dst = none) (hL : L[i]? = some x)
    (hp : ev n f p = .pointer (some ⟨x.b, off, none⟩)) (hq : ev n f q = v) (hz : (P.info? T).map (·.size) = some sz) (hs : v.cells.size = sz) (hle : off + sz ≤ x.cs.size) (h1 : (v.cells.toList.all fun u => u.oneCell') = true)
    (h : Seg M P n ops W Q rest (L.set i ⟨x.b, kF x.cs off v.cells, x.ty⟩) f) : Seg M P n ops W Q (o :: rest) L f := by
  cases ht : P.info? T with
  | none => rw [ht] at hz; cases hz
  | some t =>
    rw [ht] at hz
    have e : t.size = sz := Option.some.inj hz
    exact s_store i x v hw ho hd hL hp hq ht (by rw [hs, e]) (by rw [e]; exact hle) (List.all_eq_true.1 h1) h
theorem store_elem {α : Type} {g : α → List Value} {sz : Nat} (hg : ∀ x, (g x).length = sz) {cur : Array Value} {l : List α} (ht : cur.toList.take (l.length * sz) = l.flatMap g) (k fo : Nat) (hk : k < l.length) (vs : Array Value) (y : α) (hfit : fo + vs.size ≤ sz)
    (hy : g y = (g l[k]).take fo ++ vs.toList ++ (g l[k]).drop (fo + vs.size)) : (kF cur (k * sz + fo) vs).toList.take (l.length * sz) = (l.set k y).flatMap g ∧ (kF cur (k * sz + fo) vs).size = cur.size := by
  obtain ⟨R, hR⟩ : ∃ R, cur.toList = l.flatMap g ++ R := ⟨cur.toList.drop (l.length * sz), by rw [← ht]; exact (List.take_append_drop _ _).symm⟩
  have hsplit : l.flatMap g = (l.take k).flatMap g ++ (g l[k] ++ (l.drop (k + 1)).flatMap g) := by
    rw [← List.flatMap_cons, ← List.drop_eq_getElem_cons hk, ← List.flatMap_append, List.take_append_drop]
  obtain ⟨A, hA⟩ : ∃ A, (l.take k).flatMap g = A := ⟨_, rfl⟩
  obtain ⟨B, hB⟩ : ∃ B, (l.drop (k + 1)).flatMap g = B := ⟨_, rfl⟩
  obtain ⟨G, hG⟩ : ∃ G, g l[k] = G := ⟨_, rfl⟩
  have lA : A.length = k * sz := by rw [← hA, kM hg, List.length_take, Nat.min_eq_left (by omega)]
  have lG : G.length = sz := by rw [← hG]; exact hg _
  have lB : B.length = (l.length - (k + 1)) * sz := by rw [← hB, kM hg, List.length_drop]
  have tot : k * sz + sz + (l.length - (k + 1)) * sz = l.length * sz := by
    rw [← Nat.succ_mul, ← Nat.add_mul]; congr 1; omega
  rw [hA, hB, hG] at hsplit
  rw [hG] at hy
  have hset : (l.set k y).flatMap g = A ++ (g y ++ B) := by
    rw [List.set_eq_take_append_cons_drop, if_pos hk, List.flatMap_append, List.flatMap_cons, hA, hB]
  have hcur : cur.toList = A ++ (G ++ (B ++ R)) := by rw [hR, hsplit]; simp only [List.append_assoc]
  have e1 : cur.toList.take (k * sz + fo) = A ++ G.take fo := by
    rw [hcur, ← lA, List.take_length_add_append, List.take_append_of_le_length (by omega)]
  have e2 : cur.toList.drop (k * sz + fo + vs.size) = G.drop (fo + vs.size) ++ (B ++ R) := by
    rw [hcur, ← lA, Nat.add_assoc, List.drop_length_add_append, List.drop_append_of_le_length (by omega)]
  have e3 : (kF cur (k * sz + fo) vs).toList = A ++ (g y ++ (B ++ R)) := by
    unfold kF
    rw [e1, e2, hy]; simp only [List.append_assoc]
  constructor
  · rw [e3, hset]
    have : A ++ (g y ++ (B ++ R)) = (A ++ (g y ++ B)) ++ R := by simp only [List.append_assoc]
    rw [this]
    exact List.take_left' (by rw [List.length_append, List.length_append, lA, lB, hg]; omega)
  · have h1 := congrArg List.length e3
    have h2 := congrArg List.length hcur
    simp only [List.length_append, Array.length_toList, hg, lG] at h1 h2
    omega
end
end
section
section
variable {P : Program}
theorem run_slhi {ρ : Operand → Value} {o : Oper} {t e : TypeId} {x y : Operand} {b off n c sz : Nat} {k : IntKind} {j : Int} (ho : o.op = .slice t x none (some y) none) (hx : ρ x = .slice (some ⟨b, off, none⟩) n c) (hy : ρ y = .int k j)
    (hu : P.underlying t = some (.slice e)) (hs : (P.info? e).map (·.size) = some sz) (h0 : 0 ≤ j) (h1 : j ≤ c) (w : World) : (execOp ρ o).run P w = .ok (.value (.slice (some ⟨b, off, none⟩) j.toNat c)) w := by
  cases he : P.info? e with
  | none => rw [he] at hs; cases hs
  | some i =>
    unfold execOp
    simp [ho, hx, hy, Instr.sliceAt, Instr.slice, Instr.sliceBounds, Instr.sliceBound, Sem.run_bind, asIntOf, run_underlying hu, h0, h1, sizeOf, typeInfo, he, yM]
theorem run_sllo {ρ : Operand → Value} {o : Oper} {t e : TypeId} {x y : Operand} {b off n c sz : Nat} {k : IntKind} {j : Int} (ho : o.op = .slice t x (some y) none none) (hx : ρ x = .slice (some ⟨b, off, none⟩) n c) (hy : ρ y = .int k j)
    (hu : P.underlying t = some (.slice e)) (hs : (P.info? e).map (·.size) = some sz) (h0 : 0 ≤ j) (h1 : j ≤ n) (w : World) : (execOp ρ o).run P w = .ok (.value (.slice (some ⟨b, off + (if c = j.toNat then 0 else j.toNat * sz), none⟩) (n - j.toNat) (c - j.toNat))) w := by
  cases he : P.info? e with
  | none => rw [he] at hs; cases hs
  | some i =>
    rw [he] at hs
    obtain rfl := Option.some.inj hs
    unfold execOp
    by_cases hc : c = j.toNat
    · simp [ho, hx, hy, Instr.sliceAt, Instr.slice, Instr.sliceBounds, Instr.sliceBound, Sem.run_bind, asIntOf, run_underlying hu, h0, h1, sizeOf, typeInfo, he, yM, hc]
    · simp [ho, hx, hy, Instr.sliceAt, Instr.slice, Instr.sliceBounds, Instr.sliceBound, Sem.run_bind, asIntOf, run_underlying hu, h0, h1, sizeOf, typeInfo, he, yM, hc]
end
end
section
section
variable {P : Program} {w : World} {ob : List Blk}
theorem own_append_nilc {t ty T : TypeId} {i : TypeInfo} (ht : P.underlying t = some (.slice T)) (hi : P.info? T = some i) {sz : Nat} {v : Value} {n : Nat} {xs : List Value} (hv : Sl T sz v n xs ob) (c : Nat) :
    (Builtin.append_ #[t, t] ty #[v, .slice none 0 c]).run P w = .ok v w := by
  rcases hv.2 with ⟨rfl, rfl, rfl⟩ | ⟨g, cap, cur, rfl, rfl, hnc, hcm, hcs, htake⟩
  · simp [Builtin.append_, run_underlying ht, sizeOf, typeInfo, hi, Builtin.lenOf, Builtin.firstCells]
  · simp [Builtin.append_, run_underlying ht, sizeOf, typeInfo, hi, Builtin.lenOf, Builtin.firstCells, hnc, storeCells]
end
section
variable {M : List Nat} {P : Program} {n0 : Nat} {ops : Array Oper} {W : World} {Q : Exit → Act → World → Prop} {rest : List Oper} {o : Oper} {E ob L0 : List Blk} {f : Nat → Value}
theorem s_appendR {α : Type} {g : α → List Value} {t T : TypeId} {s x : Operand} {i : TypeInfo} {z : Value} {sz : Nat} (hg : ∀ y, (g y).length = sz) (hw : xD ops n0 f o = true) (ho : o.op = .call { callee := .builtin .append, args := #[s, x], argTypes := #[t, t] })
    (ht : P.underlying t = some (.slice T)) (hi : P.info? T = some i) (hz : i.zero = some z) (hsz : i.size = sz) (hzs : z.cells.size = sz)
    {v : Value} {n : Nat} {xs : List Value} (hs : ev n0 f s = v) (hv : Sl T sz v n xs ob) {A : Option Addr} {c : Nat} {l : List α} (hx : ev n0 f x = .slice A l.length c)
    (hR : ∀ w, Own M W w (E ++ ob ++ L0) → Reads g w w.heap.size A l) (h1 : ∀ y, ∀ u ∈ g y, u.oneCell' = true)
    (h63 : n + l.length ≤ maxLen) (hbytes : (n + l.length) * i.bytes ≤ 140737488355328)
    (h : ∀ v' ob', Sl T sz v' (n + l.length) (xs ++ l.flatMap g) ob' → Seg M P n0 ops W Q rest (E ++ ob' ++ L0) (upd f o.dst v')) : Seg M P n0 ops W Q (o :: rest) (E ++ ob ++ L0) f :=
  qO hw fun w hO => by
    have hone : ∀ u ∈ l.flatMap g, u.oneCell' = true := fun u hu => by
      obtain ⟨y, _, hy⟩ := List.mem_flatMap.1 hu
      exact h1 y u hy
    cases A with
    | none =>
      have h0 : l = [] := by
        cases l with
        | nil => rfl
        | cons y l => obtain ⟨b, off, e, _⟩ := hR w hO (by simp); cases e
      subst h0
      have hv' : Sl T sz v (n + ([] : List α).length) (xs ++ ([] : List α).flatMap g) ob := by simpa using hv
      refine qN v (w' := w) ?_ ((h v ob hv').go w hO)
      have hx' : ev n0 f x = .slice none 0 c := hx
      unfold execOp
      simp only [ho, resolve, invoke, builtin, Sem.run_bind, Sem.run_pure, Result.andThen_ok, List.map_toArray, List.map_cons, List.map_nil, hs, hx', own_append_nilc ht hi hv c]
    | some a =>
      have hnews : ∀ j u, (l.flatMap g)[j]? = some u → w.cell? (a.add j) = some u := fun j u hj => by
        have h0 : 0 < l.length := by
          cases l with
          | nil => simp at hj
          | cons y l => simp
        obtain ⟨b, off, e, _, hc⟩ := hR w hO h0
        obtain rfl := Option.some.inj e
        rw [yM]
        exact hc j u hj
      obtain ⟨v', w', ob', hr, h2, h3⟩ := mZ (P := P) (ty := o.type) (c := c) ht hi hz hsz hzs hv hO (kM hg l) hnews hone h63 hbytes
      refine qN v' (w' := w') ?_ ((h v' ob' h2).go w' h3)
      unfold execOp
      simp only [ho, resolve, invoke, builtin, Sem.run_bind, Sem.run_pure, Result.andThen_ok, List.map_toArray, List.map_cons, List.map_nil, hs, hx, hr]
end
end
section
theorem freeze_drawn (w : World) (a : Addr) (m : Nat) : (w.freeze a m).drawn = w.drawn := by unfold World.freeze; split <;> rfl
theorem Own.freeze {M : List Nat} {W w : World} {x : Blk} {L : List Blk} (h : Own M W w (x :: L)) (m : Nat) : Own M W (w.freeze ⟨x.b, 0, none⟩ m) L := by
  have hne : ∀ k, k ≠ x.b → (w.freeze ⟨x.b, 0, none⟩ m).heap[k]? = w.heap[k]? := fun k hk => by
    unfold World.freeze
    split
    · rfl
    · simp only [Array.getElem?_modify]; rw [if_neg (Ne.symm hk)]
  have hsz : (w.freeze ⟨x.b, 0, none⟩ m).heap.size = w.heap.size := by unfold World.freeze; split <;> simp
  have ho : (w.freeze ⟨x.b, 0, none⟩ m).os = w.os ∧ (w.freeze ⟨x.b, 0, none⟩ m).tape = w.tape ∧ (w.freeze ⟨x.b, 0, none⟩ m).output = w.output := by unfold World.freeze; split <;> exact ⟨rfl, rfl, rfl⟩
  have hap := h.apart
  rw [List.map_cons, List.nodup_cons] at hap
  refine ⟨ho.1.trans h.os, ho.2.1.trans h.tape, ho.2.2.trans h.output, by rw [hsz]; exact h.size, by rw [freeze_drawn]; exact h.drawn, fun k hk hm => ?_, fun y hy => ?_, fun y hy => h.base y (List.mem_cons_of_mem _ hy), hap.2⟩
  · rw [hne k (fun e => by
      rcases h.base x List.mem_cons_self with h1 | h1
      · omega
      · exact hm (e ▸ h1))]
    exact h.kept k hk hm
  · rw [hne y.b (fun e => hap.1 (e ▸ List.mem_map_of_mem hy))]
    exact h.held y (List.mem_cons_of_mem _ hy)
section
variable {M : List Nat} {P : Program} {n0 : Nat} {ops : Array Oper} {W : World} {Q : Exit → Act → World → Prop} {rest : List Oper} {o : Oper} {L : List Blk} {f : Nat → Value}
theorem s_make {t e : TypeId} {x y : Operand} {i : TypeInfo} {z : Value} {kl kc : IntKind} {l c : Int} (hw : xD ops n0 f o = true) (ho : o.op = .makeSlice t x y) (hx : ev n0 f x = .int kl l) (hy : ev n0 f y = .int kc c)
    (ht : P.underlying t = some (.slice e)) (hi : P.info? e = some i) (hz : i.zero = some z) (h0 : 0 ≤ l) (hlc : l ≤ c) (hbytes : (i.bytes : Int) * c ≤ 281474976710656) (h63 : c ≤ 9223372036854775807)
    (h : ∀ b, Seg M P n0 ops W Q rest (⟨b, madeCells z.cells (c.toNat * i.size), e⟩ :: L) (upd f o.dst (.slice (some ⟨b, 0, none⟩) l.toNat c.toNat))) : Seg M P n0 ops W Q (o :: rest) L f :=
  qO hw fun w hO => by
    refine qN _ (w' := w.alloc (.cells (madeCells z.cells (c.toNat * i.size)) e)) ?_ ((h w.heap.size).go _ (hO.alloc _ _))
    have hr := run_make (P := P) w t e i z ht hi hz kl kc l c h0 hlc hbytes h63
    unfold execOp
    simp only [ho, hx, hy, Sem.run_bind, Sem.run_pure, Result.andThen_ok, hr]
theorem s_copyS {t u e : TypeId} {x y : Operand} {b cap : Nat} {cs : Array Value} {T : TypeId} {s : ByteArray} (hw : xD ops n0 f o = true) (ho : o.op = .call { callee := .builtin .copy, args := #[x, y], argTypes := #[t, u] })
    (hx : ev n0 f x = .slice (some ⟨b, 0, none⟩) s.size cap) (hy : ev n0 f y = .string s) (ht : P.underlying t = some (.slice e)) (hs : (P.info? e).map (·.size) = some 1) (hc : cs.size = s.size)
    (h : Seg M P n0 ops W Q rest (⟨b, (Lib.byteCells s.data.toList).toArray, T⟩ :: L) (upd f o.dst (goInt s.size))) : Seg M P n0 ops W Q (o :: rest) (⟨b, cs, T⟩ :: L) f :=
  qO hw fun w hO => by
    have hr := Lib.run_copy_row_string (P := P) w t u o.type e b 0 s.size cap s cs T ht hs (hO.held _ List.mem_cons_self) (Nat.le_refl _) (by omega)
    have hcs : (cs.toList.take 0 ++ Lib.byteCells s.data.toList ++ cs.toList.drop (0 + s.size)).toArray = (Lib.byteCells s.data.toList).toArray := by
      rw [List.take_zero, List.nil_append, List.drop_of_length_le (by rw [Array.length_toList]; omega), List.append_nil]
    rw [hcs] at hr
    refine qN _ (w' := w.setRow b (Lib.byteCells s.data.toList).toArray) ?_ (h.go _ (hO.put (i := 0) (x := ⟨b, cs, T⟩) rfl _))
    unfold execOp
    simp only [ho, resolve, invoke, builtin, Sem.run_bind, Sem.run_pure, Result.andThen_ok, List.map_toArray, List.map_cons, List.map_nil, hx, hy, hr]
theorem s_ustr {t u e : TypeId} {x y : Operand} {b : Nat} {s : ByteArray} (hw : xD ops n0 f o = true) (ho : o.op = .call { callee := .builtin .unsafeString, args := #[x, y], argTypes := #[t, u] })
    (hx : ev n0 f x = .pointer (some ⟨b, 0, none⟩)) (hy : ev n0 f y = .int .i64 s.size) (ht : P.underlying t = some (.pointer e)) (hc : P.cellsOf e = 1) (hne : s.size ≠ 0) (h63 : s.size ≤ 9223372036854775807)
    (h : Seg M P n0 ops W Q rest L (upd f o.dst (.string s))) : Seg M P n0 ops W Q (o :: rest) (⟨b, (Lib.byteCells s.data.toList).toArray, e⟩ :: L) f :=
  qO hw fun w hO => by
    have hg := hO.held _ List.mem_cons_self
    have hl : s.data.toList.length = s.size := by rw [← Lib.size_eq]
    have hr := Lib.run_unsafeString_row (P := P) w t u o.type e ht hc b s.size (by unfold World.shape?; simp only at hg; rw [hg]; simp [Lib.byteCells_length, hl]) s.data.toList (fun e => hne (by rw [← hl, e]; rfl)) (by omega) (by omega)
      (fun j x hx => by
        rw [yM, cell_of_row w b (0 + j) _ e _ hg]
        simp [Lib.byteCells, hx])
    rw [hl] at hr
    refine qN _ (w' := w.freeze ⟨b, 0, none⟩ s.size) ?_ (h.go _ (hO.freeze s.size))
    unfold execOp
    simp only [ho, resolve, invoke, builtin, Sem.run_bind, Sem.run_pure, Result.andThen_ok, List.map_toArray, List.map_cons, List.map_nil, hx, hy, hr]
end
end
section
theorem infoByte9 : (Tryz.prog.info? 5).map (fun i => (i.zero.map (·.cells.size), i.size, i.bytes)) = some (some 1, 1, 1) := by kernel_rfl
theorem byte_info : ∃ i z, Tryz.prog.info? 5 = some i ∧ i.zero = some z ∧ i.size = 1 ∧ z.cells.size = 1 ∧ i.bytes = 1 := by
  have h := infoByte9
  cases hi : Tryz.prog.info? 5 with
  | none => rw [hi] at h; cases h
  | some i =>
    rw [hi] at h
    simp only [Option.map_some, Option.some.injEq, Prod.mk.injEq] at h
    cases hz : i.zero with
    | none => rw [hz] at h; simp at h
    | some z => rw [hz] at h; simp at h; exact ⟨i, z, rfl, hz, h.2.1, h.1, h.2.2⟩
theorem empty_of {s : ByteArray} (h : (s.size : Int) = 0) : s = ⟨#[]⟩ := by
  have h2 : s.data.size = 0 := Int.ofNat.inj h
  exact ByteArray.ext (Array.eq_empty_of_size_eq_zero h2)
theorem sclone_any (s : ByteArray) (w : World) (hs : s.size ≤ 281474976710656) :
    Calls Tryz.prog 142 #[.string s] w fun e w' => e = .returned (.string s) ∧ Below w.heap.size w w' := by
  refine zM (n := 18) Tryz.func142 rfl (by kernel_rfl) (by kernel_rfl) (ZO (Zv (.string ⟨#[]⟩) (ZN (z8 (ZO (Zv (.string s) (Zv (.int .i64 ((s).size)) ?_)))))))
  by_cases h1 : ((s).size : Int) = 0
  · refine xO (p := ((s).size : Int) = 0) true (by kernel_rfl) (fun _ => by kernel_rfl) (decide_eq_true (h1)) ?_
    exact ZY (ZO (Zv (.string ⟨#[]⟩) (ZN (zB (z6 (ZF (.string ⟨#[]⟩) Tryz.results142 (fun w hO => ⟨by rw [empty_of (s := s) (by assumption)], hO.below⟩)))))))
  refine Zd (p := ((s).size : Int) = 0) false (decide_eq_false (h1)) (ZX (ZB (ZO (Zv (.string s) (Zv (.int .i64 ((s).size)) ?_)))))
  obtain ⟨i, z, e1, e2, e3, e4, e5⟩ := byte_info
  refine s_make (kl := .i64) (kc := .i64) (l := (s.size : Int)) (c := (s.size : Int)) (by kernel_rfl) rfl (by kernel_rfl) (by kernel_rfl) Tryz.underlying35 e1 e2 (by omega) (by omega) (by rw [e5]; omega) (by omega) (fun b => ?_)
  rw [show ((s.size : Nat) : Int).toNat = s.size from rfl]
  obtain ⟨cs, hcs⟩ : ∃ cs, cs = madeCells z.cells (s.size * i.size) := ⟨_, rfl⟩
  have hcz : cs.size = s.size := by rw [hcs, size_madeCells, e3]; simp
  rw [← hcs]
  refine Zv (.slice (some ⟨b, 0, none⟩) s.size s.size) (ZR (Zv (.slice (some ⟨b, 0, none⟩) s.size s.size) (Zv (.string s) (s_copyS (b := b) (cap := s.size) (s := s) (cs := cs) (by kernel_rfl) rfl (by kernel_rfl) (by kernel_rfl) Tryz.underlying35 (by kernel_rfl) hcz (ZN (z8 (zA ?_)))))))
  exact Zv (.slice (some ⟨b, 0, none⟩) s.size s.size) (zK (.pointer (some ⟨b, 0, none⟩)) (by kernel_rfl) (ZV (b := b) (off := 0) (n := s.size) (c := s.size) (k := .i64) (j := 0) (e := 5) (sz := 1)) (Zv (.slice (some ⟨b, 0, none⟩) s.size s.size) (Zv (.int .i64 (s.size : Int)) (s_ustr (s := s) (by kernel_rfl) rfl (by kernel_rfl) (by kernel_rfl) Tryz.underlying81 (by unfold Program.cellsOf; simp [e1, e3]) (by omega) (by omega) (Zv (.string s) (ZN (zB (ZF (.string s) Tryz.results142 (fun w hO => ⟨rfl, hO.below⟩)))))))))
theorem tK (s : ByteArray) (w : World) (hs : s.size ≤ 281474976710656) :
    Calls Tryz.prog 93 #[.string s] w fun e w' => e = .returned (.string s) ∧ Below w.heap.size w w' := by
  refine zM (n := 5) Tryz.func93 rfl (by kernel_rfl) (by kernel_rfl) (ZO (Zv (.string ⟨#[]⟩) (ZR (Zv (.string s) (Zc (k := 142) (args := #[.string s]) (.string s) (fun w _ => sclone_any s w hs) (Zv (.string s) (zL ?_)))))))
  exact z7 (zB (ZF (.string s) Tryz.results93 (fun w hO => ⟨rfl, hO.below⟩)))
end
section
def fF (a b c : Int) : List (List UInt8) := [Lib.itoa a, Lib.itoa b, Lib.itoa c]
theorem digs_snoc (a b c : Int) (k : Nat) (hk : k < 3) : (fF a b c).take (k + 1) = (fF a b c).take k ++ [Lib.itoa (v6 a b c k)] := by
  match k, hk with
  | 0, _ => rfl
  | 1, _ => rfl
  | 2, _ => rfl
theorem jP (a b c : Int) : x6 46 (fF a b c) = Lib.itoa a ++ 46 :: (Lib.itoa b ++ 46 :: Lib.itoa c) := rfl
theorem digits_mk (n : Int) (h0 : -9223372036854775808 ≤ n) (h1 : n ≤ 9223372036854775807) (w : World) (ht : HasTab w) :
    Calls Tryz.prog 140 #[.int .i64 n] w fun e w' => e = .returned (.string (mkS (Lib.itoa n))) ∧ Below w.heap.size w w' := digits_any n h0 h1 w ht
theorem dec_len (n : Nat) (h : n ≤ 9999) : (Lib.decDigits n).length ≤ 4 := by
  rw [Lib.decDigits_length]
  unfold Lib.nDigits
  split
  · omega
  · unfold Lib.nDigits
    split
    · omega
    · unfold Lib.nDigits
      split
      · omega
      · rw [Lib.nDigits_small (by omega)]; omega
theorem bQ {n : Int} (h : zV n = true) : (Lib.itoa n).length ≤ 4 := by
  rw [pH h]
  apply dec_len
  unfold zV at h; simp at h; omega
theorem nums_len {a b c : Int} (h1 : zV a = true) (h2 : zV b = true) (h3 : zV c = true) : (x6 46 (fF a b c)).length ≤ 14 := by
  rw [jP]
  have := bQ h1; have := bQ h2; have := bQ h3
  simp; omega
theorem print_good (v : Ver) (w : World) (hp : v.pre.length ≤ 1000000) (hq : v.build.length ≤ 1000000) (hm : v.may = true) (ht : HasTab w) :
    Calls Tryz.prog 114 #[zP v] w fun e w' => e = .returned (.string (mkS v.text)) ∧ Below w.heap.size w w' := by
  obtain ⟨i0, hi, hz0, hz1, hz2⟩ := info_parts infoStr
  have cM := fun w' => vI v w' (by omega) (by omega)
  have cN := fun w' => wT v w'
  obtain ⟨n1, n2, n3⟩ := vH hm
  have hT : v.text = x6 46 (fF v.maj v.min v.pat) ++ kE 45 v.pre ++ kE 43 v.build := rfl
  obtain ⟨a, b, c, p, q⟩ := v
  rw [hm] at cM
  unfold zP at cN cM ⊢
  dsimp only at cN cM hp hq n1 n2 n3 hT ⊢
  have hjl := nums_len n1 n2 n3
  have HT := Lib.hid hT
  have H1 := Lib.hid n1
  have H2 := Lib.hid n2
  have H3 := Lib.hid n3
  clear hT hm n1 n2 n3
  go_enter Tryz.func114, Tryz.ntmps114
  go_wp2_with (first
    | (go_at_call 147; refine (cM _).mono ?_; rintro e w1 ⟨rfl, hb1⟩; have hg1 := Lib.hid ((hb1.block w.heap.size (by simp)).trans (yZ w _)))
    | (refine wpList_load_row rfl 70 _ rfl w.heap.size rfl _ _ _ _ hg1.out Tryz.underlying70 rfl (by kernel_rfl) ?_)
    | (go_at_call 159; refine (cN _).mono ?_; rintro e w2 ⟨rfl, hb2⟩))
  have hbw1 : Below w.heap.size w w1 := ((Below.refl _ _).alloc (Nat.le_refl _) _).trans (hb1.mono (by simp))
  have hsw : w.heap.size < w1.heap.size := by have := hb1.size; rw [zE] at this; omega
  have hsw2 : w.heap.size < w2.heap.size := Nat.lt_of_lt_of_le hsw hb2.size
  have hg2 := Lib.hid ((hb2.block w.heap.size hsw).trans hg1.out)
  have ht2 : HasTab w2 := (ht.on hbw1).on hb2
  go_loopw [3, 12] (fun v x wr => ∃ k : Nat, k ≤ 3 ∧ x = .int .i64 k ∧ wr.ownsRow w2.heap.size 9 1 v k (d5 ((fF a b c).take k)) ∧ Below w2.heap.size w2 wr) (fun _ x _ => 3 - (intOf x).toNat)
  case atStart => exact ⟨0, by omega, rfl, ⟨rfl, Or.inl ⟨rfl, rfl⟩⟩, Below.refl _ _⟩
  case round =>
    obtain ⟨k, hk, rfl, hown, hbel⟩ := hrel
    have hsz := hbel.size
    by_cases hk3 : k < 3
    · have hki : (k : Int) < 3 := by omega
      have hix : ∀ w, (Instr.index 128 (.agg #[.int .i64 a, .int .i64 b, .int .i64 c]) (.int .i64 k)).run Tryz.prog w = .ok (.int .i64 (v6 a b c k)) w := ix_num a b c k hk3
      have hnb : 0 ≤ v6 a b c k ∧ v6 a b c k ≤ 9999 := by
        have h1 := H1.out; have h2 := H2.out; have h3 := H3.out
        unfold zV at h1 h2 h3; simp at h1 h2 h3
        unfold v6; split
        · exact h1
        · split
          · exact h2
          · exact h3
      obtain ⟨hn0, hn9⟩ := hnb
      go_wp2_with (first
        | (go_at_call 140; refine (digits_mk _ (by omega) (by omega) _ (ht2.on hbel)).mono ?_; rintro e w3 ⟨rfl, hb3⟩; have hown3 := ownsRow_below hown hb3; have hsz3 := hb3.size)
        | (at_builtin; refine gW _ rfl _ _ 83 rfl w2.heap.size 9 i0 (.string ByteArray.empty) 1 16 Tryz.underlying83 hi hz0 hz1 hz2 rfl (by decide) _ _ _ rfl (hown3.alloc _) ⟨w3.heap.size, 0, none⟩ 1 1 [.string (mkS (Lib.itoa (v6 a b c k)))] rfl rfl ?c1 ?c2 ?c3 ?c4 ?c5 ?_))
      case c1 =>
        intro j u hj
        match j, hj with
        | 0, hj => simp at hj; subst hj; simp [Addr.add]
      case c2 => intro u hu; simp at hu; subst hu; rfl
      case c3 => unfold maxLen; omega
      case c4 => omega
      case c5 => simp; omega
      intro v' w5 hown' hgrow _
      go_wp2
      go_roundw
      case rel =>
        refine ⟨k + 1, by omega, by go_num, ?_, ((hbel.trans (hb3.mono hsz)).alloc (by omega) _).grown hgrow (by simp; omega) (fun k hk => (hown3.lt k hk).1)⟩
        rw [digs_snoc a b c k hk3, pT]; exact hown'
      case measure => simp [intOf]; omega
    · obtain rfl : k = 3 := by omega
      have hki : ¬ (((3 : Nat) : Int) < 3) := by omega
      have hrd := ReadsT.of_own (l := fF a b c) hown
      have hg3 := Lib.hid ((hbel.block w.heap.size hsw2).trans hg2.out)
      have hbww : Below w.heap.size w w2 := hbw1.trans (hb2.mono (by omega))
      have hj0 : (mkS (x6 46 (fF a b c))).size ≤ 14 := by rw [yC]; exact hjl
      have hp0 : (mkS p).size ≤ 1000000 := by rw [yC]; exact hp
      have hq0 : (mkS q).size ≤ 1000000 := by rw [yC]; exact hq
      have hp1 : ((⟨#[45]⟩ : ByteArray) ++ mkS p).size ≤ 1000001 := by rw [ByteArray.size_append]; show 1 + _ ≤ _; omega
      have hq1 : ((⟨#[43]⟩ : ByteArray) ++ mkS q).size ≤ 1000001 := by rw [ByteArray.size_append]; show 1 + _ ≤ _; omega
      have hjp : (mkS (x6 46 (fF a b c)) ++ ((⟨#[45]⟩ : ByteArray) ++ mkS p)).size ≤ 1000015 := by rw [ByteArray.size_append]; omega
      by_cases hpe : p = []
      · have hpb : (mkS p).toList.isEmpty = true := by rw [Lib.toList_data, mk_data, hpe]; rfl
        have HPT := Lib.hid (show kE 45 p = [] by rw [hpe]; rfl)
        clear hpe
        by_cases hqe : q = []
        · have hqb : (mkS q).toList.isEmpty = true := by rw [Lib.toList_data, mk_data, hqe]; rfl
          have HQT := Lib.hid (show kE 43 q = [] by rw [hqe]; rfl)
          clear hqe
          go_wp2_with (go_at_call 141; refine (pG _ (fF a b c) 46 _ hrd (by omega) (by simp [fF]) (by rw [jP]; simp)).mono ?_; rintro e w4 ⟨rfl, hb4⟩; obtain ⟨c3, f3⟩ := y6 (j := 3) ((hb4.block w.heap.size (by omega)).trans hg3.out) (by simp); obtain ⟨c4, f4⟩ := y6 (j := 4) ((hb4.block w.heap.size (by omega)).trans hg3.out) (by simp); simp only [List.getElem_toArray, List.getElem_cons_succ, List.getElem_cons_zero] at c3 c4)
          go_ret
          exact ⟨v8 (by rw [HT.out, HPT.out, HQT.out]; simp), (hbww.trans (hbel.mono (by omega))).trans (hb4.mono (by omega))⟩
        · have hqb : (mkS q).toList.isEmpty = false := by rw [Lib.toList_data, mk_data]; exact List.isEmpty_eq_false_iff.2 hqe
          have HQT := Lib.hid (show kE 43 q = 43 :: q by unfold kE; rw [if_neg (by simpa using hqe)])
          clear hqe
          go_wp2_with (go_at_call 141; refine (pG _ (fF a b c) 46 _ hrd (by omega) (by simp [fF]) (by rw [jP]; simp)).mono ?_; rintro e w4 ⟨rfl, hb4⟩; obtain ⟨c3, f3⟩ := y6 (j := 3) ((hb4.block w.heap.size (by omega)).trans hg3.out) (by simp); obtain ⟨c4, f4⟩ := y6 (j := 4) ((hb4.block w.heap.size (by omega)).trans hg3.out) (by simp); simp only [List.getElem_toArray, List.getElem_cons_succ, List.getElem_cons_zero] at c3 c4)
          go_ret
          exact ⟨v8 (by rw [HT.out, HPT.out, HQT.out, show (⟨#[43]⟩ : ByteArray) = mkS [43] from rfl, xR, xR]; simp), (hbww.trans (hbel.mono (by omega))).trans (hb4.mono (by omega))⟩
      · have hpb : (mkS p).toList.isEmpty = false := by rw [Lib.toList_data, mk_data]; exact List.isEmpty_eq_false_iff.2 hpe
        have HPT := Lib.hid (show kE 45 p = 45 :: p by unfold kE; rw [if_neg (by simpa using hpe)])
        clear hpe
        by_cases hqe : q = []
        · have hqb : (mkS q).toList.isEmpty = true := by rw [Lib.toList_data, mk_data, hqe]; rfl
          have HQT := Lib.hid (show kE 43 q = [] by rw [hqe]; rfl)
          clear hqe
          go_wp2_with (go_at_call 141; refine (pG _ (fF a b c) 46 _ hrd (by omega) (by simp [fF]) (by rw [jP]; simp)).mono ?_; rintro e w4 ⟨rfl, hb4⟩; obtain ⟨c3, f3⟩ := y6 (j := 3) ((hb4.block w.heap.size (by omega)).trans hg3.out) (by simp); obtain ⟨c4, f4⟩ := y6 (j := 4) ((hb4.block w.heap.size (by omega)).trans hg3.out) (by simp); simp only [List.getElem_toArray, List.getElem_cons_succ, List.getElem_cons_zero] at c3 c4)
          go_ret
          exact ⟨v8 (by rw [HT.out, HPT.out, HQT.out, show (⟨#[45]⟩ : ByteArray) = mkS [45] from rfl, xR, xR]; simp), (hbww.trans (hbel.mono (by omega))).trans (hb4.mono (by omega))⟩
        · have hqb : (mkS q).toList.isEmpty = false := by rw [Lib.toList_data, mk_data]; exact List.isEmpty_eq_false_iff.2 hqe
          have HQT := Lib.hid (show kE 43 q = 43 :: q by unfold kE; rw [if_neg (by simpa using hqe)])
          clear hqe
          go_wp2_with (go_at_call 141; refine (pG _ (fF a b c) 46 _ hrd (by omega) (by simp [fF]) (by rw [jP]; simp)).mono ?_; rintro e w4 ⟨rfl, hb4⟩; obtain ⟨c3, f3⟩ := y6 (j := 3) ((hb4.block w.heap.size (by omega)).trans hg3.out) (by simp); obtain ⟨c4, f4⟩ := y6 (j := 4) ((hb4.block w.heap.size (by omega)).trans hg3.out) (by simp); simp only [List.getElem_toArray, List.getElem_cons_succ, List.getElem_cons_zero] at c3 c4)
          go_ret
          exact ⟨v8 (by rw [HT.out, HPT.out, HQT.out, show (⟨#[45]⟩ : ByteArray) = mkS [45] from rfl, show (⟨#[43]⟩ : ByteArray) = mkS [43] from rfl, xR, xR, xR, xR]; simp), (hbww.trans (hbel.mono (by omega))).trans (hb4.mono (by omega))⟩
theorem print_none (v : Ver) (w : World) (hp : v.pre.length ≤ 1000000) (hq : v.build.length ≤ 1000000) (hm : v.may = false) :
    Calls Tryz.prog 114 #[zP v] w fun e w' => e = .returned (.string (mkS [])) ∧ Below w.heap.size w w' := by
  have cM := fun w' => vI v w' (by omega) (by omega)
  rw [hm] at cM
  obtain ⟨a, b, c, p, q⟩ := v
  unfold zP at cM ⊢
  dsimp only at cM ⊢
  clear hm
  go_enter Tryz.func114, Tryz.ntmps114
  go_wp2_with (go_at_call 147; refine (cM _).mono ?_; rintro e w1 ⟨rfl, hb1⟩)
  go_ret
  exact ⟨rfl, ((Below.refl _ _).alloc (Nat.le_refl _) _).trans (hb1.mono (by simp))⟩
theorem mG (v : Ver) (w : World) (hp : v.pre.length ≤ 1000000) (hq : v.build.length ≤ 1000000) (ht : HasTab w) :
    Calls Tryz.prog 114 #[zP v] w fun e w' => e = .returned (.string (mkS v.print)) ∧ Below w.heap.size w w' := by
  cases hm : v.may with
  | true => rw [xY hm]; exact print_good v w hp hq hm ht
  | false => rw [t6 hm]; exact print_none v w hp hq hm
end
section
def b8 (s : List UInt8) : Ver := (x5 s).getD Ver.zero
def vU (s : List UInt8) : Int := if (x5 s).isSome then 0 else 5
theorem mkS_ne {a b : List UInt8} (h : a ≠ b) : ((mkS a).toList == (mkS b).toList) = false := by
  rw [Lib.toList_data, Lib.toList_data, mk_data, mk_data]; simpa using h
theorem mkS_eq {a b : List UInt8} (h : a = b) : ((mkS a).toList == (mkS b).toList) = true := by
  subst h; simp
theorem par_hit {s : List UInt8} (h : (bT s).print = s) : b8 s = bT s ∧ vU s = 0 := by
  have := parse_eq s
  unfold parseI at this
  rw [if_pos h] at this
  unfold b8 vU
  rw [← this]; exact ⟨rfl, rfl⟩
theorem par_miss {s : List UInt8} (h : ¬ (bT s).print = s) : b8 s = Ver.zero ∧ vU s = 5 := by
  have := parse_eq s
  unfold parseI at this
  rw [if_neg h] at this
  unfold b8 vU
  rw [← this]; exact ⟨rfl, rfl⟩
def PEnd (s : List UInt8) (w : World) (e : Ending) (w' : World) : Prop := e = .returned (.tuple #[zP (b8 s), .int .i64 (vU s)]) ∧ Below w.heap.size w w'
theorem yS (a b c : Int) (p q : ByteArray) : (#[.int .i64 a, .int .i64 b, .int .i64 c, .string p, .string q] : Array Value).all (·.oneCell') = true := by simp [Value.oneCell']
theorem parse_done {s : List UInt8} {w wr : World} {v : Ver} {n : Int} {tmps : Array Value} {old : Array Value} (h2 : tmps.getD 2 undef = .pointer (some ⟨w.heap.size, 0, none⟩)) (h3 : tmps.getD 3 undef = .int .i64 n)
    (hg : wr.heap[w.heap.size]? = some (.cells old 70)) (hbel : Below w.heap.size w wr) (hv : b8 s = v) (hn : vU s = n) :
    bodyPost Tryz.prog Tryz.f77 (PEnd s w) .ret ⟨tmps, []⟩ (wr.setRow w.heap.size #[.int .i64 v.maj, .int .i64 v.min, .int .i64 v.pat, .string (mkS v.pre), .string (mkS v.build)]) := by
  have hrow := setRow_heap wr w.heap.size _ #[.int .i64 v.maj, .int .i64 v.min, .int .i64 v.pat, .string (mkS v.pre), .string (mkS v.build)] _ _ hg
  have hr := run_loadVar_row (P := Tryz.prog) _ w.heap.size 70 70 _ _ _ hrow Tryz.underlying70 rfl (by kernel_rfl)
  have h2' : tmps[2]?.getD undef = .pointer (some ⟨w.heap.size, 0, none⟩) := by simpa using h2
  have h3' : tmps[3]?.getD undef = .int .i64 n := by simpa using h3
  refine bodyPost_ret (v := .tuple #[zP v, .int .i64 n]) (by simp [results, Tryz.results77, asAddr, h2', h3', hr, zP]) rfl ⟨by rw [hv, hn], xI hbel (Nat.le_refl _) _⟩
theorem parse_any0 (s : List UInt8) (w : World) (hs : s.length ≤ 1000000) (ht : HasTab w) :
    Calls Tryz.prog 77 #[.string (mkS s)] w (PEnd s w) := by
  obtain ⟨s1, bl, f1, h1⟩ : ∃ a b c, zN 43 s = (a, b, c) := ⟨_, _, _, rfl⟩
  obtain ⟨s2, pr, f2, h2⟩ : ∃ a b c, zN 45 s1 = (a, b, c) := ⟨_, _, _, rfl⟩
  obtain ⟨ma, s3, f3, h3⟩ : ∃ a b c, zN 46 s2 = (a, b, c) := ⟨_, _, _, rfl⟩
  obtain ⟨mi, pa, f4, h4⟩ : ∃ a b c, zN 46 s3 = (a, b, c) := ⟨_, _, _, rfl⟩
  have l1 := wG 43 s
  have l2 := wG 45 s1
  have l3 := wG 46 s2
  have l4 := wG 46 s3
  rw [h1] at l1
  rw [h2] at l2
  rw [h3] at l3
  rw [h4] at l4
  dsimp only at l1 l2 l3 l4
  have hG : bT s = ⟨x7 ma, x7 mi, x7 pa, pr, bl⟩ := by
    unfold bT; simp only [h1, h2, h3, h4]
  have c1 := fun w' => fG s 43 w' (by omega)
  have c2 := fun w' => fG s1 45 w' (by omega)
  have c3 := fun w' => fG s2 46 w' (by omega)
  have c4 := fun w' => fG s3 46 w' (by omega)
  rw [h1] at c1
  rw [h2] at c2
  rw [h3] at c3
  rw [h4] at c4
  dsimp only at c1 c2 c3 c4
  have cP := fun w' (h : HasTab w') => mG (bT s) w' (by rw [hG]; show pr.length ≤ _; omega) (by rw [hG]; show bl.length ≤ _; omega) h
  obtain ⟨P, hP⟩ : ∃ P, (bT s).print = P := ⟨_, rfl⟩
  rw [hP, hG] at cP
  unfold zP at cP
  dsimp only at cP
  have HG := Lib.hid hG
  have HP := Lib.hid hP
  clear hG hP h1 h2 h3 h4
  have la : ma.length ≤ maxLen := by unfold maxLen; omega
  have lb : mi.length ≤ maxLen := by unfold maxLen; omega
  have lc : pa.length ≤ maxLen := by unfold maxLen; omega
  obtain ⟨na, hna⟩ : ∃ n, x7 ma = n := ⟨_, rfl⟩
  obtain ⟨nb, hnb⟩ : ∃ n, x7 mi = n := ⟨_, rfl⟩
  obtain ⟨nc, hnc⟩ : ∃ n, x7 pa = n := ⟨_, rfl⟩
  have n1 := fun w' => dS ma w' la
  have n2 := fun w' => dS mi w' lb
  have n3 := fun w' => dS pa w' lc
  rw [hna] at n1
  rw [hnb] at n2
  rw [hnc] at n3
  rw [hna, hnb, hnc] at cP HG
  clear hna hnb hnc
  have cR := fun w' => j6 na nb nc w'
  unfold zP Ver.rel at cR
  dsimp only at cR
  go_enter Tryz.func77, Tryz.ntmps77
  go_wp2_with fail
  refine (c1 _).mono ?_
  rintro e w1 ⟨rfl, hb1⟩
  go_wp2_with fail
  refine (c2 _).mono ?_
  rintro e w2 ⟨rfl, hb2⟩
  go_wp2_with fail
  refine (c3 _).mono ?_
  rintro e w3 ⟨rfl, hb3⟩
  go_wp2_with fail
  refine (c4 _).mono ?_
  rintro e w4 ⟨rfl, hb4⟩
  go_wp2_with fail
  refine (n1 _).mono ?_
  rintro e w5 ⟨rfl, hb5⟩
  go_wp2_with fail
  refine (n2 _).mono ?_
  rintro e w6 ⟨rfl, hb6⟩
  go_wp2_with fail
  refine (n3 _).mono ?_
  rintro e w7 ⟨rfl, hb7⟩
  go_wp2_with fail
  refine (cR _).mono ?_
  rintro e w8 ⟨rfl, hb8⟩
  have hz1 := hb1.size
  have hz2 := hb2.size
  have hz3 := hb3.size
  have hz4 := hb4.size
  have hz5 := hb5.size
  have hz6 := hb6.size
  have hz7 := hb7.size
  have hz8 := hb8.size
  rw [zE] at hz1
  have hbv : Below (w.heap.size + 1) (w.alloc (.cells #[.int .i64 0, .int .i64 0, .int .i64 0, .string ⟨#[]⟩, .string ⟨#[]⟩] 70)) w8 :=
    (((((((hb1.mono (by rw [zE]; omega)).trans (hb2.mono (by omega))).trans (hb3.mono (by omega))).trans (hb4.mono (by omega))).trans (hb5.mono (by omega))).trans (hb6.mono (by omega))).trans (hb7.mono (by omega))).trans (hb8.mono (by omega))
  have hbw : Below w.heap.size w w8 := ((Below.refl _ _).alloc (Nat.le_refl _) _).trans (hbv.mono (by omega))
  have hg8 := Lib.hid ((hbv.block w.heap.size (by omega)).trans (yZ w _))
  have hsw : w.heap.size < w8.heap.size := by omega
  clear hz1 hz2 hz3 hz4 hz5 hz6 hz7 hz8 hbv
  go_wp2_with fail
  refine (cP _ (ht.on (hbw.alloc (by omega) _))).mono ?_
  rintro e w9 ⟨rfl, hb9⟩
  have hz9 := hb9.size
  rw [zE] at hz9
  have hg9 := Lib.hid (((hb9.block w.heap.size (by rw [zE]; omega)).trans (yO w8 _ hsw)).trans hg8.out)
  have hgv := Lib.hid ((hb9.block w8.heap.size (by rw [zE]; omega)).trans (yZ w8 _))
  have hbw9 : Below w.heap.size w w9 := (hbw.alloc (by omega) _).trans (hb9.mono (by rw [zE]; omega))
  by_cases hPs : P = s
  · have hne := mkS_eq hPs
    have hne2 : ((mkS P).toList != (mkS s).toList) = false := by rw [bne, hne]; rfl
    have HPS := Lib.hid hPs
    clear hPs
    go_wp2_with fail
    refine (tK (mkS pr) _ (by rw [yC]; omega)).mono ?_
    rintro e w10 ⟨rfl, hb10⟩
    go_wp2_with fail
    refine (tK (mkS bl) _ (by rw [yC]; omega)).mono ?_
    rintro e w11 ⟨rfl, hb11⟩
    have hz10 := hb10.size
    have hz11 := hb11.size
    have hg11 := Lib.hid ((hb11.block w.heap.size (by omega)).trans ((hb10.block w.heap.size (by omega)).trans hg9.out))
    have hgv11 := Lib.hid ((hb11.block w8.heap.size (by omega)).trans ((hb10.block w8.heap.size (by omega)).trans hgv.out))
    have hbw11 : Below w.heap.size w w11 := (hbw9.trans (hb10.mono (by omega))).trans (hb11.mono (by omega))
    obtain ⟨c3, f3⟩ := y6 (j := 3) hgv11.out (by simp)
    obtain ⟨c4, f4⟩ := y6 (j := 4) hgv11.out (by simp)
    have e3 := setCell_eq_setRow w11 w8.heap.size 3 _ _ _ (.string (mkS pr)) hgv11.out
    have hq3 := setRow_heap w11 w8.heap.size _ #[.int .i64 na, .int .i64 nb, .int .i64 nc, .string (mkS pr), .string (mkS bl)] _ _ hgv11.out
    have e4 := setCell_eq_setRow _ w8.heap.size 4 _ _ _ (.string (mkS bl)) hq3
    have hwv : (w11.setCell ⟨w8.heap.size, 3, none⟩ (.string (mkS pr))).setCell ⟨w8.heap.size, 4, none⟩ (.string (mkS bl)) = (w11.setRow w8.heap.size #[.int .i64 na, .int .i64 nb, .int .i64 nc, .string (mkS pr), .string (mkS bl)]).setRow w8.heap.size #[.int .i64 na, .int .i64 nb, .int .i64 nc, .string (mkS pr), .string (mkS bl)] := by rw [e3]; exact e4
    have hL : ((w11.setCell ⟨w8.heap.size, 3, none⟩ (.string (mkS pr))).setCell ⟨w8.heap.size, 4, none⟩ (.string (mkS bl))).heap[w8.heap.size]? = some (.cells #[.int .i64 na, .int .i64 nb, .int .i64 nc, .string (mkS pr), .string (mkS bl)] 70) := by
      rw [hwv]; exact setRow_heap _ _ _ _ _ _ hq3
    have hL0 : ((w11.setCell ⟨w8.heap.size, 3, none⟩ (.string (mkS pr))).setCell ⟨w8.heap.size, 4, none⟩ (.string (mkS bl))).heap[w.heap.size]? = some (.cells #[.int .i64 0, .int .i64 0, .int .i64 0, .string ⟨#[]⟩, .string ⟨#[]⟩] 70) := by
      rw [hwv, g6 _ _ _ _ (by omega), g6 _ _ _ _ (by omega)]; exact hg11.out
    have hbL : Below w.heap.size w ((w11.setCell ⟨w8.heap.size, 3, none⟩ (.string (mkS pr))).setCell ⟨w8.heap.size, 4, none⟩ (.string (mkS bl))) := (hbw11.setCell (by simp; omega) _).setCell (by simp; omega) _
    have HL := Lib.hid hL
    have HL0 := Lib.hid hL0
    clear e3 hq3 e4 hwv hL hL0
    go_wp2_with (first
      | (refine wpList_load_row rfl 70 _ rfl w8.heap.size rfl _ _ _ _ HL.out Tryz.underlying70 rfl (by kernel_rfl) ?_)
      | (refine wpList_store_row rfl 70 _ _ rfl w.heap.size #[.int .i64 na, .int .i64 nb, .int .i64 nc, .string (mkS pr), .string (mkS bl)] rfl rfl _ _ HL0.out (by kernel_rfl) rfl (yS _ _ _ _ _) ?_))
    have hit := par_hit (HP.out.trans HPS.out)
    exact parse_done (v := ⟨na, nb, nc, pr, bl⟩) rfl rfl HL0.out hbL (hit.1.trans HG.out) hit.2
  · have hne := mkS_ne hPs
    have hne2 : ((mkS P).toList != (mkS s).toList) = true := by rw [bne, hne]; rfl
    go_wp2_with (refine wpList_store_row rfl 70 _ _ rfl w.heap.size #[.int .i64 0, .int .i64 0, .int .i64 0, .string ⟨#[]⟩, .string ⟨#[]⟩] rfl rfl _ _ hg9.out (by kernel_rfl) rfl (yS _ _ _ _ _) ?_)
    exact parse_done (v := Ver.zero) rfl rfl hg9.out hbw9 (par_miss (fun e => hPs (HP.out.symm.trans e))).1 (par_miss (fun e => hPs (HP.out.symm.trans e))).2
theorem parse_any (s : List UInt8) (w : World) (hs : s.length ≤ 1000000) (ht : HasTab w) :
    Calls Tryz.prog 77 #[.string (mkS s)] w fun e w' => e = .returned (.tuple #[zP (b8 s), .int .i64 (vU s)]) ∧ Below w.heap.size w w' := parse_any0 s w hs ht
theorem set34 {w1 : World} {B : Nat} {a b c x0 y0 : Value} (x y : Value) (hg : w1.heap[B]? = some (.cells #[a, b, c, x0, y0] 70)) :
    ((w1.setCell ⟨B, 3, none⟩ x).setCell ⟨B, 4, none⟩ y).heap[B]? = some (.cells #[a, b, c, x, y] 70) ∧ ∀ k, B ≠ k → ((w1.setCell ⟨B, 3, none⟩ x).setCell ⟨B, 4, none⟩ y).heap[k]? = w1.heap[k]? := by
  have e3 := setCell_eq_setRow w1 B 3 _ _ _ x hg
  have hq3 := setRow_heap w1 B _ #[a, b, c, x, y0] _ _ hg
  have e4 := setCell_eq_setRow _ B 4 _ _ _ y hq3
  have hwv : (w1.setCell ⟨B, 3, none⟩ x).setCell ⟨B, 4, none⟩ y = (w1.setRow B #[a, b, c, x, y0]).setRow B #[a, b, c, x, y] := by rw [e3]; exact e4
  rw [hwv]
  exact ⟨setRow_heap _ _ _ _ _ _ hq3, fun k hk => by rw [g6 _ _ _ _ hk, g6 _ _ _ _ hk]⟩
theorem pN (v : Ver) (w : World) (hp : v.pre.length ≤ 1000000) :
    Calls Tryz.prog 191 #[zP v] w fun e w' => e = .returned (zP { v with build := [] }) ∧ Below w.heap.size w w' := by
  obtain ⟨a, b, c, p, q⟩ := v
  unfold zP
  dsimp only at hp ⊢
  go_enter Tryz.func191, Tryz.ntmps191
  go_wp2_with fail
  refine (tK (mkS p) _ (by rw [yC]; omega)).mono ?_
  rintro e w1 ⟨rfl, hb1⟩
  have hz1 := hb1.size
  simp only [zE] at hz1
  have hgB := Lib.hid ((hb1.block w.heap.size (by simp only [zE]; omega)).trans ((yO _ _ (by simp only [zE]; omega)).trans (yZ w _)))
  have hgR := Lib.hid ((hb1.block (w.heap.size + 1) (by simp only [zE]; omega)).trans (vL _ _ _ (by simp only [zE])))
  have hbw : Below w.heap.size w w1 := (((Below.refl _ _).alloc (Nat.le_refl _) _).alloc (by simp only [zE]; omega) _).trans (hb1.mono (by simp only [zE]; omega))
  obtain ⟨c3, f3⟩ := y6 (j := 3) hgB.out (by simp)
  obtain ⟨c4, f4⟩ := y6 (j := 4) hgB.out (by simp)
  obtain ⟨hL, hO⟩ := set34 (.string (mkS p)) (.string ⟨#[]⟩) hgB.out
  have HL := Lib.hid hL
  have HL0 := Lib.hid ((hO (w.heap.size + 1) (by omega)).trans hgR.out)
  have hbL : Below w.heap.size w ((w1.setCell ⟨w.heap.size, 3, none⟩ (.string (mkS p))).setCell ⟨w.heap.size, 4, none⟩ (.string ⟨#[]⟩)) := (hbw.setCell (by simp) _).setCell (by simp) _
  clear hL hO
  go_wp2_with (first
    | (refine wpList_load_row rfl 70 _ rfl w.heap.size rfl _ _ _ _ HL.out Tryz.underlying70 rfl (by kernel_rfl) ?_)
    | (refine wpList_store_row rfl 70 _ _ rfl (w.heap.size + 1) #[.int .i64 a, .int .i64 b, .int .i64 c, .string (mkS p), .string ⟨#[]⟩] rfl rfl _ _ HL0.out (by kernel_rfl) rfl (yS _ _ _ _ _) ?_))
  have hr := results_cell_row (P := Tryz.prog) (fn := Tryz.f191) Tryz.results191
  refine bodyPost_ret (v := .agg #[.int .i64 a, .int .i64 b, .int .i64 c, .string (mkS p), .string ⟨#[]⟩]) (hr _ _ (w.heap.size + 1) _ _ _ _ rfl (setRow_heap _ _ _ _ _ _ HL0.out) Tryz.underlying70 rfl (by kernel_rfl)) rfl ⟨rfl, xI hbL (by omega) _⟩
end
section
def ReadsI (w : World) (B : Nat) (v : Value) (l : List Int) : Prop :=
  ∃ A cap, v = .slice A l.length cap ∧ (0 < l.length → ∃ ad : Addr, A = some ad ∧ ad.block < B ∧ ∀ j (h : j < l.length), w.cell? (ad.add j) = some (.int .i64 l[j]))
theorem add_block (a : Addr) (n : Nat) : (a.add n).block = a.block := by unfold Addr.add; split <;> rfl
theorem ReadsI.below {w w' : World} {B : Nat} {v : Value} {l : List Int} (h : ReadsI w B v l) (hb : Below B w w') : ReadsI w' B v l := by
  obtain ⟨A, cap, hv, hc⟩ := h
  exact ⟨A, cap, hv, fun hpos => by
    obtain ⟨ad, hA, hlt, hcc⟩ := hc hpos
    exact ⟨ad, hA, hlt, fun j hj => (hb.cell (by rw [add_block]; exact hlt)).trans (hcc j hj)⟩⟩
theorem ReadsI.more {w : World} {B B' : Nat} {v : Value} {l : List Int} (h : ReadsI w B v l) (hB : B ≤ B') : ReadsI w B' v l := by
  obtain ⟨A, cap, hv, hc⟩ := h
  exact ⟨A, cap, hv, fun hpos => by
    obtain ⟨ad, hA, hlt, hcc⟩ := hc hpos
    exact ⟨ad, hA, Nat.lt_of_lt_of_le hlt hB, hcc⟩⟩
def atL (l : List Int) (i : Nat) : Int := (l[i]?).getD 0
def plc (v n : Int) : Int := if v.tmod n < 0 then v.tmod n + n else v.tmod n
theorem tmod_in (v n : Int) (hn : 0 < n) : -n < v.tmod n ∧ v.tmod n < n := by
  rcases Int.lt_or_le v 0 with h | h
  · have h3 := Int.tmod_lt_of_pos (-v) hn
    have h4 := Int.tmod_nonneg n (show 0 ≤ -v by omega)
    rw [Int.neg_tmod] at h3 h4; omega
  · have h3 := Int.tmod_lt_of_pos v hn
    have h4 := Int.tmod_nonneg n h
    omega
theorem t7 (v n : Int) (hn : 0 < n) : 0 ≤ plc v n ∧ plc v n < n := by
  obtain ⟨h1, h2⟩ := tmod_in v n hn
  unfold plc
  split <;> omega
theorem place_any (v n : Int) (w : World) (hn : 0 < n) (hn2 : n ≤ 1000000) :
    Calls Tryz.prog 17 #[.int .i64 v, .int .i64 n] w fun e w' => e = .returned (.int .i64 (plc v n)) ∧ w = w' := by
  obtain ⟨h1, h2⟩ := tmod_in v n hn
  have HP : Hid (plc v n = if v.tmod n < 0 then v.tmod n + n else v.tmod n) := rfl
  have hn0 : (n == 0) = false := by simp; omega
  have hw : IntKind.i64.wrap (v.tmod n) = v.tmod n := IntWalk.i64_in _ (by omega)
  obtain ⟨m, hm⟩ : ∃ m, v.tmod n = m := ⟨_, rfl⟩
  rw [hm] at h1 h2 HP hw
  by_cases h0 : m < 0
  · have hs : 0 ≤ m + n := by omega
    have hs2 : m + n ≤ 1000000 := by omega
    go_enter Tryz.func17, Tryz.ntmps17
    go_wp2
    go_ret
    exact ⟨xX (by rw [HP.out, if_pos h0]), rfl⟩
  · go_enter Tryz.func17, Tryz.ntmps17
    go_wp2
    go_ret
    exact ⟨xX (by rw [HP.out, if_neg (by omega)]), rfl⟩
theorem at_any (v : Value) (l : List Int) (i : Nat) (w : World) (hv : ReadsI w w.heap.size v l) (hl : l.length ≤ 9223372036854775807) (hi : i ≤ 1000000) :
    Calls Tryz.prog 134 #[v, .int .i64 i] w fun e w' => e = .returned (.int .i64 (atL l i)) ∧ w = w' := by
  obtain ⟨A, cap, rfl, hc⟩ := hv
  by_cases h : i < l.length
  · obtain ⟨ad, rfl, hlt, hcc⟩ := hc (by omega)
    have hcell := hcc i h
    have hi1 : (i : Int) < l.length := by omega
    have hi2 : ¬ (l.length : Int) ≤ i := by omega
    have HA : Hid (atL l i = l[i]) := by show _ = _; unfold atL; rw [List.getElem?_eq_getElem h]; rfl
    clear hc hcc
    go_enter Tryz.func134, Tryz.ntmps134
    go_wp2
    go_ret
    exact ⟨xX HA.out.symm, rfl⟩
  · have hi1 : (l.length : Int) ≤ i := by omega
    have HA : Hid (atL l i = 0) := by show _ = _; unfold atL; rw [List.getElem?_eq_none (by omega)]; rfl
    clear hc
    go_enter Tryz.func134, Tryz.ntmps134
    go_wp2
    go_ret
    exact ⟨xX HA.out.symm, rfl⟩
def i64in (n : Int) : Prop := -9223372036854775808 ≤ n ∧ n ≤ 9223372036854775807
theorem from_any (v : Value) (l : List Int) (i : Nat) (n : Int) (w : World) (hv : ReadsI w w.heap.size v l) (hl : l.length ≤ 9223372036854775807) (hi : i ≤ 1000000) (hn : 0 < n) (hn2 : n ≤ 1000000) :
    Calls Tryz.prog 87 #[v, .int .i64 i, .int .i64 n] w fun e w' => e = .returned (.int .i64 (plc (atL l i) n)) ∧ w = w' := by
  have cA := at_any v l i w hv hl hi
  obtain ⟨A, cap, rfl, hc⟩ := hv
  clear hc
  go_enter Tryz.func87, Tryz.ntmps87
  go_wp2_with fail
  refine cA.mono ?_
  rintro e w1 ⟨rfl, rfl⟩
  go_wp2_with fail
  refine (place_any _ n _ hn hn2).mono ?_
  rintro e w1 ⟨rfl, rfl⟩
  go_wp2
  go_ret
  exact ⟨rfl, rfl⟩
def jZ (k : Nat) : Int := (([0, 1, 2, 3, 0, 1, 10, 9999] : List Int)[k]?).getD 0
def b7 (k : Nat) : List UInt8 := (([[], [], [], [], [48], [49], [50], [49, 49], [97], [97, 46, 49], [97, 46, 98], [98], [48, 46, 48], [114, 99, 46, 49]] : List (List UInt8))[k]?).getD []
def bldT (k : Nat) : List UInt8 := (([[], [], [], [], [48, 48, 55], [120, 46, 49]] : List (List UInt8))[k]?).getD []
def xS (l : List Int) (i : Nat) : Ver := ⟨jZ (plc (atL l i) 8).toNat, jZ (plc (atL l (i + 1)) 8).toNat, jZ (plc (atL l (i + 2)) 8).toNat, b7 (plc (atL l (i + 3)) 14).toNat, bldT (plc (atL l (i + 4)) 6).toNat⟩
def GEnd (u : Ver) (w : World) (e : Ending) (w' : World) : Prop := e = .returned (zP u) ∧ Below w.heap.size w w'
end
section
end
section
end
section
end
section
theorem numT_ok : ∀ k, k < 8 → zV (jZ k) = true := by decide +kernel
theorem preT_ok : ∀ k, k < 14 → qQ (b7 k) = true ∧ (b7 k).length ≤ 300 := by decide +kernel
theorem bldT_ok : ∀ k, k < 6 → kU (bldT k) = true ∧ (bldT k).length ≤ 300 := by decide +kernel
theorem fX (v n : Int) (m : Nat) (hn : 0 < n) (hm : n = m) : (plc v n).toNat < m := by
  obtain ⟨h1, h2⟩ := t7 v n hn; omega
theorem gen_may (l : List Int) (i : Nat) : (xS l i).may = true := by
  unfold xS Ver.may
  dsimp only
  rw [numT_ok _ (fX _ 8 8 (by omega) rfl), numT_ok _ (fX _ 8 8 (by omega) rfl), numT_ok _ (fX _ 8 8 (by omega) rfl), (preT_ok _ (fX _ 14 14 (by omega) rfl)).1, (bldT_ok _ (fX _ 6 6 (by omega) rfl)).1]
  rfl
theorem gen_pre (l : List Int) (i : Nat) : (xS l i).pre.length ≤ 300 := (preT_ok _ (fX _ 14 14 (by omega) rfl)).2
end
section
structure Cu where
  e : Int
  v : Ver
  aft : Bool
deriving DecidableEq
def Cu.may (c : Cu) : Bool := if c.e = 0 then c.v.may && c.v.build.isEmpty else decide (c.e = -1 ∨ c.e = 1) && decide (c.v = Ver.zero) && !c.aft
def b01 (b : Bool) : Int := if b then 1 else 0
def lex (x y : Int) : Int := if x = 0 then y else x
def zO (a b : Cu) : Int := if a.may && b.may then lex (Lib.compareInt a.e b.e) (lex (kD a.v b.v) (Lib.compareInt (b01 a.aft) (b01 b.aft))) else 0
theorem zero_may : Ver.zero.may = true := by decide
theorem wB {c : Cu} (h : c.may = true) : c.v.may = true := by
  unfold Cu.may at h
  split at h
  · rw [Bool.and_eq_true] at h; exact h.1
  · simp only [Bool.and_eq_true, decide_eq_true_eq] at h; rw [h.1.2]; exact zero_may
theorem may_e {c : Cu} (h : c.may = true) : (c.e = 0 ∧ c.v.build = []) ∨ ((c.e = -1 ∨ c.e = 1) ∧ c.v = Ver.zero ∧ c.aft = false) := by
  unfold Cu.may at h
  split at h
  · rename_i h0; rw [Bool.and_eq_true] at h; exact .inl ⟨h0, List.isEmpty_iff.1 h.2⟩
  · simp only [Bool.and_eq_true, decide_eq_true_eq, Bool.not_eq_true'] at h; exact .inr ⟨h.1.1, h.1.2, h.2⟩
theorem gE {c : Cu} (h : c.may = true) : c.v.build = [] := by
  rcases may_e h with h | h
  · exact h.2
  · rw [h.2.1]; rfl
theorem dK {v w : Ver} : kD v w = -1 ∨ kD v w = 0 ∨ kD v w = 1 := by
  by_cases hv : v.may = true
  · by_cases hw : w.may = true
    · rw [jC hv hw]; exact cmpL_range _ _
    · exact .inr (.inl (pO (.inr (by simpa using hw))))
  · exact .inr (.inl (pO (.inl (by simpa using hv))))
theorem ci_range (x y : Int) : Lib.compareInt x y = -1 ∨ Lib.compareInt x y = 0 ∨ Lib.compareInt x y = 1 := by
  unfold Lib.compareInt
  by_cases h : x < y
  · rw [if_pos h]; simp
  · rw [if_neg h]
    by_cases h2 : y < x
    · rw [if_pos h2]; simp
    · rw [if_neg h2]; simp
theorem gU {a b : Cu} (ha : a.may = true) (hb : b.may = true) : zO a b = lex (Lib.compareInt a.e b.e) (lex (kD a.v b.v) (Lib.compareInt (b01 a.aft) (b01 b.aft))) := by
  unfold zO; rw [ha, hb]; rfl
theorem dL (a b : Cu) : zO a b = -1 ∨ zO a b = 0 ∨ zO a b = 1 := by
  unfold zO lex
  have h1 := ci_range a.e b.e
  have h2 := dK (v := a.v) (w := b.v)
  have h3 := ci_range (b01 a.aft) (b01 b.aft)
  split
  · split
    · split
      · exact h3
      · exact h2
    · exact h1
  · simp
structure Ord3 {α : Type} (c : α → α → Int) : Prop where
  anti : ∀ x y, c y x = - c x y
  on : ∀ x y z, c x y ≤ 0 → c y z ≤ 0 → c x z ≤ 0 ∧ (c x z = 0 → c x y = 0 ∧ c y z = 0)
  same : ∀ x y z, c x y = 0 → c y z = 0 → c x z = 0
theorem lex_ord {α : Type} {c d : α → α → Int} (hc : Ord3 c) (hd : Ord3 d) : Ord3 (fun x y => lex (c x y) (d x y)) := by
  refine ⟨fun x y => ?_, fun x y z h1 h2 => ?_, fun x y z h1 h2 => ?_⟩
  · have a := hc.anti x y; have b := hd.anti x y
    show lex (c y x) (d y x) = - lex (c x y) (d x y)
    unfold lex
    by_cases h : c x y = 0
    · rw [if_pos h, if_pos (by omega)]; exact b
    · rw [if_neg h, if_neg (by omega)]; exact a
  · have a := hc.on x y z; have b := hd.on x y z; have s := hc.same x y z
    show lex _ _ ≤ 0 ∧ (lex _ _ = 0 → lex _ _ = 0 ∧ lex _ _ = 0)
    replace h1 : lex (c x y) (d x y) ≤ 0 := h1
    replace h2 : lex (c y z) (d y z) ≤ 0 := h2
    unfold lex at h1 h2 ⊢
    by_cases p : c x y = 0
    · by_cases q : c y z = 0
      · rw [if_pos p] at h1 ⊢; rw [if_pos q] at h2 ⊢; rw [if_pos (s p q)]; exact b h1 h2
      · rw [if_pos p] at h1 ⊢; rw [if_neg q] at h2 ⊢
        obtain ⟨a1, a2⟩ := a (by omega) h2
        have : c x z ≠ 0 := fun e => q (a2 e).2
        rw [if_neg this]; exact ⟨a1, fun e => absurd e this⟩
    · rw [if_neg p] at h1 ⊢
      have h2' : c y z ≤ 0 := by
        by_cases q : c y z = 0
        · omega
        · rw [if_neg q] at h2; exact h2
      obtain ⟨a1, a2⟩ := a h1 h2'
      have : c x z ≠ 0 := fun e => p (a2 e).1
      rw [if_neg this]; exact ⟨a1, fun e => absurd e this⟩
  · have s := hc.same x y z; have t := hd.same x y z
    show lex _ _ = 0
    replace h1 : lex (c x y) (d x y) = 0 := h1
    replace h2 : lex (c y z) (d y z) = 0 := h2
    unfold lex at h1 h2 ⊢
    by_cases p : c x y = 0
    · by_cases q : c y z = 0
      · rw [if_pos p] at h1; rw [if_pos q] at h2; rw [if_pos (s p q)]; exact t h1 h2
      · rw [if_neg q] at h2; exact absurd h2 q
    · rw [if_neg p] at h1; exact absurd h1 p
theorem ci_ord {α : Type} (f : α → Int) : Ord3 (fun x y => Lib.compareInt (f x) (f y)) := by
  refine ⟨fun x y => ?_, fun x y z => ?_, fun x y z => ?_⟩ <;> unfold Lib.compareInt <;> (repeat' split) <;> omega
theorem cmpL_ord {α : Type} (f : α → List Nat) : Ord3 (fun x y => k8 (f x) (f y)) := by
  refine ⟨fun x y => cmpL_anti _ _, fun x y z => cmpL_trans _ _ _, fun x y z h1 h2 => ?_⟩
  show k8 (f x) (f z) = 0
  rw [cmpL_zero _ _ h1, cmpL_zero _ _ h2]; exact cmpL_self _
def cmpK (a b : Cu) : Int := lex (Lib.compareInt a.e b.e) (lex (k8 a.v.key b.v.key) (Lib.compareInt (b01 a.aft) (b01 b.aft)))
theorem cmpK_ord : Ord3 cmpK := lex_ord (ci_ord (fun c : Cu => c.e)) (lex_ord (cmpL_ord (fun c : Cu => c.v.key)) (ci_ord (fun c : Cu => b01 c.aft)))
theorem cmpC_K {a b : Cu} (ha : a.may = true) (hb : b.may = true) : zO a b = cmpK a b := by
  rw [gU ha hb, jC (wB ha) (wB hb)]; rfl
theorem yJ {a b : Cu} (h : a.may = false ∨ b.may = false) : zO a b = 0 := by
  unfold zO
  rcases h with h | h <;> rw [h] <;> simp
theorem qF {a b : Cu} : zO b a = - zO a b := by
  cases ha : a.may with
  | true =>
    cases hb : b.may with
    | true => rw [cmpC_K ha hb, cmpC_K hb ha]; exact cmpK_ord.anti _ _
    | false => rw [yJ (.inl hb), yJ (.inr hb)]; rfl
  | false => rw [yJ (a := a) (.inl ha), yJ (b := a) (.inr ha)]; rfl
theorem cut_on {a b c : Cu} (ha : a.may = true) (hb : b.may = true) (hc : c.may = true) (h1 : zO a b ≤ 0) (h2 : zO b c ≤ 0) : zO a c ≤ 0 ∧ (zO a c = 0 → zO a b = 0 ∧ zO b c = 0) := by
  rw [cmpC_K ha hb] at h1 ⊢; rw [cmpC_K hb hc] at h2 ⊢; rw [cmpC_K ha hc]; exact cmpK_ord.on _ _ _ h1 h2
theorem pD (x : Int) : lex (-1) x = -1 := rfl
theorem lex_pos (x : Int) : lex 1 x = 1 := rfl
theorem lex_0 (x : Int) : lex 0 x = x := rfl
theorem lex_zero {x y : Int} : lex x y = 0 ↔ x = 0 ∧ y = 0 := by
  unfold lex
  split
  · rename_i h; exact ⟨fun e => ⟨h, e⟩, fun e => e.2⟩
  · rename_i h; exact ⟨fun e => absurd e h, fun e => absurd e.1 h⟩
theorem b01_eq {a b : Bool} (h : b01 a = b01 b) : a = b := by cases a <;> cases b <;> simp [b01] at h ⊢
theorem cut_eq {a b : Cu} (ha : a.may = true) (hb : b.may = true) : zO a b = 0 ↔ a = b := by
  constructor
  · intro h
    rw [gU ha hb, lex_zero, lex_zero] at h
    obtain ⟨h1, h2, h3⟩ := h
    have e2 := cmpR_zero (wB ha) (wB hb) h2
    have e1 := xH h1
    have e3 := b01_eq (xH h3)
    have ba := gE ha
    have bb := gE hb
    obtain ⟨ae, ⟨a1, a2, a3, a4, a5⟩, aa⟩ := a
    obtain ⟨be, ⟨b1, b2, b3, b4, b5⟩, ba'⟩ := b
    unfold yK at e2
    dsimp only at *
    simp only [Ver.mk.injEq] at e2
    obtain ⟨rfl, rfl, rfl, rfl, _⟩ := e2
    subst ba bb e1 e3
    rfl
  · rintro rfl
    have := qF (a := a) (b := a)
    omega
def zQ (e : Int) : Cu := ⟨e, Ver.zero, false⟩
def posC (v : Ver) : Cu := ⟨0, yK v, false⟩
theorem tI : (zQ (-1)).may = true := by decide
theorem last_may : (zQ 1).may = true := by decide
theorem posC_may {v : Ver} (h : v.may = true) : (posC v).may = true := by
  unfold posC Cu.may
  rw [if_pos rfl, fI h]; rfl
theorem first_le {a : Cu} (ha : a.may = true) : zO (zQ (-1)) a ≤ 0 := by
  rw [gU tI ha]
  rcases may_e ha with ⟨h, _⟩ | ⟨h | h, h2, h3⟩
  · have : Lib.compareInt (zQ (-1)).e a.e = -1 := ci_lt (by show (-1 : Int) < a.e; omega)
    rw [this, pD]; decide
  · rw [show (zQ (-1)).e = a.e from h.symm, kZ, h2, h3]; decide
  · have : Lib.compareInt (zQ (-1)).e a.e = -1 := ci_lt (by show (-1 : Int) < a.e; omega)
    rw [this, pD]; decide
theorem le_last {a : Cu} (ha : a.may = true) : zO a (zQ 1) ≤ 0 := by
  rw [gU ha last_may]
  rcases may_e ha with ⟨h, _⟩ | ⟨h | h, h2, h3⟩
  · have : Lib.compareInt a.e (zQ 1).e = -1 := ci_lt (by show a.e < (1 : Int); omega)
    rw [this, pD]; decide
  · have : Lib.compareInt a.e (zQ 1).e = -1 := ci_lt (by show a.e < (1 : Int); omega)
    rw [this, pD]; decide
  · rw [show (zQ 1).e = a.e from h.symm, kZ, h2, h3]; decide
def dO (c : Cu) (v : Ver) : Bool := c.may && v.may && (if c.e = 0 then decide (kD c.v v < 0 ∨ (kD c.v v = 0 ∧ c.aft = false)) else decide (c.e < 0))
theorem cmpR_coreR {a v : Ver} (ha : a.may = true) (hv : v.may = true) : kD a (yK v) = kD a v := by
  rw [jC ha (fI hv), jC ha hv]; rfl
theorem ahead_pos {c : Cu} {v : Ver} (hc : c.may = true) (hv : v.may = true) : dO c v = decide (zO c (posC v) ≤ 0) := by
  rw [gU hc (posC_may hv)]
  unfold dO
  rw [hc, hv]
  show (true && true && _) = decide (lex (Lib.compareInt c.e 0) (lex (kD c.v (yK v)) (Lib.compareInt (b01 c.aft) (b01 false))) ≤ 0)
  rw [cmpR_coreR (wB hc) hv]
  rcases may_e hc with ⟨h, _⟩ | ⟨h, h2, h3⟩
  · rw [if_pos h, h, kZ]
    unfold lex
    rw [if_pos rfl]
    rcases dK (v := c.v) (w := v) with e | e | e <;> rw [e] <;> cases c.aft <;> decide
  · rw [if_neg (by omega)]
    rcases h with h | h <;> rw [h]
    · rw [show Lib.compareInt (-1) 0 = -1 from by decide]; unfold lex; simp
    · rw [show Lib.compareInt 1 0 = 1 from by decide]; unfold lex; simp
theorem ahead_on {a b : Cu} {v : Ver} (ha : a.may = true) (hb : b.may = true) (hv : v.may = true) (h : zO a b ≤ 0) (h2 : dO b v = true) : dO a v = true := by
  rw [ahead_pos hb hv, decide_eq_true_eq] at h2
  rw [ahead_pos ha hv, decide_eq_true_eq]
  exact (cut_on ha hb (posC_may hv) h h2).1
def gI (a b : Cu) : Bool := if a.e = b.e then (if kD a.v b.v = -1 then true else if kD a.v b.v = 1 then false else !a.aft && b.aft) else decide (a.e < b.e)
theorem bP {a b : Cu} (ha : a.may = true) (hb : b.may = true) : zO a b = if gI a b then -1 else if gI b a then 1 else 0 := by
  rw [gU ha hb]
  have hanti := order_anti (wB ha) (wB hb)
  by_cases he : a.e = b.e
  · unfold gI
    rw [if_pos he, if_pos he.symm, he, kZ, hanti, lex_0]
    rcases dK (v := a.v) (w := b.v) with e | e | e <;> rw [e] <;> cases a.aft <;> cases b.aft <;> rfl
  · have l1 : gI a b = decide (a.e < b.e) := by unfold gI; rw [if_neg he]
    have l2 : gI b a = decide (b.e < a.e) := by unfold gI; rw [if_neg (fun h => he h.symm)]
    rw [l1, l2]
    rcases Int.lt_or_gt_of_ne he with h | h
    · rw [ci_lt h, pD, decide_eq_true h]; rfl
    · rw [ci_gt h, lex_pos, decide_eq_true h, decide_eq_false (by omega)]; rfl
structure Sp where
  lo : Cu
  hi : Cu
def Sp.may (s : Sp) : Bool := decide (zO s.lo s.hi = -1)
def holdsC (s : Sp) (v : Ver) : Bool := s.may && dO s.lo v && !dO s.hi v
theorem xA {s : Sp} (h : s.may = true) : s.lo.may = true ∧ s.hi.may = true := by
  unfold Sp.may at h
  rw [decide_eq_true_eq] at h
  constructor
  · cases e : s.lo.may with
    | true => rfl
    | false => rw [yJ (.inl e)] at h; omega
  · cases e : s.hi.may with
    | true => rfl
    | false => rw [yJ (.inr e)] at h; omega
theorem nX (s : Sp) : (s.lo.may && s.hi.may && decide (zO s.lo s.hi < 0)) = s.may := by
  cases h : s.may with
  | true =>
    obtain ⟨h1, h2⟩ := xA h
    unfold Sp.may at h
    rw [decide_eq_true_eq] at h
    rw [h1, h2, h]; rfl
  | false =>
    unfold Sp.may at h
    rw [decide_eq_false_iff_not] at h
    have : ¬ zO s.lo s.hi < 0 := by rcases dL s.lo s.hi with e | e | e <;> omega
    rw [decide_eq_false this, Bool.and_false]
theorem beside {v w : Ver} (hv : v.may = true) (hw : w.may = true) : (Sp.mk ⟨0, yK v, false⟩ ⟨0, yK v, true⟩).may = true ∧ holdsC ⟨⟨0, yK v, false⟩, ⟨0, yK v, true⟩⟩ w = decide (kD v w = 0) := by
  have m1 : (Cu.mk 0 (yK v) false).may = true := posC_may hv
  have m2 : (Cu.mk 0 (yK v) true).may = true := by unfold Cu.may; rw [if_pos rfl, fI hv]; rfl
  have hs : (Sp.mk ⟨0, yK v, false⟩ ⟨0, yK v, true⟩).may = true := by
    unfold Sp.may
    rw [gU m1 m2]
    dsimp only
    rw [order_self]; rfl
  refine ⟨hs, ?_⟩
  unfold holdsC dO
  rw [hs, m1, m2, hw]
  dsimp only
  rw [if_pos rfl, if_pos rfl, order_core hv hw]
  rcases dK (v := v) (w := w) with e | e | e <;> rw [e] <;> rfl
theorem between {a b : Cu} {v : Ver} (ha : a.may = true) (hb : b.may = true) (hv : v.may = true) (h1 : dO a v = true) (h2 : dO b v = false) : zO a b = -1 := by
  have h3 : ¬ zO b a ≤ 0 := fun h => by rw [ahead_on hb ha hv h h1] at h2; cases h2
  have := qF (a := a) (b := b)
  rcases dL a b with e | e | e <;> omega
def fD (l : List Int) (i : Nat) : Cu :=
  if plc (atL l (i + 5)) 9 < 2 then zQ (2 * plc (atL l (i + 5)) 9 - 1) else ⟨0, yK (xS l i), decide (plc (atL l (i + 5)) 2 = 1)⟩
theorem genC_may (l : List Int) (i : Nat) : (fD l i).may = true := by
  unfold fD
  have h := t7 (atL l (i + 5)) 9 (by omega)
  split
  · have : plc (atL l (i + 5)) 9 = 0 ∨ plc (atL l (i + 5)) 9 = 1 := by omega
    rcases this with e | e <;> rw [e] <;> decide
  · unfold Cu.may; rw [if_pos rfl, fI (gen_may l i)]; rfl
theorem genC_pre (l : List Int) (i : Nat) : (fD l i).v.pre.length ≤ 300 := by
  unfold fD
  split
  · exact Nat.zero_le _
  · exact gen_pre l i
theorem genC_bld (l : List Int) (i : Nat) : (fD l i).v.build.length ≤ 300 := by rw [gE (genC_may l i)]; decide
end
section
def EqOk (P : Program) (d : Nat) (xs ys : Array Value) : List Field → List Bool → Prop
  | [], [] => True
  | f :: fs, b :: bs => f.name ≠ "_" ∧ (∃ u v, ∀ w, (part f.type xs f.offset).run P w = .ok u w ∧ (part f.type ys f.offset).run P w = .ok v w ∧ (Op.equalIn d f.type u v).run P w = .ok b w) ∧ EqOk P d xs ys fs bs
  | _, _ => False
theorem eqF {P : Program} {d : Nat} {xs ys : Array Value} : ∀ (fs : List Field) (bs : List Bool), EqOk P d xs ys fs bs → ∀ w, (Op.eqFields d xs ys fs).run P w = .ok (bs.all id) w
  | [], [], _, w => rfl
  | f :: fs, b :: bs, h, w => by
    obtain ⟨h1, ⟨u, v, h2⟩, h3⟩ := h
    obtain ⟨e1, e2, e3⟩ := h2 w
    have ih := eqF fs bs h3 w
    unfold Op.eqFields
    rw [if_pos h1]
    simp only [Sem.run_bind, e1, e2, e3, Result.andThen_ok]
    cases b with
    | false => simp
    | true => simp [ih]
  | [], _ :: _, h, _ => h.elim
  | _ :: _, [], h, _ => h.elim
theorem eq_agg {P : Program} {d : Nat} {t : TypeId} {xs ys : Array Value} {fs : List Field} {bs : List Bool} (hu : P.underlying t = some (.struct fs.toArray)) (hp : P.stoodInHeld t = false) (h : EqOk P d xs ys fs bs) (w : World) :
    (Op.equalIn (d + 1) t (.agg xs) (.agg ys)).run P w = .ok (bs.all id) w := by
  have hf : P.fieldsOf t = fs.toArray := by unfold Program.fieldsOf; rw [hu]
  rw [run_equalIn_struct w d t xs ys (by rw [hf]; exact hu) hp, hf]
  have : fs.toArray.toList = fs := by simp
  rw [this]
  exact eqF fs bs h w
theorem run_eq_op {P : Program} {ρ : Operand → Value} {o : Oper} {t t' : TypeId} {x y : Operand} {xs ys : Array Value} {b : Bool} (ho : o.op = .binOp .eql t x y t') (hx : ρ x = .agg xs) (hy : ρ y = .agg ys) (hm : P.eqGuardType P.depth t = false)
    (h : ∀ w, (Op.equalIn 10000 t (.agg xs) (.agg ys)).run P w = .ok b w) (w : World) : (execOp ρ o).run P w = .ok (.value (.bool b)) w := by
  have h1 := run_eqGuard_agg (P := P) w .eql t x y xs ys hm
  have h2 : (binOp .eql t (.agg xs) (.agg ys)).run P w = .ok (.bool b) w := by rw [run_eql_struct, h w]; rfl
  unfold execOp
  simp only [ho, hx, hy, Sem.run_bind, h1, Result.andThen_ok, h2, Sem.run_pure]
theorem str_beq (a b : List UInt8) : ((mkS a).toList == (mkS b).toList) = decide (a = b) := by
  rw [Lib.toList_data, Lib.toList_data, mk_data, mk_data]
  by_cases h : a = b
  · subst h; simp
  · rw [decide_eq_false h]; simpa using h
theorem guard_str {P : Program} {op : BinOp} {t : TypeId} {x y : Operand} {a b : ByteArray} (w : World) : (eqGuard op t x y (.string a) (.string b)).run P w = .ok () w := by cases op <;> simp [eqGuard]
theorem zI {P : Program} {ρ : Operand → Value} {o : Oper} {t t' : TypeId} {x y : Operand} {a b : List UInt8} {r : Bool} (ho : o.op = .binOp .eql t x y t') (hx : ρ x = .string (mkS a)) (hy : ρ y = .string (mkS b)) (h : decide (a = b) = r) (w : World) : (execOp ρ o).run P w = .ok (.value (.bool r)) w := by
  unfold execOp
  simp only [ho, hx, hy, Sem.run_bind, guard_str, Result.andThen_ok, binOp_string_eql, Sem.run_pure, str_beq, h]
theorem pQ (t : TypeId) (a b : ByteArray) : binOp .neq t (.string a) (.string b) = pure (.bool (!(a.toList == b.toList))) := by simp [binOp, Op.stringOp]
theorem xJ {P : Program} {ρ : Operand → Value} {o : Oper} {t t' : TypeId} {x y : Operand} {a b : List UInt8} {r : Bool} (ho : o.op = .binOp .neq t x y t') (hx : ρ x = .string (mkS a)) (hy : ρ y = .string (mkS b)) (h : decide (a = b) = r) (w : World) : (execOp ρ o).run P w = .ok (.value (.bool (!r))) w := by
  unfold execOp
  simp only [ho, hx, hy, Sem.run_bind, guard_str, Result.andThen_ok, pQ, Sem.run_pure, str_beq, h]
theorem all5 (a b c d e : Bool) : ([a, b, c, d, e].all id) = (a && (b && (c && (d && e)))) := by simp
theorem all3 (a b c : Bool) : ([a, b, c].all id) = (a && (b && c)) := by simp
theorem ver_dec (u v : Ver) : decide (u = v) = (decide (u.maj = v.maj) && (decide (u.min = v.min) && (decide (u.pat = v.pat) && (decide (u.pre = v.pre) && decide (u.build = v.build))))) := by
  obtain ⟨a, b, c, d, e⟩ := u
  obtain ⟨a', b', c', d', e'⟩ := v
  simp only [Ver.mk.injEq, Bool.decide_and]
theorem int_beq (a b : Int) : (a == b) = decide (a = b) := rfl
theorem eq_ver (u v : Ver) (d : Nat) (w : World) : (Op.equalIn (d + 1 + 1) 70 (zP u) (zP v)).run Tryz.prog w = .ok (decide (u = v)) w := by
  have h := eq_agg (P := Tryz.prog) (d := d + 1) (t := 70) (xs := (zP u).cells) (ys := (zP v).cells) (bs := [u.maj == v.maj, u.min == v.min, u.pat == v.pat, (mkS u.pre).toList == (mkS v.pre).toList, (mkS u.build).toList == (mkS v.build).toList]) Tryz.underlying70 (by kernel_rfl)
    ⟨by decide, ⟨.int .i64 u.maj, .int .i64 v.maj, fun w => ⟨by kernel_rfl, by kernel_rfl, run_equalIn_int w d _ _ _ _ _ Tryz.underlying3⟩⟩,
     by decide, ⟨.int .i64 u.min, .int .i64 v.min, fun w => ⟨by kernel_rfl, by kernel_rfl, run_equalIn_int w d _ _ _ _ _ Tryz.underlying3⟩⟩,
     by decide, ⟨.int .i64 u.pat, .int .i64 v.pat, fun w => ⟨by kernel_rfl, by kernel_rfl, run_equalIn_int w d _ _ _ _ _ Tryz.underlying3⟩⟩,
     by decide, ⟨.string (mkS u.pre), .string (mkS v.pre), fun w => ⟨by kernel_rfl, by kernel_rfl, run_equalIn_string w d _ _ _ Tryz.underlying9⟩⟩,
     by decide, ⟨.string (mkS u.build), .string (mkS v.build), fun w => ⟨by kernel_rfl, by kernel_rfl, run_equalIn_string w d _ _ _ Tryz.underlying9⟩⟩, trivial⟩ w
  rw [all5, str_beq, str_beq, int_beq, int_beq, int_beq, ← ver_dec] at h
  exact h
def zC (c : Cu) : Value := .agg #[.int .i64 c.e, .int .i64 c.v.maj, .int .i64 c.v.min, .int .i64 c.v.pat, .string (mkS c.v.pre), .string (mkS c.v.build), .bool c.aft]
def zF (s : Sp) : Value := .agg #[.int .i64 s.lo.e, .int .i64 s.lo.v.maj, .int .i64 s.lo.v.min, .int .i64 s.lo.v.pat, .string (mkS s.lo.v.pre), .string (mkS s.lo.v.build), .bool s.lo.aft, .int .i64 s.hi.e, .int .i64 s.hi.v.maj, .int .i64 s.hi.v.min, .int .i64 s.hi.v.pat, .string (mkS s.hi.v.pre), .string (mkS s.hi.v.build), .bool s.hi.aft]
theorem cut_dec (u v : Cu) : decide (u = v) = (decide (u.e = v.e) && (decide (u.v = v.v) && (u.aft == v.aft))) := by
  obtain ⟨a, b, c⟩ := u
  obtain ⟨a', b', c'⟩ := v
  simp only [Cu.mk.injEq, Bool.decide_and]
  cases c <;> cases c' <;> simp
theorem eq_cut (u v : Cu) (d : Nat) (w : World) : (Op.equalIn (d + 1 + 1 + 1) 72 (zC u) (zC v)).run Tryz.prog w = .ok (decide (u = v)) w := by
  have h := eq_agg (P := Tryz.prog) (d := d + 1 + 1) (t := 72) (xs := (zC u).cells) (ys := (zC v).cells) (bs := [u.e == v.e, decide (u.v = v.v), u.aft == v.aft]) Tryz.underlying72 (by kernel_rfl)
    ⟨by decide, ⟨.int .i64 u.e, .int .i64 v.e, fun w => ⟨by kernel_rfl, by kernel_rfl, run_equalIn_int w (d + 1) _ _ _ _ _ Tryz.underlying3⟩⟩,
     by decide, ⟨zP u.v, zP v.v, fun w => ⟨by kernel_rfl, by kernel_rfl, eq_ver u.v v.v d w⟩⟩,
     by decide, ⟨.bool u.aft, .bool v.aft, fun w => ⟨by kernel_rfl, by kernel_rfl, run_equalIn_bool' w (d + 1) _ _ _ Tryz.underlying4⟩⟩, trivial⟩ w
  rw [all3, int_beq, ← cut_dec] at h
  exact h
theorem guard_ver : Tryz.prog.eqGuardType Tryz.prog.depth 70 = false := by kernel_rfl
theorem guard_cut : Tryz.prog.eqGuardType Tryz.prog.depth 72 = false := by kernel_rfl
theorem qZ {ρ : Operand → Value} {o : Oper} {t' : TypeId} {x y : Operand} {u v : Ver} {b : Bool} (ho : o.op = .binOp .eql 70 x y t') (hx : ρ x = zP u) (hy : ρ y = zP v) (hb : decide (u = v) = b) (w : World) : (execOp ρ o).run Tryz.prog w = .ok (.value (.bool b)) w :=
  run_eq_op ho hx hy guard_ver (fun w => hb ▸ eq_ver u v 9998 w) w
theorem jL {ρ : Operand → Value} {o : Oper} {t' : TypeId} {x y : Operand} {u v : Cu} {b : Bool} (ho : o.op = .binOp .eql 72 x y t') (hx : ρ x = zC u) (hy : ρ y = zC v) (hb : decide (u = v) = b) (w : World) : (execOp ρ o).run Tryz.prog w = .ok (.value (.bool b)) w :=
  run_eq_op ho hx hy guard_cut (fun w => hb ▸ eq_cut u v 9997 w) w
end
section
theorem d9 {a b : Int} (h : a = b) : Ending.returned (.int .i64 a) = .returned (.int .i64 b) := by rw [h]
theorem nP {B : Nat} {a w : World} (h : Below B a w) : Below B a w.drew := h.drew
theorem wD (b : List UInt8) : (mkS b).toList.isEmpty = b.isEmpty := by rw [Lib.toList_data, mk_data]
theorem compareTag_any (a b : List UInt8) (w : World) (ha : a.length ≤ 1000000) (hb : b.length ≤ 1000000) :
    Calls Tryz.prog 211 #[.string (mkS a), .string (mkS b)] w fun e w' => e = .returned (.int .i64 (n4 a b)) ∧ Below w.heap.size w w' := by
  have la : a.length ≤ maxLen := by unfold maxLen; omega
  have lb : b.length ≤ maxLen := by unfold maxLen; omega
  have HO : Hid (n4 a b = if kT a && kT b then Lib.compareInt (x7 a) (x7 b) else if kT a && !b.isEmpty then -1 else if kT b && !a.isEmpty then 1 else Lib.compareBytes a b) := rfl
  have ea := wD a
  have eb := wD b
  obtain ⟨na, hna⟩ : ∃ n, x7 a = n := ⟨_, rfl⟩
  obtain ⟨nb, hnb⟩ : ∃ n, x7 b = n := ⟨_, rfl⟩
  have cC := fun w' => Tryz.strings_Compare (mkS a) (mkS b) w'
  rw [mk_data, mk_data] at cC
  obtain ⟨x, hx⟩ : ∃ n, Lib.compareBytes a b = n := ⟨_, rfl⟩
  have cI := fun w' => Tryz.cmp_Compare_int na nb w'
  obtain ⟨y, hy⟩ : ∃ n, Lib.compareInt na nb = n := ⟨_, rfl⟩
  rw [hx] at cC HO
  rw [hna, hnb, hy] at HO
  rw [hy] at cI
  clear hx hy
  cases hi : kT a <;> cases hj : kT b <;> cases ga : a.isEmpty <;> cases gb : b.isEmpty
  all_goals
    rw [hi, hj, ga, gb] at HO
    have cA := fun w' => jM a _ hi w' la
    have cB := fun w' => jM b _ hj w' lb
    rw [hna] at cA
    rw [hnb] at cB
    rw [ga] at ea
    rw [gb] at eb
    clear hi hj ga gb
    go_enter Tryz.func211, Tryz.ntmps211
    go_wp2_with fail
    refine (cA _).mono ?_
    rintro e w1 ⟨rfl, hb1⟩
    go_wp2_with fail
    refine (cB _).mono ?_
    rintro e w2 ⟨rfl, hb2⟩
    have hbw : Below w.heap.size w w2 := hb1.trans (hb2.mono hb1.size)
    go_wp2_with (first
      | (go_at_call 193; refine (cI _).mono ?_; rintro e w3 ⟨rfl, rfl⟩)
      | (go_at_call 225; refine (cC _).mono ?_; rintro e w3 ⟨rfl, rfl⟩))
    go_ret
    exact ⟨d9 (by rw [HO.out]; simp), hbw⟩
theorem lcell_get (l : List (List UInt8)) (k : Nat) (hk : k < 4) : (xW l)[k]? = some (.string (mkS (tg l k))) := by
  match k, hk with
  | 0, _ => rfl
  | 1, _ => rfl
  | 2, _ => rfl
  | 3, _ => rfl
theorem tag_cell {w : World} {B : Nat} {l : List (List UInt8)} {T : TypeId} (h : w.heap[B]? = some (.cells (xW l) T)) (k : Nat) (hk : k < 4) : w.cell? ⟨B, k, none⟩ = some (.string (mkS (tg l k))) := by
  rw [cell_of_row w B k _ _ _ h]; exact lcell_get l k hk
theorem seqP_on (n : Nat) (l m : List (List UInt8)) (h : n4 (tg l 0) (tg m 0) = 0) : dX (n + 1) l m = dX n l.tail m.tail := by
  rw [dX, if_neg (by simpa using h)]
theorem seqP_off (n : Nat) (l m : List (List UInt8)) (h : ¬ n4 (tg l 0) (tg m 0) = 0) : dX (n + 1) l m = n4 (tg l 0) (tg m 0) := by
  rw [dX, if_pos h]
theorem fQ (l : List (List UInt8)) (k : Nat) : tg (l.drop k) 0 = tg l k := by unfold tg; simp
theorem cfunc_any (bx by_ : Nat) (l m : List (List UInt8)) (w : World) (hx : w.heap[bx]? = some (.cells (xW l) 193)) (hy : w.heap[by_]? = some (.cells (xW m) 193)) (hl : ∀ i, (tg l i).length ≤ 8) (hm : ∀ i, (tg m i).length ≤ 8) :
    Calls Tryz.prog 210 #[.slice (some ⟨bx, 0, none⟩) 4 4, .slice (some ⟨by_, 0, none⟩) 4 4, .func (.func 211) #[] #[]] w fun e w' => e = .returned (.int .i64 (dX 4 l m)) ∧ Below w.heap.size w w' := by
  have hbx := (Array.getElem?_eq_some_iff.1 hx).1
  have hby := (Array.getElem?_eq_some_iff.1 hy).1
  have HX := Lib.hid hx
  have HY := Lib.hid hy
  have HL := Lib.hid hl
  have HM := Lib.hid hm
  clear hx hy hl hm
  go_enter Tryz.func210, Tryz.ntmps210
  go_wp2
  go_loopw [13] (fun v wr => ∃ k : Nat, k ≤ 4 ∧ v = .int .i64 k ∧ Below w.heap.size w wr ∧ Hid (dX (4 - k) (l.drop k) (m.drop k) = dX 4 l m)) (fun v _ => 4 - (intOf v).toNat)
  case atStart => exact ⟨0, by omega, rfl, Below.refl _ _, rfl⟩
  case round =>
    obtain ⟨k, hk, rfl, hbel, HR⟩ := hrel
    by_cases hk4 : k < 4
    · have hki : (k : Int) < 4 := by omega
      have hkn : ¬ (4 : Int) ≤ k := by omega
      have cx := tag_cell ((hbel.block bx hbx).trans HX.out) k hk4
      have cy := tag_cell ((hbel.block by_ hby).trans HY.out) k hk4
      have lx := HL.out k
      have ly := HM.out k
      obtain ⟨n, hn⟩ : ∃ n, 4 - k = n + 1 := ⟨3 - k, by omega⟩
      have cT := fun w' => compareTag_any (tg l k) (tg m k) w' (by omega) (by omega)
      obtain ⟨o, ho⟩ : ∃ o, n4 (tg l k) (tg m k) = o := ⟨_, rfl⟩
      rw [ho] at cT
      by_cases h0 : o = 0
      · have hq : dX n (l.drop (k + 1)) (m.drop (k + 1)) = dX 4 l m := by
          rw [← HR.out, hn, seqP_on _ _ _ (by rw [fQ, fQ, ho, h0])]; simp [List.tail_drop]
        have HQ := Lib.hid hq
        have HN := Lib.hid hn
        subst h0
        clear hq hn ho
        go_wp2_with fail
        refine (cT _).mono ?_
        rintro e w1 ⟨rfl, hb1⟩
        go_wp2
        go_roundw
        case rel => exact ⟨k + 1, by omega, by go_num, hbel.trans (hb1.mono hbel.size), by have := HN.out; rw [show 4 - (k + 1) = n from by omega]; exact HQ.out⟩
        case measure => simp [intOf]; omega
      · have hq : o = dX 4 l m := by
          rw [← HR.out, hn, seqP_off _ _ _ (by rw [fQ, fQ, ho]; exact h0), fQ, fQ, ho]
        have HQ := Lib.hid hq
        have h0b : (o != 0) = true := by simpa using h0
        clear hq hn ho
        go_wp2_with fail
        refine (cT _).mono ?_
        rintro e w1 ⟨rfl, hb1⟩
        go_wp2
        go_ret
        exact ⟨d9 HQ.out, hbel.trans (hb1.mono hbel.size)⟩
    · have hki : ¬ (k : Int) < 4 := by omega
      obtain rfl : k = 4 := by omega
      go_wp2
      go_ret
      exact ⟨d9 HR.out, hbel⟩
theorem comparePre_go (a b : List UInt8) (w : World) (ha : a.length ≤ 1000000) (hb : b.length ≤ 1000000) (na : a ≠ []) (nb : b ≠ []) :
    Calls Tryz.prog 194 #[.string (mkS a), .string (mkS b)] w fun e w' => e = .returned (.int .i64 (dX 4 (lst a).1 (lst b).1)) ∧ Below w.heap.size w w' := by
  have ea := wD a
  have eb := wD b
  rw [List.isEmpty_eq_false_iff.2 na] at ea
  rw [List.isEmpty_eq_false_iff.2 nb] at eb
  have cA := fun w' => pC a w' (by omega)
  have cB := fun w' => pC b w' (by omega)
  obtain ⟨L, hL⟩ : ∃ L, (lst a).1 = L := ⟨_, rfl⟩
  obtain ⟨M, hM⟩ : ∃ L, (lst b).1 = L := ⟨_, rfl⟩
  rw [hL] at cA
  rw [hM] at cB
  rw [hL, hM]
  have H8 := Lib.hid (tg_len a)
  have H9 := Lib.hid (tg_len b)
  rw [hL] at H8
  rw [hM] at H9
  clear hL hM na nb
  go_enter Tryz.func194, Tryz.ntmps194
  go_wp2_with fail
  refine (cA _).mono ?_
  rintro e w1 ⟨rfl, hb1⟩
  go_wp2_with fail
  refine (cB _).mono ?_
  rintro e w2 ⟨rfl, hb2⟩
  have hz1 := hb1.size
  have hz2 := hb2.size
  rw [zE] at hz2
  have hbw : Below w.heap.size w w2 := (hb1.alloc hb1.size _).trans (hb2.mono (by rw [zE]; omega))
  have hx := (hb2.block w1.heap.size (by rw [zE]; omega)).trans (yZ w1 _)
  have hy := yZ w2 (.cells #[.string (mkS (tg M 0)), .string (mkS (tg M 1)), .string (mkS (tg M 2)), .string (mkS (tg M 3))] 193)
  have hx2 := (yO w2 (.cells #[.string (mkS (tg M 0)), .string (mkS (tg M 1)), .string (mkS (tg M 2)), .string (mkS (tg M 3))] 193) (by omega : w1.heap.size < w2.heap.size)).trans hx
  have cF := cfunc_any w1.heap.size w2.heap.size L M ((w2.alloc (.cells #[.string (mkS (tg M 0)), .string (mkS (tg M 1)), .string (mkS (tg M 2)), .string (mkS (tg M 3))] 193)).drew) hx2 hy H8.out H9.out
  clear hx hy hx2
  go_wp2_with fail
  go_region_with (refine cF.mono ?_; rintro e w3 ⟨rfl, hb3⟩)
  all_goals
    go_wp2
    go_ret
    exact ⟨rfl, (nP (hbw.alloc (by omega) _)).trans (hb3.mono (by show _ ≤ (w2.alloc _).heap.size; rw [zE]; omega))⟩
theorem comparePre_any (a b : List UInt8) (w : World) (ha : a.length ≤ 1000000) (hb : b.length ≤ 1000000) :
    Calls Tryz.prog 194 #[.string (mkS a), .string (mkS b)] w fun e w' => e = .returned (.int .i64 (cpre a b)) ∧ Below w.heap.size w w' := by
  by_cases h1 : a = []
  · have ea := wD a
    rw [List.isEmpty_iff.2 h1] at ea
    have HC : Hid (cpre a b = 1) := by show _ = _; unfold cpre; rw [if_pos h1]
    clear h1
    go_enter Tryz.func194, Tryz.ntmps194
    go_wp2
    go_ret
    exact ⟨d9 HC.out.symm, Below.refl _ _⟩
  · by_cases h2 : b = []
    · have ea := wD a
      rw [List.isEmpty_eq_false_iff.2 h1] at ea
      have eb := wD b
      rw [List.isEmpty_iff.2 h2] at eb
      have HC : Hid (cpre a b = -1) := by show _ = _; unfold cpre; rw [if_neg h1, if_pos h2]
      clear h1 h2
      go_enter Tryz.func194, Tryz.ntmps194
      go_wp2
      go_ret
      exact ⟨d9 HC.out.symm, Below.refl _ _⟩
    · have hc : cpre a b = dX 4 (lst a).1 (lst b).1 := by unfold cpre; rw [if_neg h1, if_neg h2]
      rw [hc]
      exact comparePre_go a b w ha hb h1 h2
def or3 (x y z : Int) : Int := if x ≠ 0 then x else if y ≠ 0 then y else z
def nthI (x y z : Int) (k : Nat) : Int := if k = 0 then x else if k = 1 then y else z
theorem or_any (B : Nat) (x y z : Int) (w : World) (h : w.heap[B]? = some (.cells #[.int .i64 x, .int .i64 y, .int .i64 z] 3)) :
    Calls Tryz.prog 192 #[.slice (some ⟨B, 0, none⟩) 3 3] w fun e w' => e = .returned (.int .i64 (or3 x y z)) ∧ w = w' := by
  obtain ⟨c0, _⟩ := y6 (j := 0) h (by simp)
  obtain ⟨c1, _⟩ := y6 (j := 1) h (by simp)
  obtain ⟨c2, _⟩ := y6 (j := 2) h (by simp)
  simp only [List.getElem_toArray, List.getElem_cons_succ, List.getElem_cons_zero] at c0 c1 c2
  have HC : Hid (∀ k, k < 3 → w.cell? ⟨B, k, none⟩ = some (.int .i64 (nthI x y z k))) := by
    intro k hk
    match k, hk with
    | 0, _ => exact c0
    | 1, _ => exact c1
    | 2, _ => exact c2
  clear c0 c1 c2 h
  go_enter Tryz.func192, Tryz.ntmps192
  go_wp2
  go_loop [8] (fun v => ∃ k : Nat, k ≤ 3 ∧ v = .int .i64 k ∧ Hid (∀ j, j < k → nthI x y z j = 0)) (fun v => 3 - (intOf v).toNat)
  case atStart => exact ⟨0, by omega, rfl, fun j hj => by omega⟩
  case round =>
    obtain ⟨k, hk, rfl, HR⟩ := hrel
    by_cases hk3 : k < 3
    · have hki : (k : Int) < 3 := by omega
      have hc := HC.out k hk3
      obtain ⟨o, ho⟩ : ∃ o, nthI x y z k = o := ⟨_, rfl⟩
      rw [ho] at hc
      by_cases h0 : o = 0
      · subst h0
        have HO := Lib.hid ho
        clear ho
        go_wp2
        go_round
        case rel => exact ⟨k + 1, by omega, by go_num, fun j hj => by
          by_cases hjk : j < k
          · exact HR.out j hjk
          · obtain rfl : j = k := by omega
            exact HO.out⟩
        case measure => simp [intOf]; omega
      · have h0b : (o != 0) = true := by simpa using h0
        have HO := Lib.hid ho
        clear ho
        go_wp2
        go_ret
        refine ⟨d9 ?_, rfl⟩
        have h1 := HR.out
        have h2 := HO.out
        unfold or3
        match k, hk3 with
        | 0, _ => rw [show x = o from h2, if_pos h0]
        | 1, _ => rw [show x = 0 from h1 0 (by omega), show y = o from h2, if_neg (by simp), if_pos h0]
        | 2, _ => rw [show x = 0 from h1 0 (by omega), show y = 0 from h1 1 (by omega), show z = o from h2]; simp
    · have hki : ¬ (k : Int) < 3 := by omega
      obtain rfl : k = 3 := by omega
      go_wp2
      go_ret
      refine ⟨d9 ?_, rfl⟩
      have h1 := HR.out
      unfold or3
      rw [show x = 0 from h1 0 (by omega), show y = 0 from h1 1 (by omega), show z = 0 from h1 2 (by omega)]; simp
end
section
theorem bC {w w' w2 : World} {A B : Nat} {v1 v2 v3 v4 v5 u1 u2 u3 u4 u5 : Value} (hS : (w'.cell? ⟨A, 0, none⟩ = some v1 ∧ w'.cell? ⟨A, 1, none⟩ = some v2 ∧ w'.cell? ⟨A, 2, none⟩ = some v3 ∧ w'.cell? ⟨A, 3, none⟩ = some v4 ∧ w'.cell? ⟨A, 4, none⟩ = some v5) ∧ (w'.cell? ⟨B, 0, none⟩ = some u1 ∧ w'.cell? ⟨B, 1, none⟩ = some u2 ∧ w'.cell? ⟨B, 2, none⟩ = some u3 ∧ w'.cell? ⟨B, 3, none⟩ = some u4 ∧ w'.cell? ⟨B, 4, none⟩ = some u5) ∧ Below w.heap.size w w' ∧ A < w'.heap.size ∧ B < w'.heap.size) (hb : Below w'.heap.size w' w2) :
    (w2.cell? ⟨A, 0, none⟩ = some v1 ∧ w2.cell? ⟨A, 1, none⟩ = some v2 ∧ w2.cell? ⟨A, 2, none⟩ = some v3 ∧ w2.cell? ⟨A, 3, none⟩ = some v4 ∧ w2.cell? ⟨A, 4, none⟩ = some v5) ∧ (w2.cell? ⟨B, 0, none⟩ = some u1 ∧ w2.cell? ⟨B, 1, none⟩ = some u2 ∧ w2.cell? ⟨B, 2, none⟩ = some u3 ∧ w2.cell? ⟨B, 3, none⟩ = some u4 ∧ w2.cell? ⟨B, 4, none⟩ = some u5) ∧ Below w.heap.size w w2 ∧ A < w2.heap.size ∧ B < w2.heap.size := by
  obtain ⟨⟨a0, a1, a2, a3, a4⟩, ⟨b0, b1, b2, b3, b4⟩, h, hA, hB⟩ := hS
  have k : ∀ C i v, C < w'.heap.size → w'.cell? ⟨C, i, none⟩ = some v → w2.cell? ⟨C, i, none⟩ = some v := fun C i v hC e => (hb.cell (p := ⟨C, i, none⟩) hC).trans e
  exact ⟨⟨k _ _ _ hA a0, k _ _ _ hA a1, k _ _ _ hA a2, k _ _ _ hA a3, k _ _ _ hA a4⟩, ⟨k _ _ _ hB b0, k _ _ _ hB b1, k _ _ _ hB b2, k _ _ _ hB b3, k _ _ _ hB b4⟩, h.trans (hb.mono h.size), Nat.lt_of_lt_of_le hA hb.size, Nat.lt_of_lt_of_le hB hb.size⟩
theorem heap_new_drew (w : World) (o : Obj) : (w.alloc o).drew.heap[w.heap.size]? = some o := yZ w o
theorem fN (w : World) (v1 v2 v3 v4 v5 u1 u2 u3 u4 u5 : Value) (T : TypeId) :
    (((w.alloc (.cells #[v1, v2, v3, v4, v5] T)).alloc (.cells #[u1, u2, u3, u4, u5] T)).drew.cell? ⟨w.heap.size, 0, none⟩ = some v1 ∧ ((w.alloc (.cells #[v1, v2, v3, v4, v5] T)).alloc (.cells #[u1, u2, u3, u4, u5] T)).drew.cell? ⟨w.heap.size, 1, none⟩ = some v2 ∧ ((w.alloc (.cells #[v1, v2, v3, v4, v5] T)).alloc (.cells #[u1, u2, u3, u4, u5] T)).drew.cell? ⟨w.heap.size, 2, none⟩ = some v3 ∧ ((w.alloc (.cells #[v1, v2, v3, v4, v5] T)).alloc (.cells #[u1, u2, u3, u4, u5] T)).drew.cell? ⟨w.heap.size, 3, none⟩ = some v4 ∧ ((w.alloc (.cells #[v1, v2, v3, v4, v5] T)).alloc (.cells #[u1, u2, u3, u4, u5] T)).drew.cell? ⟨w.heap.size, 4, none⟩ = some v5) ∧ (((w.alloc (.cells #[v1, v2, v3, v4, v5] T)).alloc (.cells #[u1, u2, u3, u4, u5] T)).drew.cell? ⟨(w.heap.size + 1), 0, none⟩ = some u1 ∧ ((w.alloc (.cells #[v1, v2, v3, v4, v5] T)).alloc (.cells #[u1, u2, u3, u4, u5] T)).drew.cell? ⟨(w.heap.size + 1), 1, none⟩ = some u2 ∧ ((w.alloc (.cells #[v1, v2, v3, v4, v5] T)).alloc (.cells #[u1, u2, u3, u4, u5] T)).drew.cell? ⟨(w.heap.size + 1), 2, none⟩ = some u3 ∧ ((w.alloc (.cells #[v1, v2, v3, v4, v5] T)).alloc (.cells #[u1, u2, u3, u4, u5] T)).drew.cell? ⟨(w.heap.size + 1), 3, none⟩ = some u4 ∧ ((w.alloc (.cells #[v1, v2, v3, v4, v5] T)).alloc (.cells #[u1, u2, u3, u4, u5] T)).drew.cell? ⟨(w.heap.size + 1), 4, none⟩ = some u5) ∧ Below w.heap.size w ((w.alloc (.cells #[v1, v2, v3, v4, v5] T)).alloc (.cells #[u1, u2, u3, u4, u5] T)).drew ∧ w.heap.size < ((w.alloc (.cells #[v1, v2, v3, v4, v5] T)).alloc (.cells #[u1, u2, u3, u4, u5] T)).drew.heap.size ∧ (w.heap.size + 1) < ((w.alloc (.cells #[v1, v2, v3, v4, v5] T)).alloc (.cells #[u1, u2, u3, u4, u5] T)).drew.heap.size := by
  have h0 : ((w.alloc (.cells #[v1, v2, v3, v4, v5] T)).alloc (.cells #[u1, u2, u3, u4, u5] T)).drew.heap[w.heap.size]? = some (.cells #[v1, v2, v3, v4, v5] T) := (yO _ _ (by rw [zE]; omega)).trans (yZ w _)
  have h1 : ((w.alloc (.cells #[v1, v2, v3, v4, v5] T)).alloc (.cells #[u1, u2, u3, u4, u5] T)).drew.heap[w.heap.size + 1]? = some (.cells #[u1, u2, u3, u4, u5] T) := vL _ _ _ (by rw [zE])
  have k0 : ∀ i v, (#[v1, v2, v3, v4, v5] : Array Value)[i]? = some v → ((w.alloc (.cells #[v1, v2, v3, v4, v5] T)).alloc (.cells #[u1, u2, u3, u4, u5] T)).drew.cell? ⟨w.heap.size, i, none⟩ = some v := fun i v e => (cell_of_row _ _ i _ _ _ h0).trans e
  have k1 : ∀ i v, (#[u1, u2, u3, u4, u5] : Array Value)[i]? = some v → ((w.alloc (.cells #[v1, v2, v3, v4, v5] T)).alloc (.cells #[u1, u2, u3, u4, u5] T)).drew.cell? ⟨w.heap.size + 1, i, none⟩ = some v := fun i v e => (cell_of_row _ _ i _ _ _ h1).trans e
  have hs : ((w.alloc (.cells #[v1, v2, v3, v4, v5] T)).alloc (.cells #[u1, u2, u3, u4, u5] T)).drew.heap.size = w.heap.size + 2 := by show ((w.alloc _).alloc _).heap.size = _; rw [zE, zE]
  exact ⟨⟨k0 0 _ rfl, k0 1 _ rfl, k0 2 _ rfl, k0 3 _ rfl, k0 4 _ rfl⟩, ⟨k1 0 _ rfl, k1 1 _ rfl, k1 2 _ rfl, k1 3 _ rfl, k1 4 _ rfl⟩, nP (((Below.refl _ _).alloc (Nat.le_refl _) _).alloc (by rw [zE]; omega) _), by omega, by omega⟩
theorem compare_same (a1 a2 a3 : Int) (p q q' : List UInt8) (w : World) (h1 : p.length ≤ 1000000) (h2 : q.length ≤ 1000000) (h4 : q'.length ≤ 1000000) (hm : (Ver.mk a1 a2 a3 p q).may = true) (hn : (Ver.mk a1 a2 a3 p q').may = true) :
    Calls Tryz.prog 161 #[zP ⟨a1, a2, a3, p, q⟩, zP ⟨a1, a2, a3, p, q'⟩] w fun e w' => e = .returned (.int .i64 0) ∧ Below w.heap.size w w' := by
  have cM := fun w' => vI (Ver.mk a1 a2 a3 p q) w' (by show p.length < _; omega) (by show q.length < _; omega)
  have cN := fun w' => vI (Ver.mk a1 a2 a3 p q') w' (by show p.length < _; omega) (by show q'.length < _; omega)
  have cO := fun w' => pN (Ver.mk a1 a2 a3 p q) w' (by show p.length ≤ _; omega)
  have cP := fun w' => pN (Ver.mk a1 a2 a3 p q') w' (by show p.length ≤ _; omega)
  rw [hm] at cM
  rw [hn] at cN
  unfold zP at cM cN cO cP ⊢
  dsimp only at cM cN cO cP ⊢
  clear hm hn
  go_enter Tryz.func161, Tryz.ntmps161
  go_wp2_with fail
  go_region_held3 (fun w' => (w'.cell? ⟨w.heap.size, 0, none⟩ = some (.int .i64 a1) ∧ w'.cell? ⟨w.heap.size, 1, none⟩ = some (.int .i64 a2) ∧ w'.cell? ⟨w.heap.size, 2, none⟩ = some (.int .i64 a3) ∧ w'.cell? ⟨w.heap.size, 3, none⟩ = some (.string (mkS p)) ∧ w'.cell? ⟨w.heap.size, 4, none⟩ = some (.string (mkS q))) ∧ (w'.cell? ⟨(w.heap.size + 1), 0, none⟩ = some (.int .i64 a1) ∧ w'.cell? ⟨(w.heap.size + 1), 1, none⟩ = some (.int .i64 a2) ∧ w'.cell? ⟨(w.heap.size + 1), 2, none⟩ = some (.int .i64 a3) ∧ w'.cell? ⟨(w.heap.size + 1), 3, none⟩ = some (.string (mkS p)) ∧ w'.cell? ⟨(w.heap.size + 1), 4, none⟩ = some (.string (mkS q'))) ∧ Below w.heap.size w w' ∧ w.heap.size < w'.heap.size ∧ (w.heap.size + 1) < w'.heap.size)
    ((first | exact fN w _ _ _ _ _ _ _ _ _ _ _ | exact bC ‹_› ‹_›))
    (first
      | (go_at_call 147; with_reducible refine (cM _).mono ?_; rintro e w1 ⟨rfl, hb1⟩)
      | (go_at_call 147; with_reducible refine (cN _).mono ?_; rintro e w2 ⟨rfl, hb2⟩)
      | (go_at_call 191; with_reducible refine (cO _).mono ?_; rintro e w3 ⟨rfl, hb3⟩)
      | (go_at_call 191; with_reducible refine (cP _).mono ?_; rintro e w4 ⟨rfl, hb4⟩))
  all_goals
    go_wp2
    go_ret
    rename_i hH
    exact ⟨rfl, hH.2.2.1⟩
theorem compare_diff (a1 a2 a3 b1 b2 b3 : Int) (p q p' q' : List UInt8) (w : World) (h1 : p.length ≤ 1000000) (h2 : q.length ≤ 1000000) (h3 : p'.length ≤ 1000000) (h4 : q'.length ≤ 1000000) (hm : (Ver.mk a1 a2 a3 p q).may = true) (hn : (Ver.mk b1 b2 b3 p' q').may = true)
    (hd : (a1 == b1) = false ∨ ((a1 == b1) = true ∧ (a2 == b2) = false) ∨ ((a1 == b1) = true ∧ (a2 == b2) = true ∧ (a3 == b3) = false) ∨ ((a1 == b1) = true ∧ (a2 == b2) = true ∧ (a3 == b3) = true ∧ ((mkS p).toList == (mkS p').toList) = false))
    (n : Int) (hn2 : or3 (Lib.compareInt a1 b1) (Lib.compareInt a2 b2) (Lib.compareInt a3 b3) = n) :
    Calls Tryz.prog 161 #[zP ⟨a1, a2, a3, p, q⟩, zP ⟨b1, b2, b3, p', q'⟩] w fun e w' => e = .returned (.int .i64 (if n ≠ 0 then n else cpre p p')) ∧ Below w.heap.size w w' := by
  have cM := fun w' => vI (Ver.mk a1 a2 a3 p q) w' (by show p.length < _; omega) (by show q.length < _; omega)
  have cN := fun w' => vI (Ver.mk b1 b2 b3 p' q') w' (by show p'.length < _; omega) (by show q'.length < _; omega)
  have cO := fun w' => pN (Ver.mk a1 a2 a3 p q) w' (by show p.length ≤ _; omega)
  have cP := fun w' => pN (Ver.mk b1 b2 b3 p' q') w' (by show p'.length ≤ _; omega)
  have i1 := fun w' => Tryz.cmp_Compare_int a1 b1 w'
  have i2 := fun w' => Tryz.cmp_Compare_int a2 b2 w'
  have i3 := fun w' => Tryz.cmp_Compare_int a3 b3 w'
  obtain ⟨o1, ho1⟩ : ∃ o, Lib.compareInt a1 b1 = o := ⟨_, rfl⟩
  obtain ⟨o2, ho2⟩ : ∃ o, Lib.compareInt a2 b2 = o := ⟨_, rfl⟩
  obtain ⟨o3, ho3⟩ : ∃ o, Lib.compareInt a3 b3 = o := ⟨_, rfl⟩
  rw [ho1] at i1 hn2
  rw [ho2] at i2 hn2
  rw [ho3] at i3 hn2
  have cR := fun B w' h => or_any B o1 o2 o3 w' h
  rw [hn2] at cR
  rw [hm] at cM
  rw [hn] at cN
  unfold zP at cM cN cO cP ⊢
  dsimp only at cM cN cO cP ⊢
  clear hm hn ho1 ho2 ho3 hn2
  have cQ := fun w' => comparePre_any p p' w' h1 h3
  obtain ⟨x, hx⟩ : ∃ x, cpre p p' = x := ⟨_, rfl⟩
  rw [hx] at cQ ⊢
  clear hx
  rcases hd with d1 | ⟨d1, d2⟩ | ⟨d1, d2, d3⟩ | ⟨d1, d2, d3, d4⟩
  all_goals
    go_enter Tryz.func161, Tryz.ntmps161
    go_wp2_with fail
    go_region_held3 (fun w' => (w'.cell? ⟨w.heap.size, 0, none⟩ = some (.int .i64 a1) ∧ w'.cell? ⟨w.heap.size, 1, none⟩ = some (.int .i64 a2) ∧ w'.cell? ⟨w.heap.size, 2, none⟩ = some (.int .i64 a3) ∧ w'.cell? ⟨w.heap.size, 3, none⟩ = some (.string (mkS p)) ∧ w'.cell? ⟨w.heap.size, 4, none⟩ = some (.string (mkS q))) ∧ (w'.cell? ⟨(w.heap.size + 1), 0, none⟩ = some (.int .i64 b1) ∧ w'.cell? ⟨(w.heap.size + 1), 1, none⟩ = some (.int .i64 b2) ∧ w'.cell? ⟨(w.heap.size + 1), 2, none⟩ = some (.int .i64 b3) ∧ w'.cell? ⟨(w.heap.size + 1), 3, none⟩ = some (.string (mkS p')) ∧ w'.cell? ⟨(w.heap.size + 1), 4, none⟩ = some (.string (mkS q'))) ∧ Below w.heap.size w w' ∧ w.heap.size < w'.heap.size ∧ (w.heap.size + 1) < w'.heap.size)
      ((first | exact fN w _ _ _ _ _ _ _ _ _ _ _ | exact bC ‹_› ‹_›))
      (first
        | (go_at_call 147; with_reducible refine (cM _).mono ?_; rintro e w1 ⟨rfl, hb1⟩)
        | (go_at_call 147; with_reducible refine (cN _).mono ?_; rintro e w2 ⟨rfl, hb2⟩)
        | (go_at_call 191; with_reducible refine (cO _).mono ?_; rintro e w3 ⟨rfl, hb3⟩)
        | (go_at_call 191; with_reducible refine (cP _).mono ?_; rintro e w4 ⟨rfl, hb4⟩))
    all_goals
      rename_i hH
      go_wp2_with fail
      go_region_held3 (fun w' => (w'.cell? ⟨w.heap.size, 0, none⟩ = some (.int .i64 a1) ∧ w'.cell? ⟨w.heap.size, 1, none⟩ = some (.int .i64 a2) ∧ w'.cell? ⟨w.heap.size, 2, none⟩ = some (.int .i64 a3) ∧ w'.cell? ⟨w.heap.size, 3, none⟩ = some (.string (mkS p)) ∧ w'.cell? ⟨w.heap.size, 4, none⟩ = some (.string (mkS q))) ∧ (w'.cell? ⟨(w.heap.size + 1), 0, none⟩ = some (.int .i64 b1) ∧ w'.cell? ⟨(w.heap.size + 1), 1, none⟩ = some (.int .i64 b2) ∧ w'.cell? ⟨(w.heap.size + 1), 2, none⟩ = some (.int .i64 b3) ∧ w'.cell? ⟨(w.heap.size + 1), 3, none⟩ = some (.string (mkS p')) ∧ w'.cell? ⟨(w.heap.size + 1), 4, none⟩ = some (.string (mkS q'))) ∧ Below w.heap.size w w' ∧ w.heap.size < w'.heap.size ∧ (w.heap.size + 1) < w'.heap.size)
        ((first | exact hH | exact bC hH (nP (Below.refl _ _)) | assumption | exact bC ‹_› ((Below.refl _ _).alloc (Nat.le_refl _) _)))
        (first
          | (go_at_call 193; with_reducible refine (i1 _).mono ?_; rintro e w5 ⟨rfl, rfl⟩)
          | (go_at_call 193; with_reducible refine (i2 _).mono ?_; rintro e w6 ⟨rfl, rfl⟩)
          | (go_at_call 193; with_reducible refine (i3 _).mono ?_; rintro e w7 ⟨rfl, rfl⟩)
          | (go_at_call 192; refine (cR _ _ (heap_new_drew _ _)).mono ?_; rintro e w8 ⟨rfl, rfl⟩))
      all_goals
        rename_i hK
        obtain ⟨⟨_, _, _, k4, _⟩, ⟨_, _, _, m4, _⟩, hbk, _, _⟩ := hK
        by_cases h0 : n = 0
        · subst h0
          go_wp2_with (go_at_call 194; refine (cQ _).mono ?_; rintro e w9 ⟨rfl, hb9⟩)
          go_ret
          exact ⟨rfl, hbk.trans (hb9.mono hbk.size)⟩
        · have h0b : (n == 0) = false := by simpa using h0
          go_wp2
          go_ret
          exact ⟨rfl, hbk⟩
theorem compare_bad (v u : Ver) (w : World) (h1 : v.pre.length ≤ 1000000) (h2 : v.build.length ≤ 1000000) (h3 : u.pre.length ≤ 1000000) (h4 : u.build.length ≤ 1000000) (hm : v.may = false ∨ (v.may = true ∧ u.may = false)) :
    Calls Tryz.prog 161 #[zP v, zP u] w fun e w' => e = .returned (.int .i64 0) ∧ Below w.heap.size w w' := by
  have cM := fun w' => vI v w' (by omega) (by omega)
  have cN := fun w' => vI u w' (by omega) (by omega)
  obtain ⟨a1, a2, a3, p, q⟩ := v
  obtain ⟨b1, b2, b3, p', q'⟩ := u
  unfold zP at cM cN ⊢
  dsimp only at cM cN ⊢
  rcases hm with hm | ⟨hm, hn⟩
  · rw [hm] at cM
    clear hm
    go_enter Tryz.func161, Tryz.ntmps161
    go_wp2_with fail
    go_region_with (go_at_call 147; with_reducible refine (cM _).mono ?_; rintro e w1 ⟨rfl, hb1⟩)
    all_goals
      go_wp2
      go_ret
      exact ⟨rfl, (bC (fN w _ _ _ _ _ _ _ _ _ _ _) hb1).2.2.1⟩
  · rw [hm] at cM
    rw [hn] at cN
    clear hm hn
    go_enter Tryz.func161, Tryz.ntmps161
    go_wp2_with fail
    go_region_with (first
        | (go_at_call 147; with_reducible refine (cM _).mono ?_; rintro e w1 ⟨rfl, hb1⟩; obtain ⟨⟨k1, k2, k3, k4, k5⟩, ⟨m1, m2, m3, m4, m5⟩, hbk, _, _⟩ := bC (fN w _ _ _ _ _ _ _ _ _ _ _) hb1)
        | (go_at_call 147; with_reducible refine (cN _).mono ?_; rintro e w2 ⟨rfl, hb2⟩))
    all_goals
      go_wp2
      go_ret
      exact ⟨rfl, hbk.trans (hb2.mono hbk.size)⟩
theorem or3_cmpN (v u : Ver) : or3 (Lib.compareInt v.maj u.maj) (Lib.compareInt v.min u.min) (Lib.compareInt v.pat u.pat) = cmpN v u := rfl
theorem vcompare_any (v u : Ver) (w : World) (h1 : v.pre.length ≤ 1000000) (h2 : v.build.length ≤ 1000000) (h3 : u.pre.length ≤ 1000000) (h4 : u.build.length ≤ 1000000) :
    Calls Tryz.prog 161 #[zP v, zP u] w fun e w' => e = .returned (.int .i64 (kD v u)) ∧ Below w.heap.size w w' := by
  cases hm : v.may with
  | false => rw [pO (.inl hm)]; exact compare_bad v u w h1 h2 h3 h4 (.inl hm)
  | true =>
    cases hn : u.may with
    | false => rw [pO (.inr hn)]; exact compare_bad v u w h1 h2 h3 h4 (.inr ⟨hm, hn⟩)
    | true =>
      by_cases hc : yK v = yK u
      · rw [cmpR_core hc]
        obtain ⟨a1, a2, a3, p, q⟩ := v
        obtain ⟨b1, b2, b3, p', q'⟩ := u
        unfold yK at hc
        simp only [Ver.mk.injEq, and_true] at hc
        obtain ⟨rfl, rfl, rfl, rfl⟩ := hc
        exact compare_same a1 a2 a3 p q q' w h1 h2 h4 hm hn
      · rw [cmpR_go hm hn hc]
        obtain ⟨a1, a2, a3, p, q⟩ := v
        obtain ⟨b1, b2, b3, p', q'⟩ := u
        refine compare_diff a1 a2 a3 b1 b2 b3 p q p' q' w h1 h2 h3 h4 hm hn ?_ _ (or3_cmpN ⟨a1, a2, a3, p, q⟩ ⟨b1, b2, b3, p', q'⟩)
        by_cases g1 : a1 = b1
        · by_cases g2 : a2 = b2
          · by_cases g3 : a3 = b3
            · have g4 : p ≠ p' := fun e => hc (by unfold yK; rw [g1, g2, g3, e])
              exact .inr (.inr (.inr ⟨by simpa using g1, by simpa using g2, by simpa using g3, mkS_ne g4⟩))
            · exact .inr (.inr (.inl ⟨by simpa using g1, by simpa using g2, by simpa using g3⟩))
          · exact .inr (.inl ⟨by simpa using g1, by simpa using g2⟩)
        · exact .inl (by simpa using g1)
end
section
theorem rnumeric_any (s : ByteArray) (w : World) (hs : s.size ≤ maxLen) :
    Calls Tryz.prog 198 #[.string s] w fun e w' => e = .returned (.bool (xZ s.data.toList)) ∧ w = w' := by
  unfold maxLen at hs
  go_enter Tryz.func198, Tryz.ntmps198
  go_wp2
  go_loop [3] (fun i => ∃ k : Nat, k ≤ s.size ∧ i = .int .i64 k ∧ Hid (yV (s.data.toList.drop k) = yV s.data.toList)) (fun i => s.size - (intOf i).toNat)
  case atStart => exact ⟨0, Nat.zero_le _, rfl, rfl⟩
  case round =>
    obtain ⟨k, hk, rfl, HR⟩ := hrel
    by_cases hp : k < s.size
    · have HD := Lib.hid (qJ s k hp)
      by_cases h1 : ((s[k]'hp).toNat : Int) < 48
      · go_wp2
        go_ret
        exact ⟨yN (by unfold xZ; rw [← HR.out, HD.out, qT _ _ (by unfold kN; simp; omega), Bool.and_false]), rfl⟩
      · by_cases h2 : (57 : Int) < (s[k]'hp).toNat
        · go_wp2
          go_ret
          exact ⟨yN (by unfold xZ; rw [← HR.out, HD.out, qT _ _ (by unfold kN; simp; omega), Bool.and_false]), rfl⟩
        · go_wp2
          go_round
          case rel => exact ⟨k + 1, by omega, by go_num, by rw [← HR.out, HD.out, fL _ _ (by unfold kN; simp; omega)]; rfl⟩
          case measure => simp [intOf]; omega
    · have HD := Lib.hid (wE s k hp)
      have hl : s.data.toList.length = s.size := gO s
      by_cases h0 : s.size = 0
      · have he : s.data.toList = [] := List.eq_nil_of_length_eq_zero (by omega)
        have h0i : ¬ (0 : Int) < s.size := by omega
        have HE := Lib.hid he
        clear he h0 hl
        go_wp2
        go_ret
        exact ⟨yN (by unfold xZ; rw [HE.out]; simp; exact ByteArray.ext (Array.toList_inj.1 HE.out)), rfl⟩
      · have he : s.data.toList.isEmpty = false := by
          cases h : s.data.toList with
          | nil => rw [h] at hl; simp at hl; omega
          | cons _ _ => rfl
        have h0i : (0 : Int) < s.size := by omega
        have HE := Lib.hid he
        clear he h0 hl
        go_wp2
        go_ret
        exact ⟨yN (by unfold xZ; rw [HE.out, ← HR.out, HD.out]; simp [yV]; omega), rfl⟩
theorem rtag_any (s : ByteArray) (w : World) (hs : s.size ≤ maxLen) :
    Calls Tryz.prog 196 #[.string s] w fun e w' => e = .returned (.bool (kO s.data.toList)) ∧ w = w' := by
  unfold maxLen at hs
  have hl : s.data.toList.length = s.size := gO s
  by_cases h1 : s.size < 1
  · have HT : Hid (kO s.data.toList = false) := tR (List.eq_nil_of_length_eq_zero (by omega))
    clear hl
    go_enter Tryz.func196, Tryz.ntmps196
    go_wp2
    go_ret
    exact ⟨yN HT.out.symm, rfl⟩
  · by_cases h8 : 8 < s.size
    · have HT : Hid (kO s.data.toList = false) := mJ (by omega)
      clear hl
      go_enter Tryz.func196, Tryz.ntmps196
      go_wp2
      go_ret
      exact ⟨yN HT.out.symm, rfl⟩
    · have HT : Hid (kO s.data.toList = s.data.toList.all jG) := tagOk_mid (by intro e; rw [e] at hl; simp at hl; omega) (by omega)
      clear hl
      go_enter Tryz.func196, Tryz.ntmps196
      go_wp2
      go_loop [3] (fun i => ∃ k : Nat, k ≤ s.size ∧ i = .int .i64 k ∧ Hid ((s.data.toList.drop k).all jG = s.data.toList.all jG)) (fun i => s.size - (intOf i).toNat)
      case atStart => exact ⟨0, Nat.zero_le _, rfl, rfl⟩
      case round =>
        obtain ⟨k, hk, rfl, HR⟩ := hrel
        by_cases hp : k < s.size
        · have HD := Lib.hid (qJ s k hp)
          by_cases hL : (97 : Int) ≤ (s[k]'hp).toNat ∧ ((s[k]'hp).toNat : Int) ≤ 122
          · obtain ⟨hla, hlb⟩ := hL
            go_wp2
            go_round
            case rel => exact ⟨k + 1, by omega, by go_num, by rw [← HR.out, HD.out, tO _ _ (tagC_let _ (by unfold nG; simp; omega))]; rfl⟩
            case measure => simp [intOf]; omega
          · have hL2 : ((s[k]'hp).toNat : Int) < 97 ∨ (122 : Int) < (s[k]'hp).toNat := by omega
            by_cases hG : (48 : Int) ≤ (s[k]'hp).toNat ∧ ((s[k]'hp).toNat : Int) ≤ 57
            · obtain ⟨hga, hgb⟩ := hG
              have hL3 : ((s[k]'hp).toNat : Int) < 97 := by omega
              clear hL hL2
              go_wp2
              go_round
              case rel => exact ⟨k + 1, by omega, by go_num, by rw [← HR.out, HD.out, tO _ _ (tagC_dig _ (by unfold kN; simp; omega))]; rfl⟩
              case measure => simp [intOf]; omega
            · have hG2 : ((s[k]'hp).toNat : Int) < 48 ∨ (57 : Int) < (s[k]'hp).toNat := by omega
              by_cases h3 : ((s[k]'hp).toNat : Int) = 45
              · have h3b : (((s[k]'hp).toNat : Int) != 45) = false := by simp [h3]
                have hL3 : ((s[k]'hp).toNat : Int) < 97 := by omega
                have hG3 : ((s[k]'hp).toNat : Int) < 48 := by omega
                have H3 := Lib.hid h3
                clear h3 hL hL2 hG hG2
                go_wp2
                go_round
                case rel => exact ⟨k + 1, by omega, by go_num, by rw [← HR.out, HD.out, tO _ _ (tagC_dash _ H3.out)]; rfl⟩
                case measure => simp [intOf]; omega
              · have h3b : (((s[k]'hp).toNat : Int) != 45) = true := by simpa using h3
                have HB : Hid (s.data.toList.all jG = false) := by
                  show _ = _
                  rw [← HR.out, HD.out, all_bad _ _ (tagC_bad _ (by unfold kN; simp; omega) (by unfold nG; simp; omega) h3)]
                clear hL hG h3
                rcases hL2 with hL2 | hL2 <;> rcases hG2 with hG2 | hG2
                · go_wp2
                  go_ret
                  exact ⟨yN (by rw [HT.out, HB.out]), rfl⟩
                · have h9 : (48 : Int) ≤ (s[k]'hp).toNat := by omega
                  go_wp2
                  go_ret
                  exact ⟨yN (by rw [HT.out, HB.out]), rfl⟩
                · exfalso; omega
                · have h9 : (97 : Int) ≤ (s[k]'hp).toNat := by omega
                  have h7 : (48 : Int) ≤ (s[k]'hp).toNat := by omega
                  go_wp2
                  go_ret
                  exact ⟨yN (by rw [HT.out, HB.out]), rfl⟩
        · have HD := Lib.hid (wE s k hp)
          go_wp2
          go_ret
          exact ⟨yN (by rw [HT.out, ← HR.out, HD.out]; rfl), rfl⟩
theorem rnum_any (n : Int) (w : World) :
    Calls Tryz.prog 163 #[.int .i64 n] w fun e w' => e = .returned (.bool (zV n)) ∧ w = w' := by
  unfold zV
  go_enter Tryz.func163, Tryz.ntmps163
  go_wp2
  all_goals go_ret
  all_goals exact ⟨yN (by simp; try omega), rfl⟩
theorem vT (t : List UInt8) (w : World) (ht : t.length ≤ maxLen) :
    Calls Tryz.prog 197 #[.string (mkS t)] w fun e w' => e = .returned (.tuple #[.int .i64 (x7 t), .bool (kT t)]) ∧ w = w' := by
  have := rnumber_any (mkS t) w (by rw [yC]; exact ht)
  rw [numV_mk, numOk_mk] at this
  exact this
theorem dZ (t : List UInt8) (w : World) (ht : t.length ≤ maxLen) :
    Calls Tryz.prog 198 #[.string (mkS t)] w fun e w' => e = .returned (.bool (xZ t)) ∧ w = w' := by
  have := rnumeric_any (mkS t) w (by rw [yC]; exact ht)
  rw [mk_data] at this
  exact this
theorem rtag_mk (t : List UInt8) (w : World) (ht : t.length ≤ maxLen) :
    Calls Tryz.prog 196 #[.string (mkS t)] w fun e w' => e = .returned (.bool (kO t)) ∧ w = w' := by
  have := rtag_any (mkS t) w (by rw [yC]; exact ht)
  rw [mk_data] at this
  exact this
theorem fT (s : List UInt8) (w : World) (hs : s.length ≤ 1000000) :
    Calls Tryz.prog 79 #[.string (mkS s), .int .u8 46] w fun e w' => ∃ v, e = .returned v ∧ w'.ownsRow w.heap.size 9 1 v (pcs s).length (d5 (pcs s)) ∧ Below w.heap.size w w' := by
  have := rsplit_any (mkS s) 46 w (by rw [yC]; exact hs)
  unfold bM at this
  rw [mk_data] at this
  exact this
theorem wQ (s : List UInt8) : ∀ x ∈ pcs s, x.length ≤ s.length := by
  intro x hx
  have := split_le 46 s [] x hx
  simpa using this
theorem pcs_len (s : List UInt8) : (pcs s).length ≤ s.length + 1 := by
  unfold pcs; rw [split_len]
  have := List.length_filter_le (fun x : UInt8 => x == 46) s
  omega
def mB (s : List UInt8) (b : Bool) : Bool := s.isEmpty || (decide ((pcs s).length ≤ 4) && (pcs s).all fun t => kO t && !(b && xZ t && !kT t))
theorem all_both {α : Type} (p q r : α → Bool) (h : ∀ x, r x = (p x && q x)) (l : List α) : l.all r = (l.all p && l.all q) := by
  induction l with
  | nil => rfl
  | cons a l ih =>
    rw [List.all_cons, List.all_cons, List.all_cons, ih, h]
    cases p a <;> cases q a <;> simp
theorem tagsB_pre (s : List UInt8) : mB s true = qQ s := by
  unfold mB qQ kU mX
  cases s.isEmpty
  · simp only [Bool.false_or, Bool.true_and, Bool.and_assoc]
    congr 1
    refine all_both _ _ _ (fun t => ?_) _
    cases kO t <;> cases xZ t <;> cases kT t <;> rfl
  · rfl
theorem tagsB_build (s : List UInt8) : mB s false = kU s := by
  unfold mB kU
  simp
def tagF (b : Bool) (t : List UInt8) : Bool := kO t && !(b && xZ t && !kT t)
theorem tagsB_eq (s : List UInt8) (b : Bool) : mB s b = (s.isEmpty || (decide ((pcs s).length ≤ 4) && (pcs s).all (tagF b))) := rfl
theorem all_cut {l : List (List UInt8)} {p : List UInt8 → Bool} (k : Nat) (h : k < l.length) (hb : p l[k] = false) : l.all p = false := by
  rw [Bool.eq_false_iff]; intro e
  have := List.all_eq_true.1 e l[k] (List.getElem_mem h)
  rw [this] at hb; cases hb
theorem all_done {l : List (List UInt8)} {p : List UInt8 → Bool} (h : ∀ j (hj : j < l.length), p l[j] = true) : l.all p = true := by
  rw [List.all_eq_true]
  intro x hx
  obtain ⟨j, hj, rfl⟩ := List.getElem_of_mem hx
  exact h j hj
theorem rtags_any (s : List UInt8) (b : Bool) (w : World) (hs : s.length ≤ 1000000) :
    Calls Tryz.prog 164 #[.string (mkS s), .bool b] w fun e w' => e = .returned (.bool (mB s b)) ∧ Below w.heap.size w w' := by
  have es := (show (mkS s).toList.isEmpty = s.isEmpty by rw [Lib.toList_data, mk_data])
  have HT := Lib.hid (tagsB_eq s b)
  cases he : s.isEmpty with
  | true =>
    rw [he] at es HT
    clear he
    go_enter Tryz.func164, Tryz.ntmps164
    go_wp2
    go_ret
    exact ⟨yN (by rw [HT.out]; rfl), Below.refl _ _⟩
  | false =>
    rw [he] at es HT
    clear he
    have HM := Lib.hid (wQ s)
    have cS := fun w' => fT s w' hs
    have hne : 0 < (pcs s).length := by
      have := vR 46 s []
      cases h : pcs s with
      | nil => exact absurd h this
      | cons _ _ => simp
    obtain ⟨l, hl⟩ : ∃ l, pcs s = l := ⟨_, rfl⟩
    rw [hl] at cS HM hne HT
    clear hl
    go_enter Tryz.func164, Tryz.ntmps164
    go_wp2_with fail
    refine (cS _).mono ?_
    rintro e w1 ⟨v, rfl, hown, hb1⟩
    obtain ⟨A, cap, rfl, hcell⟩ := ReadsT.of_own hown
    obtain ⟨ad, rfl, hlt, hc⟩ := hcell hne
    have HC := Lib.hid hc
    clear hc hcell hown cS
    by_cases h4 : 4 < l.length
    · have h4i : (4 : Int) < l.length := by omega
      go_wp2
      go_ret
      exact ⟨yN (by rw [HT.out, decide_eq_false (by omega)]; rfl), hb1⟩
    · have h4i : ¬ (4 : Int) < l.length := by omega
      go_wp2
      go_loop [6] (fun x => ∃ k : Nat, k ≤ l.length ∧ x = .int .i64 k ∧ Hid (∀ j (hj : j < l.length), j < k → tagF b l[j] = true)) (fun x => l.length - (intOf x).toNat)
      case atStart => exact ⟨0, by omega, rfl, fun j hj h => by omega⟩
      case round =>
        obtain ⟨k, hk, rfl, HR⟩ := hrel
        by_cases hp : k < l.length
        · have hki : (k : Int) < l.length := by omega
          have hck := HC.out k hp
          have ht : l[k].length ≤ maxLen := by have := HM.out l[k] (List.getElem_mem hp); unfold maxLen; omega
          have cT := fun w' => rtag_mk l[k] w' ht
          have cN := fun w' => vT l[k] w' ht
          have cD := fun w' => dZ l[k] w' ht
          have HF : Hid (tagF b l[k] = (kO l[k] && !(b && xZ l[k] && !kT l[k]))) := rfl
          obtain ⟨g1, e1⟩ : ∃ g, kO l[k] = g := ⟨_, rfl⟩
          obtain ⟨g2, e2⟩ : ∃ g, xZ l[k] = g := ⟨_, rfl⟩
          obtain ⟨g3, e3⟩ : ∃ g, kT l[k] = g := ⟨_, rfl⟩
          rw [e1] at cT HF
          rw [e2] at cD HF
          rw [e3] at cN HF
          clear e1 e2 e3
          cases hf : (g1 && !(b && g2 && !g3)) with
          | true =>
            have HFT : Hid (tagF b l[k] = true) := by show _ = _; rw [HF.out, hf]
            clear HF
            cases g1 <;> cases b <;> cases g2 <;> cases g3 <;> simp at hf
            all_goals
              go_wp2_with (first
                | (go_at_call 196; refine (cT _).mono ?_; rintro e w2 ⟨rfl, rfl⟩)
                | (go_at_call 197; refine (cN _).mono ?_; rintro e w3 ⟨rfl, rfl⟩)
                | (go_at_call 198; refine (cD _).mono ?_; rintro e w4 ⟨rfl, rfl⟩))
              go_round
              case rel => exact ⟨k + 1, by omega, by go_num, fun j hj h => by
                by_cases hjk : j < k
                · exact HR.out j hj hjk
                · obtain rfl : j = k := by omega
                  exact HFT.out⟩
              case measure => simp [intOf]; omega
          | false =>
            have HFT : Hid (tagF b l[k] = false) := by show _ = _; rw [HF.out, hf]
            clear HF
            cases g1 <;> cases b <;> cases g2 <;> cases g3 <;> simp at hf
            all_goals
              go_wp2_with (first
                | (go_at_call 196; refine (cT _).mono ?_; rintro e w2 ⟨rfl, rfl⟩)
                | (go_at_call 197; refine (cN _).mono ?_; rintro e w3 ⟨rfl, rfl⟩)
                | (go_at_call 198; refine (cD _).mono ?_; rintro e w4 ⟨rfl, rfl⟩))
              go_ret
              exact ⟨yN (by rw [HT.out, all_cut k hp HFT.out]; simp), hb1⟩
        · have hki : ¬ (k : Int) < l.length := by omega
          have hall := all_done (l := l) (p := tagF b) (fun j hj => HR.out j hj (by omega))
          have HA := Lib.hid hall
          clear hall
          go_wp2
          go_ret
          exact ⟨yN (by rw [HT.out, HA.out, decide_eq_true (by omega)]; rfl), hb1⟩
theorem qD (v : Ver) (w : World) (hp : v.pre.length ≤ 1000000) (hq : v.build.length ≤ 1000000) :
    Calls Tryz.prog 117 #[zP v] w fun e w' => e = .returned (.bool v.may) ∧ Below w.heap.size w w' := by
  have HM : Hid (v.may = (zV v.maj && zV v.min && zV v.pat && mB v.pre true && mB v.build false)) := by
    show _ = _
    rw [tagsB_pre, tagsB_build]; rfl
  have cP := fun w' => rtags_any v.pre true w' hp
  have cQ := fun w' => rtags_any v.build false w' hq
  have c1 := fun w' => rnum_any v.maj w'
  have c2 := fun w' => rnum_any v.min w'
  have c3 := fun w' => rnum_any v.pat w'
  obtain ⟨m, hm⟩ : ∃ m, v.may = m := ⟨_, rfl⟩
  rw [hm] at HM ⊢
  obtain ⟨g1, e1⟩ : ∃ g, zV v.maj = g := ⟨_, rfl⟩
  obtain ⟨g2, e2⟩ : ∃ g, zV v.min = g := ⟨_, rfl⟩
  obtain ⟨g3, e3⟩ : ∃ g, zV v.pat = g := ⟨_, rfl⟩
  obtain ⟨g4, e4⟩ : ∃ g, mB v.pre true = g := ⟨_, rfl⟩
  obtain ⟨g5, e5⟩ : ∃ g, mB v.build false = g := ⟨_, rfl⟩
  rw [e1, e2, e3, e4, e5] at HM
  rw [e1] at c1
  rw [e2] at c2
  rw [e3] at c3
  rw [e4] at cP
  rw [e5] at cQ
  clear e1 e2 e3 e4 e5 hm
  obtain ⟨a, b, c, p, q⟩ := v
  unfold zP
  dsimp only at c1 c2 c3 cP cQ ⊢
  have hcases : g1 = false ∨ (g1 = true ∧ g2 = false) ∨ (g1 = true ∧ g2 = true ∧ g3 = false) ∨ (g1 = true ∧ g2 = true ∧ g3 = true ∧ g4 = false) ∨ (g1 = true ∧ g2 = true ∧ g3 = true ∧ g4 = true) := by
    cases g1 <;> cases g2 <;> cases g3 <;> cases g4 <;> simp
  rcases hcases with rfl | ⟨rfl, rfl⟩ | ⟨rfl, rfl, rfl⟩ | ⟨rfl, rfl, rfl, rfl⟩ | ⟨rfl, rfl, rfl, rfl⟩
  · go_enter Tryz.func117, Tryz.ntmps117
    go_wp2_with fail
    refine (c1 _).mono ?_
    rintro e w1 ⟨rfl, rfl⟩
    go_wp2
    go_ret
    exact ⟨yN (by rw [HM.out]; rfl), (Below.refl _ _).alloc (Nat.le_refl _) _⟩
  · go_enter Tryz.func117, Tryz.ntmps117
    go_wp2_with fail
    refine (c1 _).mono ?_
    rintro e w1 ⟨rfl, rfl⟩
    go_wp2_with fail
    refine (c2 _).mono ?_
    rintro e w1 ⟨rfl, rfl⟩
    go_wp2
    go_ret
    exact ⟨yN (by rw [HM.out]; rfl), (Below.refl _ _).alloc (Nat.le_refl _) _⟩
  · go_enter Tryz.func117, Tryz.ntmps117
    go_wp2_with fail
    refine (c1 _).mono ?_
    rintro e w1 ⟨rfl, rfl⟩
    go_wp2_with fail
    refine (c2 _).mono ?_
    rintro e w1 ⟨rfl, rfl⟩
    go_wp2_with fail
    refine (c3 _).mono ?_
    rintro e w1 ⟨rfl, rfl⟩
    go_wp2
    go_ret
    exact ⟨yN (by rw [HM.out]; rfl), (Below.refl _ _).alloc (Nat.le_refl _) _⟩
  · go_enter Tryz.func117, Tryz.ntmps117
    go_wp2_with fail
    refine (c1 _).mono ?_
    rintro e w1 ⟨rfl, rfl⟩
    go_wp2_with fail
    refine (c2 _).mono ?_
    rintro e w1 ⟨rfl, rfl⟩
    go_wp2_with fail
    refine (c3 _).mono ?_
    rintro e w1 ⟨rfl, rfl⟩
    go_wp2_with fail
    refine (cP _).mono ?_
    rintro e w1 ⟨rfl, hb1⟩
    go_wp2
    go_ret
    exact ⟨yN (by rw [HM.out]; rfl), ((Below.refl _ _).alloc (Nat.le_refl _) _).trans (hb1.mono (by simp))⟩
  · go_enter Tryz.func117, Tryz.ntmps117
    go_wp2_with fail
    refine (c1 _).mono ?_
    rintro e w1 ⟨rfl, rfl⟩
    go_wp2_with fail
    refine (c2 _).mono ?_
    rintro e w1 ⟨rfl, rfl⟩
    go_wp2_with fail
    refine (c3 _).mono ?_
    rintro e w1 ⟨rfl, rfl⟩
    go_wp2_with fail
    refine (cP _).mono ?_
    rintro e w1 ⟨rfl, hb1⟩
    obtain ⟨k4, m4⟩ := tM hb1 4 (by simp)
    simp only [List.getElem_toArray, List.getElem_cons_succ, List.getElem_cons_zero] at k4
    have hbw : Below w.heap.size w w1 := ((Below.refl _ _).alloc (Nat.le_refl _) _).trans (hb1.mono (by simp))
    go_wp2_with fail
    refine (cQ _).mono ?_
    rintro e w2 ⟨rfl, hb2⟩
    go_wp2
    go_ret
    exact ⟨yN (by rw [HM.out]; rfl), hbw.trans (hb2.mono hbw.size)⟩
end
section
theorem below_drew2 {B : Nat} {a w : World} (h : Below B a w) : Below B a w.drew := h.drew
theorem qX (a b : Int) (w : World) :
    Calls Tryz.prog 115 #[.int .i64 a, .int .i64 b] w fun e w' => e = .returned (.int .i64 (Lib.compareInt a b)) ∧ w = w' := by
  by_cases h1 : a < b
  · have HV : Hid (Lib.compareInt a b = -1) := by show _ = _; unfold Lib.compareInt; rw [if_pos h1]
    go_enter Tryz.func115, Tryz.ntmps115
    go_wp2
    go_ret
    exact ⟨xX HV.out.symm, rfl⟩
  · by_cases h2 : b < a
    · have HV : Hid (Lib.compareInt a b = 1) := by show _ = _; unfold Lib.compareInt; rw [if_neg h1, if_pos h2]
      go_enter Tryz.func115, Tryz.ntmps115
      go_wp2
      go_ret
      exact ⟨xX HV.out.symm, rfl⟩
    · have HV : Hid (Lib.compareInt a b = 0) := by show _ = _; unfold Lib.compareInt; rw [if_neg h1, if_neg h2]
      go_enter Tryz.func115, Tryz.ntmps115
      go_wp2
      go_ret
      exact ⟨xX HV.out.symm, rfl⟩
theorem less_cmp (a : List UInt8) : ∀ b, Op.bytesLess a b = decide (Lib.compareBytes a b = -1) := by
  induction a with
  | nil => intro b; cases b <;> simp [Op.bytesLess, Lib.compareBytes]
  | cons x l ih =>
    intro b
    cases b with
    | nil => simp [Op.bytesLess, Lib.compareBytes]
    | cons y m =>
      rw [Op.bytesLess, Lib.compareBytes, ih]
      by_cases h1 : x < y
      · simp [h1]
      · by_cases h2 : y < x
        · simp [h1, h2]
          intro e; subst e; exact absurd h2 h1
        · have e : x = y := UInt8.le_antisymm (UInt8.not_lt.1 h2) (UInt8.not_lt.1 h1)
          simp [e]
theorem cmpB_zero (a : List UInt8) : ∀ b, Lib.compareBytes a b = 0 ↔ a = b := by
  induction a with
  | nil => intro b; cases b <;> simp [Lib.compareBytes]
  | cons x l ih =>
    intro b
    cases b with
    | nil => simp [Lib.compareBytes]
    | cons y m =>
      rw [Lib.compareBytes]
      by_cases h1 : x < y
      · simp [h1]; intro e; subst e; exact absurd h1 (UInt8.lt_irrefl _)
      · by_cases h2 : y < x
        · simp [h1, h2]; intro e; subst e; exact absurd h2 (UInt8.lt_irrefl _)
        · have e : x = y := UInt8.le_antisymm (UInt8.not_lt.1 h2) (UInt8.not_lt.1 h1)
          simp [e, ih]
theorem cmpB_range (a : List UInt8) : ∀ b, Lib.compareBytes a b = -1 ∨ Lib.compareBytes a b = 0 ∨ Lib.compareBytes a b = 1 := by
  induction a with
  | nil => intro b; cases b <;> simp [Lib.compareBytes]
  | cons x l ih =>
    intro b
    cases b with
    | nil => simp [Lib.compareBytes]
    | cons y m =>
      rw [Lib.compareBytes]
      split
      · simp
      · split
        · simp
        · exact ih m
theorem rtexts_any (a b : List UInt8) (w : World) :
    Calls Tryz.prog 212 #[.string (mkS a), .string (mkS b)] w fun e w' => e = .returned (.int .i64 (Lib.compareBytes a b)) ∧ w = w' := by
  have hl := less_cmp a b
  have ha : (mkS a).toList = a := by rw [Lib.toList_data, mk_data]
  have hb : (mkS b).toList = b := by rw [Lib.toList_data, mk_data]
  have he : (a == b) = decide (Lib.compareBytes a b = 0) := by
    rw [Bool.eq_iff_iff]; simp [cmpB_zero]
  have hr := cmpB_range a b
  obtain ⟨x, hx⟩ : ∃ x, Lib.compareBytes a b = x := ⟨_, rfl⟩
  rw [hx] at hl he hr ⊢
  have hl2 : Op.bytesLess (mkS a).toList (mkS b).toList = decide (x = -1) := by rw [ha, hb]; exact hl
  have he2 : ((mkS a).toList == (mkS b).toList) = decide (x = 0) := by rw [ha, hb]; exact he
  clear ha hb hl he hx
  rcases hr with rfl | rfl | rfl
  · have a1 : Op.bytesLess (mkS a).toList (mkS b).toList = true := hl2
    have a2 : ((mkS a).toList == (mkS b).toList) = false := he2
    clear hl2 he2
    go_enter Tryz.func212, Tryz.ntmps212
    go_wp2
    go_ret
    exact ⟨rfl, rfl⟩
  · have a1 : Op.bytesLess (mkS a).toList (mkS b).toList = false := hl2
    have a2 : ((mkS a).toList == (mkS b).toList) = true := he2
    clear hl2 he2
    go_enter Tryz.func212, Tryz.ntmps212
    go_wp2
    go_ret
    exact ⟨rfl, rfl⟩
  · have a1 : Op.bytesLess (mkS a).toList (mkS b).toList = false := hl2
    have a2 : ((mkS a).toList == (mkS b).toList) = false := he2
    clear hl2 he2
    go_enter Tryz.func212, Tryz.ntmps212
    go_wp2
    go_ret
    exact ⟨rfl, rfl⟩
theorem rone_any (a b : List UInt8) (w : World) (ha : a.length ≤ 1000000) (hb : b.length ≤ 1000000) :
    Calls Tryz.prog 195 #[.string (mkS a), .string (mkS b)] w fun e w' => e = .returned (.int .i64 (fA a b)) ∧ w = w' := by
  have la : a.length ≤ maxLen := by unfold maxLen; omega
  have lb : b.length ≤ maxLen := by unfold maxLen; omega
  have HO : Hid (fA a b = if xZ a && xZ b then Lib.compareInt (x7 a) (x7 b) else if xZ a then -1 else if xZ b then 1 else Lib.compareBytes a b) := rfl
  obtain ⟨o, ho⟩ : ∃ o, fA a b = o := ⟨_, rfl⟩
  rw [ho] at HO ⊢
  clear ho
  have nA := fun w' => dZ a w' la
  have nB := fun w' => dZ b w' lb
  have vA := fun w' => vT a w' la
  have vB := fun w' => vT b w' lb
  have cI := fun w' => qX (x7 a) (x7 b) w'
  have cT := fun w' => rtexts_any a b w'
  obtain ⟨g1, d1⟩ : ∃ g, xZ a = g := ⟨_, rfl⟩
  obtain ⟨g2, d2⟩ : ∃ g, xZ b = g := ⟨_, rfl⟩
  obtain ⟨x, dx⟩ : ∃ g, Lib.compareInt (x7 a) (x7 b) = g := ⟨_, rfl⟩
  obtain ⟨y, dy⟩ : ∃ g, Lib.compareBytes a b = g := ⟨_, rfl⟩
  rw [dx] at HO cI
  rw [dy] at HO cT
  rw [d1] at nA HO
  rw [d2] at nB HO
  obtain ⟨na, ea⟩ : ∃ n, x7 a = n := ⟨_, rfl⟩
  obtain ⟨nb, eb⟩ : ∃ n, x7 b = n := ⟨_, rfl⟩
  rw [ea] at vA cI
  rw [eb] at vB cI
  clear dx dy d1 d2 ea eb
  cases g1 <;> cases g2
  all_goals
    go_enter Tryz.func195, Tryz.ntmps195
    go_wp2_with fail
    refine (nA _).mono ?_
    rintro e w1 ⟨rfl, rfl⟩
    go_wp2_with fail
    refine (nB _).mono ?_
    rintro e w1 ⟨rfl, rfl⟩
    go_wp2_with (first
      | (go_at_call 212; refine (cT _).mono ?_; rintro e w1 ⟨rfl, rfl⟩)
      | (go_at_call 197; with_reducible refine (vA _).mono ?_; rintro e w1 ⟨rfl, rfl⟩)
      | (go_at_call 197; with_reducible refine (vB _).mono ?_; rintro e w1 ⟨rfl, rfl⟩)
      | (go_at_call 115; refine (cI _).mono ?_; rintro e w1 ⟨rfl, rfl⟩))
    go_ret
    exact ⟨xX (by rw [HO.out]; simp), rfl⟩
theorem presL_end (l m : List (List UInt8)) (k : Nat) (hl : k ≤ l.length) (hm : k ≤ m.length) (h : ¬ (k < l.length ∧ k < m.length)) : kR (l.drop k) (m.drop k) = Lib.compareInt l.length m.length := by
  unfold Lib.compareInt
  by_cases h1 : k < l.length
  · have h2 : ¬ k < m.length := fun h2 => h ⟨h1, h2⟩
    rw [List.drop_eq_nil_of_le (by omega : m.length ≤ k), List.drop_eq_getElem_cons h1, kR, if_neg (by omega), if_pos (by omega)]
  · by_cases h2 : k < m.length
    · rw [List.drop_eq_nil_of_le (by omega : l.length ≤ k), List.drop_eq_getElem_cons h2, kR, if_pos (by omega)]
    · rw [List.drop_eq_nil_of_le (by omega : m.length ≤ k), List.drop_eq_nil_of_le (by omega : l.length ≤ k), kR, if_neg (by omega), if_neg (by omega)]
theorem presL_on (l m : List (List UInt8)) (k : Nat) (h1 : k < l.length) (h2 : k < m.length) (h : fA l[k] m[k] = 0) : kR (l.drop k) (m.drop k) = kR (l.drop (k + 1)) (m.drop (k + 1)) := by
  rw [List.drop_eq_getElem_cons h1, List.drop_eq_getElem_cons h2, kR, if_neg (by simpa using h)]
theorem presL_off (l m : List (List UInt8)) (k : Nat) (h1 : k < l.length) (h2 : k < m.length) (h : ¬ fA l[k] m[k] = 0) : kR (l.drop k) (m.drop k) = fA l[k] m[k] := by
  rw [List.drop_eq_getElem_cons h1, List.drop_eq_getElem_cons h2, kR, if_pos h]
theorem own_cells {w : World} {base : Nat} {v : Value} {l : List (List UInt8)} (h : w.ownsRow base 9 1 v l.length (d5 l)) (hl : 0 < l.length) :
    ∃ g cap, v = .slice (some ⟨g, 0, none⟩) l.length cap ∧ g < w.heap.size ∧ ∀ j (hj : j < l.length), w.cell? ⟨g, j, none⟩ = some (.string (mkS l[j])) := by
  rcases h.2 with ⟨_, h0⟩ | ⟨g, cap, cur, hv, hg, hh, hn, _⟩
  · omega
  · refine ⟨g, cap, hv, (Array.getElem?_eq_some_iff.1 hh).1, fun j hj => ?_⟩
    have h := h.cells (g := g) (by rw [hv]; rfl) j (.string (mkS l[j])) (by unfold d5; rw [List.getElem?_map, List.getElem?_eq_getElem hj]; rfl)
    have ha : (⟨g, 0, none⟩ : Addr).add j = ⟨g, j, none⟩ := by unfold Addr.add; split <;> simp_all
    rwa [ha] at h
theorem pcs_pos (s : List UInt8) : 0 < (pcs s).length := by
  have := vR 46 s []
  cases h : pcs s with
  | nil => exact absurd h this
  | cons _ _ => simp
theorem rpres_go (a b : List UInt8) (w : World) (ha : a.length ≤ 1000000) (hb : b.length ≤ 1000000) (n0 : a ≠ b) (na : a ≠ []) (nb : b ≠ []) :
    Calls Tryz.prog 162 #[.string (mkS a), .string (mkS b)] w fun e w' => e = .returned (.int .i64 (kR (pcs a) (pcs b))) ∧ Below w.heap.size w w' := by
  have e0 : ((mkS a).toList == (mkS b).toList) = false := by rw [Lib.toList_data, Lib.toList_data, mk_data, mk_data]; simpa using n0
  have ea : (mkS a).toList.isEmpty = false := by rw [Lib.toList_data, mk_data]; exact List.isEmpty_eq_false_iff.2 na
  have eb : (mkS b).toList.isEmpty = false := by rw [Lib.toList_data, mk_data]; exact List.isEmpty_eq_false_iff.2 nb
  have cA := fun w' => fT a w' ha
  have cB := fun w' => fT b w' hb
  have HA := Lib.hid (wQ a)
  have HB := Lib.hid (wQ b)
  have pa := pcs_pos a
  have pb := pcs_pos b
  have la := pcs_len a
  have lb := pcs_len b
  obtain ⟨l, hl⟩ : ∃ l, pcs a = l := ⟨_, rfl⟩
  obtain ⟨m, hm⟩ : ∃ l, pcs b = l := ⟨_, rfl⟩
  rw [hl] at cA HA pa la ⊢
  rw [hm] at cB HB pb lb ⊢
  clear n0 na nb hl hm
  go_enter Tryz.func162, Tryz.ntmps162
  go_wp2_with fail
  refine (cA _).mono ?_
  rintro e w1 ⟨v, rfl, hown1, hb1⟩
  obtain ⟨g1, cap1, rfl, hg1, hc1⟩ := own_cells hown1 pa
  go_wp2_with fail
  refine (cB _).mono ?_
  rintro e w2 ⟨v, rfl, hown2, hb2⟩
  obtain ⟨g2, cap2, rfl, hg2, hc2⟩ := own_cells hown2 pb
  have HC1 : Hid (∀ j (hj : j < l.length), w2.cell? ⟨g1, j, none⟩ = some (.string (mkS l[j]))) := fun j hj => (hb2.cell (p := ⟨g1, j, none⟩) hg1).trans (hc1 j hj)
  have HC2 := Lib.hid hc2
  have hg12 : g1 < w2.heap.size := Nat.lt_of_lt_of_le hg1 hb2.size
  have hbw : Below w.heap.size w w2 := hb1.trans (hb2.mono hb1.size)
  clear hc1 hc2 hown1 hown2 hb1 hb2 cA cB
  go_wp2
  go_loopw [7] (fun x wr => ∃ k : Nat, k ≤ l.length ∧ k ≤ m.length ∧ x = .int .i64 k ∧ Below w2.heap.size w2 wr ∧ Hid (kR (l.drop k) (m.drop k) = kR l m)) (fun x _ => l.length - (intOf x).toNat)
  case atStart => exact ⟨0, by omega, by omega, rfl, Below.refl _ _, rfl⟩
  case round =>
    obtain ⟨k, hk1, hk2, rfl, hbel, HR⟩ := hrel
    by_cases h1 : k < l.length
    · by_cases h2 : k < m.length
      · have i1 : (k : Int) < l.length := by omega
        have i2 : (k : Int) < m.length := by omega
        have q1 := (hbel.cell (p := ⟨g1, k, none⟩) hg12).trans (HC1.out k h1)
        have q2 := (hbel.cell (p := ⟨g2, k, none⟩) hg2).trans (HC2.out k h2)
        have t1 := Nat.le_trans (HA.out l[k] (List.getElem_mem h1)) ha
        have t2 := Nat.le_trans (HB.out m[k] (List.getElem_mem h2)) hb
        have cO := fun w' => rone_any l[k] m[k] w' t1 t2
        obtain ⟨o, ho⟩ : ∃ o, fA l[k] m[k] = o := ⟨_, rfl⟩
        rw [ho] at cO
        by_cases h0 : o = 0
        · have HQ : Hid (kR (l.drop (k + 1)) (m.drop (k + 1)) = kR l m) := by show _ = _; rw [← HR.out, presL_on l m k h1 h2 (ho.trans h0)]
          subst h0
          clear ho
          go_wp2_with fail
          go_region_with (go_at_call 195; refine (cO _).mono ?_; rintro e w4 ⟨rfl, rfl⟩)
          all_goals
            go_wp2
            go_roundw
            case rel => exact ⟨k + 1, by omega, by omega, by go_num, below_drew2 hbel, HQ.out⟩
            case measure => simp [intOf]; omega
        · have HQ : Hid (o = kR l m) := by show _ = _; rw [← HR.out, presL_off l m k h1 h2 (by rw [ho]; exact h0), ho]
          have h0b : (o != 0) = true := by simpa using h0
          clear ho
          go_wp2_with fail
          go_region_with (go_at_call 195; refine (cO _).mono ?_; rintro e w4 ⟨rfl, rfl⟩)
          all_goals
            go_wp2
            go_ret
            exact ⟨xX HQ.out, hbw.trans ((below_drew2 hbel).mono hbw.size)⟩
      · have i1 : (k : Int) < l.length := by omega
        have i2 : ¬ (k : Int) < m.length := by omega
        have HQ : Hid (Lib.compareInt l.length m.length = kR l m) := by show _ = _; rw [← HR.out, presL_end l m k hk1 hk2 (fun h => h2 h.2)]
        go_wp2_with (go_at_call 115; refine (qX _ _ _).mono ?_; rintro e w4 ⟨rfl, rfl⟩)
        go_ret
        exact ⟨xX HQ.out, hbw.trans (hbel.mono hbw.size)⟩
    · have i1 : ¬ (k : Int) < l.length := by omega
      have HQ : Hid (Lib.compareInt l.length m.length = kR l m) := by show _ = _; rw [← HR.out, presL_end l m k hk1 hk2 (fun h => h1 h.1)]
      go_wp2_with (go_at_call 115; refine (qX _ _ _).mono ?_; rintro e w4 ⟨rfl, rfl⟩)
      go_ret
      exact ⟨xX HQ.out, hbw.trans (hbel.mono hbw.size)⟩
theorem rpres_any (a b : List UInt8) (w : World) (ha : a.length ≤ 1000000) (hb : b.length ≤ 1000000) :
    Calls Tryz.prog 162 #[.string (mkS a), .string (mkS b)] w fun e w' => e = .returned (.int .i64 (vD a b)) ∧ Below w.heap.size w w' := by
  by_cases h0 : a = b
  · have e0 : ((mkS a).toList == (mkS b).toList) = true := by rw [h0]; simp
    have HC : Hid (vD a b = 0) := by show _ = _; unfold vD; rw [if_pos h0]
    clear h0
    go_enter Tryz.func162, Tryz.ntmps162
    go_wp2
    go_ret
    exact ⟨xX HC.out.symm, Below.refl _ _⟩
  · have e0 : ((mkS a).toList == (mkS b).toList) = false := by rw [Lib.toList_data, Lib.toList_data, mk_data, mk_data]; simpa using h0
    by_cases h1 : a = []
    · have ea : (mkS a).toList.isEmpty = true := by rw [Lib.toList_data, mk_data, h1]; rfl
      have HC : Hid (vD a b = 1) := by show _ = _; unfold vD; rw [if_neg h0, if_pos h1]
      clear h0 h1
      go_enter Tryz.func162, Tryz.ntmps162
      go_wp2
      go_ret
      exact ⟨xX HC.out.symm, Below.refl _ _⟩
    · have ea : (mkS a).toList.isEmpty = false := by rw [Lib.toList_data, mk_data]; exact List.isEmpty_eq_false_iff.2 h1
      by_cases h2 : b = []
      · have eb : (mkS b).toList.isEmpty = true := by rw [Lib.toList_data, mk_data, h2]; rfl
        have HC : Hid (vD a b = -1) := by show _ = _; unfold vD; rw [if_neg h0, if_neg h1, if_pos h2]
        clear h0 h1 h2
        go_enter Tryz.func162, Tryz.ntmps162
        go_wp2
        go_ret
        exact ⟨xX HC.out.symm, Below.refl _ _⟩
      · have hc : vD a b = kR (pcs a) (pcs b) := by unfold vD; rw [if_neg h0, if_neg h1, if_neg h2]
        rw [hc]
        exact rpres_go a b w ha hb h0 h1 h2
theorem cmpR_split (v u : Ver) : kD v u = if v.may && u.may then (if Lib.compareInt v.maj u.maj ≠ 0 then Lib.compareInt v.maj u.maj else if Lib.compareInt v.min u.min ≠ 0 then Lib.compareInt v.min u.min else if Lib.compareInt v.pat u.pat ≠ 0 then Lib.compareInt v.pat u.pat else vD v.pre u.pre) else 0 := by
  unfold kD cmpN
  by_cases h : (v.may && u.may) = true
  · rw [if_pos h, if_pos h]
    by_cases h1 : Lib.compareInt v.maj u.maj = 0
    · by_cases h2 : Lib.compareInt v.min u.min = 0
      · simp [h1, h2]
      · simp [h1, h2]
    · simp [h1]
  · rw [if_neg h, if_neg h]
theorem rcompare_any (v u : Ver) (w : World) (h1 : v.pre.length ≤ 1000000) (h2 : v.build.length ≤ 1000000) (h3 : u.pre.length ≤ 1000000) (h4 : u.build.length ≤ 1000000) :
    Calls Tryz.prog 116 #[zP v, zP u] w fun e w' => e = .returned (.int .i64 (kD v u)) ∧ Below w.heap.size w w' := by
  have HC := Lib.hid (cmpR_split v u)
  have cM := fun w' => qD v w' h1 h2
  have cN := fun w' => qD u w' h3 h4
  have i1 := fun w' => qX v.maj u.maj w'
  have i2 := fun w' => qX v.min u.min w'
  have i3 := fun w' => qX v.pat u.pat w'
  have cP := fun w' => rpres_any v.pre u.pre w' h1 h3
  obtain ⟨r, hr⟩ : ∃ r, kD v u = r := ⟨_, rfl⟩
  obtain ⟨m, hm⟩ : ∃ r, v.may = r := ⟨_, rfl⟩
  obtain ⟨n, hn⟩ : ∃ r, u.may = r := ⟨_, rfl⟩
  obtain ⟨o1, ho1⟩ : ∃ r, Lib.compareInt v.maj u.maj = r := ⟨_, rfl⟩
  obtain ⟨o2, ho2⟩ : ∃ r, Lib.compareInt v.min u.min = r := ⟨_, rfl⟩
  obtain ⟨o3, ho3⟩ : ∃ r, Lib.compareInt v.pat u.pat = r := ⟨_, rfl⟩
  obtain ⟨o4, ho4⟩ : ∃ r, vD v.pre u.pre = r := ⟨_, rfl⟩
  rw [hr, hm, hn, ho1, ho2, ho3, ho4] at HC
  rw [hr]
  rw [hm] at cM
  rw [hn] at cN
  rw [ho1] at i1
  rw [ho2] at i2
  rw [ho3] at i3
  rw [ho4] at cP
  clear hr hm hn ho1 ho2 ho3 ho4
  obtain ⟨a1, a2, a3, p, q⟩ := v
  obtain ⟨b1, b2, b3, p', q'⟩ := u
  unfold zP at cM cN ⊢
  dsimp only at cM cN i1 i2 i3 cP ⊢
  cases m with
  | false =>
    go_enter Tryz.func116, Tryz.ntmps116
    go_wp2_with (go_at_call 117; with_reducible refine (cM _).mono ?_; rintro e w1 ⟨rfl, hb1⟩)
    go_ret
    exact ⟨xX (by rw [HC.out]; simp), (((Below.refl _ _).alloc (Nat.le_refl _) _).alloc (by simp) _).trans (hb1.mono (by simp; omega))⟩
  | true =>
    go_enter Tryz.func116, Tryz.ntmps116
    go_wp2_with fail
    refine (cM _).mono ?_
    rintro e w1 ⟨rfl, hb1⟩
    have hz1 := hb1.size
    simp only [zE] at hz1
    have hgA := Lib.hid ((hb1.block w.heap.size (by simp only [zE]; omega)).trans ((yO _ _ (by simp only [zE]; omega)).trans (yZ w _)))
    have hgB := Lib.hid ((hb1.block (w.heap.size + 1) (by simp only [zE]; omega)).trans (vL _ _ _ (by simp only [zE])))
    have hbw : Below w.heap.size w w1 := (((Below.refl _ _).alloc (Nat.le_refl _) _).alloc (by simp only [zE]; omega) _).trans (hb1.mono (by simp only [zE]; omega))
    clear hb1 cM
    obtain ⟨y0, _⟩ := y6 (j := 0) hgB.out (by simp)
    obtain ⟨y1, _⟩ := y6 (j := 1) hgB.out (by simp)
    obtain ⟨y2, _⟩ := y6 (j := 2) hgB.out (by simp)
    obtain ⟨y3, _⟩ := y6 (j := 3) hgB.out (by simp)
    obtain ⟨y4, _⟩ := y6 (j := 4) hgB.out (by simp)
    simp only [List.getElem_toArray, List.getElem_cons_succ, List.getElem_cons_zero] at y0 y1 y2 y3 y4
    go_wp2_with fail
    refine (cN _).mono ?_
    rintro e w2 ⟨rfl, hb2⟩
    have hbw2 : Below w.heap.size w w2 := hbw.trans (hb2.mono hbw.size)
    cases n with
    | false =>
      go_wp2
      go_ret
      exact ⟨xX (by rw [HC.out]; simp), hbw2⟩
    | true =>
      have hA := (hb2.block w.heap.size (by omega)).trans hgA.out
      have hB := (hb2.block (w.heap.size + 1) (by omega)).trans hgB.out
      obtain ⟨k0, _⟩ := y6 (j := 0) hA (by simp)
      obtain ⟨k1, _⟩ := y6 (j := 1) hA (by simp)
      obtain ⟨k2, _⟩ := y6 (j := 2) hA (by simp)
      obtain ⟨k3, _⟩ := y6 (j := 3) hA (by simp)
      obtain ⟨m0, _⟩ := y6 (j := 0) hB (by simp)
      obtain ⟨m1, _⟩ := y6 (j := 1) hB (by simp)
      obtain ⟨m2, _⟩ := y6 (j := 2) hB (by simp)
      obtain ⟨m3, _⟩ := y6 (j := 3) hB (by simp)
      simp only [List.getElem_toArray, List.getElem_cons_succ, List.getElem_cons_zero] at k0 k1 k2 k3 m0 m1 m2 m3
      clear hA hB hb2 cN
      by_cases z1 : o1 = 0
      · by_cases z2 : o2 = 0
        · by_cases z3 : o3 = 0
          · subst z1 z2 z3
            go_wp2_with fail
            refine (i1 _).mono ?_
            rintro e w3 ⟨rfl, rfl⟩
            go_wp2_with fail
            refine (i2 _).mono ?_
            rintro e w3 ⟨rfl, rfl⟩
            go_wp2_with fail
            refine (i3 _).mono ?_
            rintro e w3 ⟨rfl, rfl⟩
            go_wp2_with fail
            refine (cP _).mono ?_
            rintro e w3 ⟨rfl, hb3⟩
            go_wp2
            go_ret
            exact ⟨xX (by rw [HC.out]; simp), hbw2.trans (hb3.mono hbw2.size)⟩
          · have z3b : (o3 != 0) = true := by simpa using z3
            have Z3 := Lib.hid z3
            subst z1 z2
            clear z3
            go_wp2_with fail
            refine (i1 _).mono ?_
            rintro e w3 ⟨rfl, rfl⟩
            go_wp2_with fail
            refine (i2 _).mono ?_
            rintro e w3 ⟨rfl, rfl⟩
            go_wp2_with fail
            refine (i3 _).mono ?_
            rintro e w3 ⟨rfl, rfl⟩
            go_wp2
            go_ret
            exact ⟨xX (by rw [HC.out]; simp [Z3.out]), hbw2⟩
        · have z2b : (o2 != 0) = true := by simpa using z2
          have Z2 := Lib.hid z2
          subst z1
          clear z2
          go_wp2_with fail
          refine (i1 _).mono ?_
          rintro e w3 ⟨rfl, rfl⟩
          go_wp2_with fail
          refine (i2 _).mono ?_
          rintro e w3 ⟨rfl, rfl⟩
          go_wp2
          go_ret
          exact ⟨xX (by rw [HC.out]; simp [Z2.out]), hbw2⟩
      · have z1b : (o1 != 0) = true := by simpa using z1
        have Z1 := Lib.hid z1
        clear z1
        go_wp2_with fail
        refine (i1 _).mono ?_
        rintro e w3 ⟨rfl, rfl⟩
        go_wp2
        go_ret
        exact ⟨xX (by rw [HC.out]; simp [Z1.out]), hbw2⟩
theorem rcore_any (v : Ver) (w : World) :
    Calls Tryz.prog 174 #[zP v] w fun e w' => e = .returned (zP (yK v)) ∧ Below w.heap.size w w' := by
  obtain ⟨a, b, c, p, q⟩ := v
  unfold zP yK
  dsimp only
  go_enter Tryz.func174, Tryz.ntmps174
  go_wp2
  exact bodyPost_ret (v := .agg #[.int .i64 a, .int .i64 b, .int .i64 c, .string (mkS p), .string (mkS [])]) (by simp [results, Tryz.results174, go_sem, mkS]) rfl ⟨rfl, ((Below.refl _ _).alloc (Nat.le_refl _) _).alloc (by simp) _⟩
end
section
def Cu.short (c : Cu) : Prop := c.v.pre.length ≤ 1000000 ∧ c.v.build.length ≤ 1000000
def Ver.short (v : Ver) : Prop := v.pre.length ≤ 1000000 ∧ v.build.length ≤ 1000000
def Sp.short (s : Sp) : Prop := s.lo.short ∧ s.hi.short
theorem nF {c : Cu} (h : c.e = 0) : c.may = (c.v.may && c.v.build.isEmpty) := by unfold Cu.may; rw [if_pos h]
theorem vJ {c : Cu} (h : c.e = -1 ∨ c.e = 1) : c.may = decide (c = ⟨c.e, Ver.zero, false⟩) := by
  unfold Cu.may
  rw [if_neg (by omega), decide_eq_true h]
  obtain ⟨e, v, a⟩ := c
  simp only [Cu.mk.injEq, Bool.true_and, true_and, Bool.decide_and]
  cases a <;> simp
theorem nE {c : Cu} (h0 : ¬ c.e = 0) (h : ¬ (c.e = -1 ∨ c.e = 1)) : c.may = false := by
  unfold Cu.may; rw [if_neg h0, decide_eq_false h]; rfl
theorem less_any (a b : Cu) (W : World) (ha : a.short) (hb : b.short) : Calls Tryz.prog 113 #[zC a, zC b] W fun e w' => e = .returned (.bool (gI a b)) ∧ Below W.heap.size W w' := by
  refine zM (n := 31) Tryz.func113 rfl (by kernel_rfl) (by kernel_rfl) (ZO (Zb (zC a) (fun b1 => Zb (zC b) (fun b2 => Zv (.bool false) (ZN (z8 (ZO (Zv (.pointer (some ⟨b1, 0, none⟩)) ?_))))))))
  refine Zl 1 ⟨b1, (zC a).cells, 72⟩ (off := 0) (.int .i64 a.e) (Zv (.pointer (some ⟨b2, 0, none⟩)) (Zl 0 ⟨b2, (zC b).cells, 72⟩ (off := 0) (.int .i64 b.e) ?_))
  by_cases h1 : (a.e : Int) = b.e
  · refine wZ (p := (a.e : Int) = b.e) true (by kernel_rfl) (fun _ => by kernel_rfl) (decide_eq_true (h1)) ?_
    refine ZX (ZB (z8 (ZO (Zv (.pointer (some ⟨b1, 1, none⟩)) (Zl 1 ⟨b1, (zC a).cells, 72⟩ (off := 1) (.agg #[.int .i64 a.v.maj, .int .i64 a.v.min, .int .i64 a.v.pat, .string (mkS a.v.pre), .string (mkS a.v.build)]) (Zv (.pointer (some ⟨b2, 1, none⟩)) (Zl 0 ⟨b2, (zC b).cells, 72⟩ (off := 1) (.agg #[.int .i64 b.v.maj, .int .i64 b.v.min, .int .i64 b.v.pat, .string (mkS b.v.pre), .string (mkS b.v.build)]) ?_)))))))
    refine Zc (k := 161) (args := #[.agg #[.int .i64 a.v.maj, .int .i64 a.v.min, .int .i64 a.v.pat, .string (mkS a.v.pre), .string (mkS a.v.build)], .agg #[.int .i64 b.v.maj, .int .i64 b.v.min, .int .i64 b.v.pat, .string (mkS b.v.pre), .string (mkS b.v.build)]]) (.int .i64 (kD a.v b.v)) (fun w _ => vcompare_any a.v b.v w ha.1 ha.2 hb.1 hb.2) (ZN (zX (z8 (zA ?_))))
    by_cases h2 : (kD a.v b.v : Int) = -1
    · refine xO (p := (kD a.v b.v : Int) = -1) true (by kernel_rfl) (fun _ => by kernel_rfl) (decide_eq_true (h2)) ?_
      refine Zv (.bool true) (ZY (ZO (Zv (.bool true) (ZN (zB (zD (z6 ?_)))))))
      exact ZF (.bool true) Tryz.results113 (fun w hO => ⟨by rw [show gI a b = true from by unfold gI; simp [h1, h2]], hO.below⟩)
    refine Zd (p := (kD a.v b.v : Int) = -1) false (decide_eq_false (h2)) (Zv (.bool false) (ZX (z8 (zA ?_))))
    by_cases h3 : (kD a.v b.v : Int) = 1
    · refine xO (p := (kD a.v b.v : Int) = 1) true (by kernel_rfl) (fun _ => by kernel_rfl) (decide_eq_true (h3)) ?_
      refine Zv (.bool true) (ZY (ZO (Zv (.bool false) (ZN (zB (zD (z6 ?_)))))))
      exact ZF (.bool false) Tryz.results113 (fun w hO => ⟨by rw [show gI a b = false from by unfold gI; simp [h1, h2, h3]], hO.below⟩)
    refine Zd (p := (kD a.v b.v : Int) = 1) false (decide_eq_false (h3)) (Zv (.bool false) (ZX (yT (zR (z7 (ZO (Zv (.pointer (some ⟨b1, 6, none⟩)) (Zl 1 ⟨b1, (zC a).cells, 72⟩ (off := 6) (.bool a.aft) ?_))))))))
    cases h4 : a.aft with
    | true =>
      exact Zv (.bool false) (Zv (.bool false) (Zk (Zk (Zv (.bool false) (Zv (.bool false) (ZN (zB (ZF (.bool false) Tryz.results113 (fun w hO => ⟨by rw [show gI a b = false from by unfold gI; simp [h1, h2, h3, h4]], hO.below⟩)))))))))
    | false =>
      exact Zv (.bool true) (Zv (.bool true) (Zv (.pointer (some ⟨b2, 6, none⟩)) (Zl 0 ⟨b2, (zC b).cells, 72⟩ (off := 6) (.bool b.aft) (Zv (.bool b.aft) (Zv (.bool b.aft) (ZN (zB (ZF (.bool b.aft) Tryz.results113 (fun w hO => ⟨by rw [show gI a b = b.aft from by unfold gI; simp [h1, h2, h3, h4]], hO.below⟩)))))))))
  refine Zn (p := (a.e : Int) = b.e) false (decide_eq_false (h1)) (ZY (ZO (Zv (.pointer (some ⟨b1, 0, none⟩)) (Zl 1 ⟨b1, (zC a).cells, 72⟩ (off := 0) (.int .i64 a.e) (Zv (.pointer (some ⟨b2, 0, none⟩)) (Zl 0 ⟨b2, (zC b).cells, 72⟩ (off := 0) (.int .i64 b.e) ?_))))))
  by_cases h5 : (a.e : Int) < b.e
  · refine xO (p := (a.e : Int) < b.e) true (by kernel_rfl) (fun _ => by kernel_rfl) (decide_eq_true (h5)) ?_
    exact Zv (.bool true) (ZN (zB (z6 (ZF (.bool true) Tryz.results113 (fun w hO => ⟨by rw [show gI a b = true from by unfold gI; simp [h1, h5]], hO.below⟩)))))
  exact Zd (p := (a.e : Int) < b.e) false (decide_eq_false (h5)) (Zv (.bool false) (ZN (zB (z6 (ZF (.bool false) Tryz.results113 (fun w hO => ⟨by rw [show gI a b = false from by unfold gI; simp [h1, h5]], hO.below⟩))))))
theorem mayC_any (c : Cu) (W : World) (hc : c.short) : Calls Tryz.prog 112 #[zC c] W fun e w' => e = .returned (.bool c.may) ∧ Below W.heap.size W w' := by
  refine zM (n := 24) Tryz.func112 rfl (by kernel_rfl) (by kernel_rfl) (ZO (Zb (zC c) (fun b1 => Zv (.bool false) (ZN (z8 (ZO (Zv (.pointer (some ⟨b1, 0, none⟩)) (Zl 0 ⟨b1, (zC c).cells, 72⟩ (off := 0) (.int .i64 c.e) ?_))))))))
  refine ZN (zX (z8 (z8 (zA ?_))))
  by_cases h1 : (c.e : Int) = -1
  · refine xO (p := (c.e : Int) = -1) true (by kernel_rfl) (fun _ => by kernel_rfl) (decide_eq_true (h1)) ?_
    refine Zv (.bool true) (ZY (ZB (Zt (ZO (Zl 0 ⟨b1, (zC c).cells, 72⟩ (off := 0) (zC c) (Zv (.pointer (some ⟨b1, 0, none⟩)) (Zl 0 ⟨b1, (zC c).cells, 72⟩ (off := 0) (.int .i64 c.e) ?_)))))))
    refine Zv (.agg #[.int .i64 c.e, .int .i64 0, .int .i64 0, .int .i64 0, .string ⟨#[]⟩, .string ⟨#[]⟩, .bool false]) ?_
    by_cases h2 : c = ⟨c.e, Ver.zero, false⟩
    · refine zK (.bool true) (by kernel_rfl) (jL rfl (by kernel_rfl) (by kernel_rfl) (decide_eq_true (h2))) ?_
      exact Zv (.bool true) (ZN (zB (zD (z6 (ZF (.bool true) Tryz.results112 (fun w hO => ⟨by rw [show c.may = true from by first | exact (vJ (by omega)).trans (decide_eq_true (by assumption)) | exact (vJ (by omega)).trans (decide_eq_false (by assumption)) | (rw [nF (by omega)]; simp [h1, h2]) | (rw [nE (by omega) (by omega)])], hO.below⟩))))))
    exact zK (.bool false) (by kernel_rfl) (jL rfl (by kernel_rfl) (by kernel_rfl) (decide_eq_false (h2))) (Zv (.bool false) (ZN (zB (zD (z6 (ZF (.bool false) Tryz.results112 (fun w hO => ⟨by rw [show c.may = false from by first | exact (vJ (by omega)).trans (decide_eq_true (by assumption)) | exact (vJ (by omega)).trans (decide_eq_false (by assumption)) | (rw [nF (by omega)]; simp [h1, h2]) | (rw [nE (by omega) (by omega)])], hO.below⟩)))))))
  refine Zd (p := (c.e : Int) = -1) false (decide_eq_false (h1)) (Zv (.bool false) (ZX (zA ?_)))
  by_cases h3 : (c.e : Int) = 1
  · refine xO (p := (c.e : Int) = 1) true (by kernel_rfl) (fun _ => by kernel_rfl) (decide_eq_true (h3)) ?_
    refine Zv (.bool true) (ZY (ZO (Zl 0 ⟨b1, (zC c).cells, 72⟩ (off := 0) (zC c) (Zv (.pointer (some ⟨b1, 0, none⟩)) (Zl 0 ⟨b1, (zC c).cells, 72⟩ (off := 0) (.int .i64 c.e) (Zv (.agg #[.int .i64 c.e, .int .i64 0, .int .i64 0, .int .i64 0, .string ⟨#[]⟩, .string ⟨#[]⟩, .bool false]) ?_))))))
    by_cases h4 : c = ⟨c.e, Ver.zero, false⟩
    · refine zK (.bool true) (by kernel_rfl) (jL rfl (by kernel_rfl) (by kernel_rfl) (decide_eq_true (h4))) ?_
      exact Zv (.bool true) (ZN (zB (zD (z6 (ZF (.bool true) Tryz.results112 (fun w hO => ⟨by rw [show c.may = true from by first | exact (vJ (by omega)).trans (decide_eq_true (by assumption)) | exact (vJ (by omega)).trans (decide_eq_false (by assumption)) | (rw [nF (by omega)]; simp [h1, h3, h4]) | (rw [nE (by omega) (by omega)])], hO.below⟩))))))
    exact zK (.bool false) (by kernel_rfl) (jL rfl (by kernel_rfl) (by kernel_rfl) (decide_eq_false (h4))) (Zv (.bool false) (ZN (zB (zD (z6 (ZF (.bool false) Tryz.results112 (fun w hO => ⟨by rw [show c.may = false from by first | exact (vJ (by omega)).trans (decide_eq_true (by assumption)) | exact (vJ (by omega)).trans (decide_eq_false (by assumption)) | (rw [nF (by omega)]; simp [h1, h3, h4]) | (rw [nE (by omega) (by omega)])], hO.below⟩)))))))
  refine Zd (p := (c.e : Int) = 1) false (decide_eq_false (h3)) (Zv (.bool false) (ZX (z8 (zA ?_))))
  by_cases h5 : (c.e : Int) = 0
  · refine xO (p := (c.e : Int) = 0) true (by kernel_rfl) (fun _ => by kernel_rfl) (decide_eq_true (h5)) ?_
    refine Zv (.bool true) (ZY (ZO (Zv (.pointer (some ⟨b1, 1, none⟩)) (Zv (.pointer (some ⟨b1, 5, none⟩)) (Zl 0 ⟨b1, (zC c).cells, 72⟩ (off := 5) (.string (mkS c.v.build)) ?_)))))
    by_cases h6 : (c.v.build : List UInt8) = []
    · refine zK (.bool true) (by kernel_rfl) (zI (a := c.v.build) (b := ([])) rfl (by kernel_rfl) (by kernel_rfl) (decide_eq_true (h6))) ?_
      refine Zv (.bool true) (Zv (.pointer (some ⟨b1, 1, none⟩)) (Zl 0 ⟨b1, (zC c).cells, 72⟩ (off := 1) (.agg #[.int .i64 c.v.maj, .int .i64 c.v.min, .int .i64 c.v.pat, .string (mkS c.v.pre), .string (mkS c.v.build)]) (Zc (k := 147) (args := #[.agg #[.int .i64 c.v.maj, .int .i64 c.v.min, .int .i64 c.v.pat, .string (mkS c.v.pre), .string (mkS c.v.build)]]) (.bool c.v.may) (fun w _ => vI c.v w (Nat.lt_of_le_of_lt hc.1 (by decide)) (Nat.lt_of_le_of_lt hc.2 (by decide))) (Zv (.bool c.v.may) (Zv (.bool c.v.may) (ZN (zB (zD (z6 (ZF (.bool c.v.may) Tryz.results112 ?_))))))))))
      exact fun w hO => ⟨by rw [show c.may = c.v.may from by first | exact (vJ (by omega)).trans (decide_eq_true (by assumption)) | exact (vJ (by omega)).trans (decide_eq_false (by assumption)) | (rw [nF (by omega)]; simp [h1, h3, h5, h6]) | (rw [nE (by omega) (by omega)])], hO.below⟩
    refine zK (.bool false) (by kernel_rfl) (zI (a := c.v.build) (b := ([])) rfl (by kernel_rfl) (by kernel_rfl) (decide_eq_false (h6))) (Zv (.bool false) (Zk (Zk (Zk (Zv (.bool false) (Zv (.bool false) (ZN (zB (zD (z6 ?_))))))))))
    exact ZF (.bool false) Tryz.results112 (fun w hO => ⟨by rw [show c.may = false from by first | exact (vJ (by omega)).trans (decide_eq_true (by assumption)) | exact (vJ (by omega)).trans (decide_eq_false (by assumption)) | (rw [nF (by omega)]; simp [h1, h3, h5, h6]) | (rw [nE (by omega) (by omega)])], hO.below⟩)
  refine Zd (p := (c.e : Int) = 0) false (decide_eq_false (h5)) (Zv (.bool false) (ZX (yT (zR (z7 (ZO (Zv (.bool false) (zL ?_))))))))
  exact z7 (zB (ZF (.bool false) Tryz.results112 (fun w hO => ⟨by rw [show c.may = false from by first | exact (vJ (by omega)).trans (decide_eq_true (by assumption)) | exact (vJ (by omega)).trans (decide_eq_false (by assumption)) | (rw [nF (by omega)]; simp [h1, h3, h5]) | (rw [nE (by omega) (by omega)])], hO.below⟩)))
theorem fV (c : Cu) (W : World) (hc : c.short) : Calls Tryz.prog 83 #[zC c] W fun e w' => e = .returned (.bool c.may) ∧ Below W.heap.size W w' := by
  refine zM (n := 34) Tryz.func83 rfl (by kernel_rfl) (by kernel_rfl) (ZO (Zb (zC c) (fun b1 => Zv (.bool false) (ZN (z8 (ZO (Zv (.pointer (some ⟨b1, 0, none⟩)) (Zl 0 ⟨b1, (zC c).cells, 72⟩ (off := 0) (.int .i64 c.e) ?_))))))))
  by_cases h1 : (c.e : Int) = 0
  · refine xO (p := (c.e : Int) = 0) true (by kernel_rfl) (fun _ => by kernel_rfl) (decide_eq_true (h1)) ?_
    refine ZY (ZO (Zv (.pointer (some ⟨b1, 1, none⟩)) (Zl 0 ⟨b1, (zC c).cells, 72⟩ (off := 1) (.agg #[.int .i64 c.v.maj, .int .i64 c.v.min, .int .i64 c.v.pat, .string (mkS c.v.pre), .string (mkS c.v.build)]) (Zc (k := 117) (args := #[.agg #[.int .i64 c.v.maj, .int .i64 c.v.min, .int .i64 c.v.pat, .string (mkS c.v.pre), .string (mkS c.v.build)]]) (.bool c.v.may) (fun w _ => qD c.v w hc.1 hc.2) (Zv (.bool c.v.may) ?_)))))
    cases h2 : c.v.may with
    | true =>
      refine Zv (.pointer (some ⟨b1, 1, none⟩)) (Zv (.pointer (some ⟨b1, 5, none⟩)) (Zl 0 ⟨b1, (zC c).cells, 72⟩ (off := 5) (.string (mkS c.v.build)) ?_))
      by_cases h3 : (c.v.build : List UInt8) = []
      · refine zK (.bool true) (by kernel_rfl) (zI (a := c.v.build) (b := ([])) rfl (by kernel_rfl) (by kernel_rfl) (decide_eq_true (h3))) ?_
        exact Zv (.bool true) (Zv (.bool true) (ZN (zB (z6 (ZF (.bool true) Tryz.results83 (fun w hO => ⟨by rw [show c.may = true from by unfold Cu.may; simp [h1, h2, h3]], hO.below⟩))))))
      exact zK (.bool false) (by kernel_rfl) (zI (a := c.v.build) (b := ([])) rfl (by kernel_rfl) (by kernel_rfl) (decide_eq_false (h3))) (Zv (.bool false) (Zv (.bool false) (ZN (zB (z6 (ZF (.bool false) Tryz.results83 (fun w hO => ⟨by rw [show c.may = false from by unfold Cu.may; simp [h1, h2, h3]], hO.below⟩)))))))
    | false =>
      exact Zk (Zk (Zk (Zk (Zv (.bool false) (Zv (.bool false) (ZN (zB (z6 (ZF (.bool false) Tryz.results83 (fun w hO => ⟨by rw [show c.may = false from by unfold Cu.may; simp [h1, h2]], hO.below⟩))))))))))
  refine Zd (p := (c.e : Int) = 0) false (decide_eq_false (h1)) (ZX (ZB (ZO (Zv (.pointer (some ⟨b1, 0, none⟩)) (Zl 0 ⟨b1, (zC c).cells, 72⟩ (off := 0) (.int .i64 c.e) ?_)))))
  by_cases h4 : (c.e : Int) = -1
  · refine xO (p := (c.e : Int) = -1) true (by kernel_rfl) (fun _ => by kernel_rfl) (decide_eq_true (h4)) ?_
    refine Zv (.bool true) (Zk (Zk (Zk (Zv (.bool true) (Zv (.bool true) (Zv (.pointer (some ⟨b1, 1, none⟩)) (Zl 0 ⟨b1, (zC c).cells, 72⟩ (off := 1) (.agg #[.int .i64 c.v.maj, .int .i64 c.v.min, .int .i64 c.v.pat, .string (mkS c.v.pre), .string (mkS c.v.build)]) (Zv (.agg #[.int .i64 0, .int .i64 0, .int .i64 0, .string ⟨#[]⟩, .string ⟨#[]⟩]) ?_))))))))
    by_cases h5 : c.v = Ver.zero
    · refine zK (.bool true) (by kernel_rfl) (qZ rfl (by kernel_rfl) (by kernel_rfl) (decide_eq_true (h5))) ?_
      refine Zv (.bool true) (Zv (.bool true) (Zv (.pointer (some ⟨b1, 6, none⟩)) (Zl 0 ⟨b1, (zC c).cells, 72⟩ (off := 6) (.bool c.aft) ?_)))
      cases h6 : c.aft with
      | true =>
        exact Zv (.bool false) (Zv (.bool false) (Zv (.bool false) (ZN (zB (ZF (.bool false) Tryz.results83 (fun w hO => ⟨by rw [show c.may = false from by unfold Cu.may; simp [h1, h4, h5, h6]], hO.below⟩))))))
      | false =>
        exact Zv (.bool true) (Zv (.bool true) (Zv (.bool true) (ZN (zB (ZF (.bool true) Tryz.results83 (fun w hO => ⟨by rw [show c.may = true from by unfold Cu.may; simp [h1, h4, h5, h6]], hO.below⟩))))))
    refine zK (.bool false) (by kernel_rfl) (qZ rfl (by kernel_rfl) (by kernel_rfl) (decide_eq_false (h5))) (Zv (.bool false) (Zv (.bool false) (Zk (Zk (Zk (Zv (.bool false) (Zv (.bool false) (ZN (zB (ZF (.bool false) Tryz.results83 ?_))))))))))
    exact fun w hO => ⟨by rw [show c.may = false from by unfold Cu.may; simp [h1, h4, h5]], hO.below⟩
  refine Zd (p := (c.e : Int) = -1) false (decide_eq_false (h4)) (Zv (.bool false) (Zv (.pointer (some ⟨b1, 0, none⟩)) (Zl 0 ⟨b1, (zC c).cells, 72⟩ (off := 0) (.int .i64 c.e) ?_)))
  by_cases h7 : (c.e : Int) = 1
  · refine xO (p := (c.e : Int) = 1) true (by kernel_rfl) (fun _ => by kernel_rfl) (decide_eq_true (h7)) ?_
    refine Zv (.bool true) (Zv (.bool true) (Zv (.pointer (some ⟨b1, 1, none⟩)) (Zl 0 ⟨b1, (zC c).cells, 72⟩ (off := 1) (.agg #[.int .i64 c.v.maj, .int .i64 c.v.min, .int .i64 c.v.pat, .string (mkS c.v.pre), .string (mkS c.v.build)]) (Zv (.agg #[.int .i64 0, .int .i64 0, .int .i64 0, .string ⟨#[]⟩, .string ⟨#[]⟩]) ?_))))
    by_cases h8 : c.v = Ver.zero
    · refine zK (.bool true) (by kernel_rfl) (qZ rfl (by kernel_rfl) (by kernel_rfl) (decide_eq_true (h8))) ?_
      refine Zv (.bool true) (Zv (.bool true) (Zv (.pointer (some ⟨b1, 6, none⟩)) (Zl 0 ⟨b1, (zC c).cells, 72⟩ (off := 6) (.bool c.aft) ?_)))
      cases h9 : c.aft with
      | true =>
        exact Zv (.bool false) (Zv (.bool false) (Zv (.bool false) (ZN (zB (ZF (.bool false) Tryz.results83 (fun w hO => ⟨by rw [show c.may = false from by unfold Cu.may; simp [h1, h4, h7, h8, h9]], hO.below⟩))))))
      | false =>
        exact Zv (.bool true) (Zv (.bool true) (Zv (.bool true) (ZN (zB (ZF (.bool true) Tryz.results83 (fun w hO => ⟨by rw [show c.may = true from by unfold Cu.may; simp [h1, h4, h7, h8, h9]], hO.below⟩))))))
    refine zK (.bool false) (by kernel_rfl) (qZ rfl (by kernel_rfl) (by kernel_rfl) (decide_eq_false (h8))) (Zv (.bool false) (Zv (.bool false) (Zk (Zk (Zk (Zv (.bool false) (Zv (.bool false) (ZN (zB (ZF (.bool false) Tryz.results83 ?_))))))))))
    exact fun w hO => ⟨by rw [show c.may = false from by unfold Cu.may; simp [h1, h4, h7, h8]], hO.below⟩
  refine Zd (p := (c.e : Int) = 1) false (decide_eq_false (h7)) (Zv (.bool false) (Zv (.bool false) (Zk (Zk (Zk (Zk (Zv (.bool false) (Zv (.bool false) (Zk (Zk (Zk ?_)))))))))))
  exact Zv (.bool false) (Zv (.bool false) (ZN (zB (ZF (.bool false) Tryz.results83 (fun w hO => ⟨by rw [show c.may = false from by unfold Cu.may; simp [h1, h4, h7]], hO.below⟩)))))
theorem cmpC_any (a b : Cu) (W : World) (ha : a.short) (hb : b.short) : Calls Tryz.prog 66 #[zC a, zC b] W fun e w' => e = .returned (.int .i64 (zO a b)) ∧ Below W.heap.size W w' := by
  refine zM (n := 22) Tryz.func66 rfl (by kernel_rfl) (by kernel_rfl) (ZO (Zb (zC a) (fun b1 => Zb (zC b) (fun b2 => Zv (.int .i64 0) (ZN (z8 (zX (z8 (zA ?_)))))))))
  refine Zl 1 ⟨b1, (zC a).cells, 72⟩ (off := 0) (zC a) (Zc (k := 112) (args := #[zC a]) (.bool a.may) (fun w _ => mayC_any a w ha) ?_)
  cases h1 : a.may with
  | true =>
    refine Zv (.bool false) (Zv (.bool false) (Zl 0 ⟨b2, (zC b).cells, 72⟩ (off := 0) (zC b) (Zc (k := 112) (args := #[zC b]) (.bool b.may) (fun w _ => mayC_any b w hb) ?_)))
    cases h2 : b.may with
    | true =>
      refine Zv (.bool false) (Zv (.bool false) (Zv (.bool false) (ZX (ZO (Zl 1 ⟨b1, (zC a).cells, 72⟩ (off := 0) (zC a) (Zl 0 ⟨b2, (zC b).cells, 72⟩ (off := 0) (zC b) (Zc (k := 113) (args := #[zC a, zC b]) (.bool (gI a b)) (fun w _ => less_any a b w ha hb) (Zv (.bool (gI a b)) ?_))))))))
      refine zL (z7 ?_)
      cases h3 : gI a b with
      | true =>
        exact Zt (ZO (Zv (.int .i64 (-1)) (ZN (zB (zD (z6 (ZF (.int .i64 (-1)) Tryz.results66 (fun w hO => ⟨by rw [show zO a b = (-1) from by first | (rw [bP (by assumption) (by assumption)]; simp [h1, h2, h3]) | (exact yJ (.inl (by assumption))) | (exact yJ (.inr (by assumption)))], hO.below⟩))))))))
      | false =>
        refine Zf (ZO (Zl 0 ⟨b2, (zC b).cells, 72⟩ (off := 0) (zC b) (Zl 1 ⟨b1, (zC a).cells, 72⟩ (off := 0) (zC a) (Zc (k := 113) (args := #[zC b, zC a]) (.bool (gI b a)) (fun w _ => less_any b a w hb ha) (Zv (.bool (gI b a)) (zL (z7 ?_)))))))
        cases h4 : gI b a with
        | true =>
          exact Zt (ZO (Zv (.int .i64 1) (ZN (zB (zD (z6 (ZF (.int .i64 1) Tryz.results66 (fun w hO => ⟨by rw [show zO a b = 1 from by first | (rw [bP (by assumption) (by assumption)]; simp [h1, h2, h3, h4]) | (exact yJ (.inl (by assumption))) | (exact yJ (.inr (by assumption)))], hO.below⟩))))))))
        | false =>
          exact Zf (yT (zR (z7 (ZO (Zv (.int .i64 0) (ZN (zB (ZF (.int .i64 0) Tryz.results66 (fun w hO => ⟨by rw [show zO a b = 0 from by first | (rw [bP (by assumption) (by assumption)]; simp [h1, h2, h3, h4]) | (exact yJ (.inl (by assumption))) | (exact yJ (.inr (by assumption)))], hO.below⟩)))))))))
    | false =>
      refine Zv (.bool true) (Zv (.bool true) (Zv (.bool true) (ZY (ZO (Zv (.int .i64 0) (ZN (zB ?_)))))))
      exact zD (z6 (ZF (.int .i64 0) Tryz.results66 (fun w hO => ⟨by rw [show zO a b = 0 from by first | (rw [bP (by assumption) (by assumption)]; simp [h1, h2]) | (exact yJ (.inl (by assumption))) | (exact yJ (.inr (by assumption)))], hO.below⟩)))
  | false =>
    refine Zv (.bool true) (Zv (.bool true) (Zk (Zk (Zk (Zv (.bool true) (Zv (.bool true) (ZY (z8 (zA ?_)))))))))
    exact Zv (.int .i64 0) (ZN (zB (zD (z6 (ZF (.int .i64 0) Tryz.results66 (fun w hO => ⟨by rw [show zO a b = 0 from by first | (rw [bP (by assumption) (by assumption)]; simp [h1]) | (exact yJ (.inl (by assumption))) | (exact yJ (.inr (by assumption)))], hO.below⟩))))))
theorem vC {a b : Cu} {r : Int} (ha : a.may = true) (hb : b.may = true) (h : (if a.e ≠ b.e ∨ a.e ≠ 0 then Lib.compareInt a.e b.e else if kD a.v b.v ≠ 0 then kD a.v b.v else if a.aft = b.aft then 0 else if b.aft then -1 else 1) = r) : zO a b = r := by
  rw [← h, gU ha hb]
  by_cases he : a.e = b.e
  · rw [he, kZ, lex_0]
    by_cases h0 : b.e = 0
    · rw [if_neg (by omega)]
      unfold lex
      by_cases hc : kD a.v b.v = 0
      · rw [if_pos hc, if_neg (by simpa using hc)]
        cases a.aft <;> cases b.aft <;> rfl
      · rw [if_neg hc, if_pos hc]
    · rw [if_pos (.inr h0)]
      have e1 : a.v = Ver.zero ∧ a.aft = false := (may_e ha).elim (fun x => absurd (he ▸ x.1) h0) (fun x => x.2)
      have e2 : b.v = Ver.zero ∧ b.aft = false := (may_e hb).elim (fun x => absurd x.1 h0) (fun x => x.2)
      rw [e1.1, e1.2, e2.1, e2.2, order_self]; rfl
  · rw [if_pos (.inl he)]
    rcases Int.lt_or_gt_of_ne he with h | h
    · rw [ci_lt h]; rfl
    · rw [ci_gt h]; rfl
theorem qY (a b : Cu) (W : World) (ha : a.short) (hb : b.short) : Calls Tryz.prog 71 #[zC a, zC b] W fun e w' => e = .returned (.int .i64 (zO a b)) ∧ Below W.heap.size W w' := by
  refine zM (n := 46) Tryz.func71 rfl (by kernel_rfl) (by kernel_rfl) (ZO (Zb (zC a) (fun b1 => Zb (zC b) (fun b2 => Zv (.int .i64 0) (ZN (z8 (ZO (Zl 1 ⟨b1, (zC a).cells, 72⟩ (off := 0) (zC a) ?_))))))))
  refine Zc (k := 83) (args := #[zC a]) (.bool a.may) (fun w _ => fV a w ha) ?_
  cases h1 : a.may with
  | true =>
    refine Zv (.bool false) (Zv (.bool false) (Zl 0 ⟨b2, (zC b).cells, 72⟩ (off := 0) (zC b) (Zc (k := 83) (args := #[zC b]) (.bool b.may) (fun w _ => fV b w hb) ?_)))
    cases h2 : b.may with
    | true =>
      refine Zv (.bool false) (Zv (.bool false) (ZX (ZB (z8 (ZO (Zv (.pointer (some ⟨b1, 0, none⟩)) (Zl 1 ⟨b1, (zC a).cells, 72⟩ (off := 0) (.int .i64 a.e) ?_)))))))
      refine Zv (.pointer (some ⟨b2, 0, none⟩)) (Zl 0 ⟨b2, (zC b).cells, 72⟩ (off := 0) (.int .i64 b.e) ?_)
      by_cases h3 : (a.e : Int) = b.e
      · refine wZ (p := (a.e : Int) = b.e) true (by kernel_rfl) (fun _ => by kernel_rfl) (decide_eq_true (h3)) ?_
        refine Zv (.bool false) (Zv (.pointer (some ⟨b1, 0, none⟩)) (Zl 1 ⟨b1, (zC a).cells, 72⟩ (off := 0) (.int .i64 a.e) ?_))
        by_cases h4 : (a.e : Int) = 0
        · refine wZ (p := (a.e : Int) = 0) true (by kernel_rfl) (fun _ => by kernel_rfl) (decide_eq_true (h4)) ?_
          refine Zv (.bool false) (ZX (ZB (z8 (ZO (Zv (.pointer (some ⟨b1, 1, none⟩)) (Zl 1 ⟨b1, (zC a).cells, 72⟩ (off := 1) (.agg #[.int .i64 a.v.maj, .int .i64 a.v.min, .int .i64 a.v.pat, .string (mkS a.v.pre), .string (mkS a.v.build)]) (Zv (.pointer (some ⟨b2, 1, none⟩)) ?_)))))))
          refine Zl 0 ⟨b2, (zC b).cells, 72⟩ (off := 1) (.agg #[.int .i64 b.v.maj, .int .i64 b.v.min, .int .i64 b.v.pat, .string (mkS b.v.pre), .string (mkS b.v.build)]) (Zc (k := 116) (args := #[.agg #[.int .i64 a.v.maj, .int .i64 a.v.min, .int .i64 a.v.pat, .string (mkS a.v.pre), .string (mkS a.v.build)], .agg #[.int .i64 b.v.maj, .int .i64 b.v.min, .int .i64 b.v.pat, .string (mkS b.v.pre), .string (mkS b.v.build)]]) (.int .i64 (kD a.v b.v)) (fun w _ => rcompare_any a.v b.v w ha.1 ha.2 hb.1 hb.2) (Zv (.int .i64 (kD a.v b.v)) (ZR (Zv (.int .i64 (kD a.v b.v)) ?_))))
          by_cases h5 : (kD a.v b.v : Int) = 0
          · refine wZ (p := (kD a.v b.v : Int) = 0) true (by kernel_rfl) (fun _ => by kernel_rfl) (decide_eq_true (h5)) ?_
            refine ZX (ZB (z8 (zX (ZO (Zv (.pointer (some ⟨b1, 6, none⟩)) (Zl 1 ⟨b1, (zC a).cells, 72⟩ (off := 6) (.bool a.aft) (Zv (.pointer (some ⟨b2, 6, none⟩)) ?_)))))))
            refine Zl 0 ⟨b2, (zC b).cells, 72⟩ (off := 6) (.bool b.aft) ?_
            cases h6 : a.aft with
            | true =>
              cases h7 : b.aft with
              | true =>
                refine Zv (.bool true) (Zv (.bool true) (ZY (ZO (Zv (.int .i64 0) (ZN (zB (zD ?_)))))))
                exact z6 (ZF (.int .i64 0) Tryz.results71 (fun w hO => ⟨by rw [show zO a b = 0 from by first | (exact yJ (.inl (by assumption))) | (exact yJ (.inr (by assumption))) | exact vC (by assumption) (by assumption) (by simp_all)], hO.below⟩))
              | false =>
                refine Zv (.bool false) (Zv (.bool false) (ZX (ZO (Zv (.pointer (some ⟨b2, 6, none⟩)) (Zl 0 ⟨b2, (zC b).cells, 72⟩ (off := 6) (.bool b.aft) ?_)))))
                rw [h7]
                refine Zv (.bool false) (ZX (yT (zR (z7 (ZO (Zv (.int .i64 1) (zL (z7 ?_))))))))
                exact zB (ZF (.int .i64 1) Tryz.results71 (fun w hO => ⟨by rw [show zO a b = 1 from by first | (exact yJ (.inl (by assumption))) | (exact yJ (.inr (by assumption))) | exact vC (by assumption) (by assumption) (by simp_all)], hO.below⟩))
            | false =>
              cases h8 : b.aft with
              | true =>
                refine Zv (.bool false) (Zv (.bool false) (ZX (ZO (Zv (.pointer (some ⟨b2, 6, none⟩)) (Zl 0 ⟨b2, (zC b).cells, 72⟩ (off := 6) (.bool b.aft) ?_)))))
                rw [h8]
                refine Zv (.bool true) (ZY (ZO (Zv (.int .i64 (-1)) (ZN (zB (zD (z6 ?_)))))))
                exact ZF (.int .i64 (-1)) Tryz.results71 (fun w hO => ⟨by rw [show zO a b = (-1) from by first | (exact yJ (.inl (by assumption))) | (exact yJ (.inr (by assumption))) | exact vC (by assumption) (by assumption) (by simp_all)], hO.below⟩)
              | false =>
                refine Zv (.bool true) (Zv (.bool true) (ZY (ZO (Zv (.int .i64 0) (ZN (zB (zD ?_)))))))
                exact z6 (ZF (.int .i64 0) Tryz.results71 (fun w hO => ⟨by rw [show zO a b = 0 from by first | (exact yJ (.inl (by assumption))) | (exact yJ (.inr (by assumption))) | exact vC (by assumption) (by assumption) (by simp_all)], hO.below⟩))
          refine Zn (p := (kD a.v b.v : Int) = 0) false (decide_eq_false (h5)) (ZY (ZO (Zv (.int .i64 (kD a.v b.v)) (Zv (.int .i64 (kD a.v b.v)) (ZN (zB (z6 ?_)))))))
          exact ZF (.int .i64 (kD a.v b.v)) Tryz.results71 (fun w hO => ⟨by rw [show zO a b = (kD a.v b.v) from by first | (exact yJ (.inl (by assumption))) | (exact yJ (.inr (by assumption))) | exact vC (by assumption) (by assumption) (by simp_all)], hO.below⟩)
        refine Zn (p := (a.e : Int) = 0) false (decide_eq_false (h4)) (Zv (.bool true) (ZY (ZO (Zv (.pointer (some ⟨b1, 0, none⟩)) (Zl 1 ⟨b1, (zC a).cells, 72⟩ (off := 0) (.int .i64 a.e) (Zv (.pointer (some ⟨b2, 0, none⟩)) (Zl 0 ⟨b2, (zC b).cells, 72⟩ (off := 0) (.int .i64 b.e) (Zc (k := 115) (args := #[.int .i64 a.e, .int .i64 b.e]) (.int .i64 (Lib.compareInt a.e b.e)) (fun w _ => (qX a.e b.e w).mono fun _ _ ⟨h1, h2⟩ => ⟨h1, h2 ▸ Below.refl _ _⟩) ?_))))))))
        exact Zv (.int .i64 (Lib.compareInt a.e b.e)) (ZN (zB (z6 (ZF (.int .i64 (Lib.compareInt a.e b.e)) Tryz.results71 (fun w hO => ⟨by rw [show zO a b = (Lib.compareInt a.e b.e) from by first | (exact yJ (.inl (by assumption))) | (exact yJ (.inr (by assumption))) | exact vC (by assumption) (by assumption) (by simp_all)], hO.below⟩)))))
      refine Zn (p := (a.e : Int) = b.e) false (decide_eq_false (h3)) (Zv (.bool true) (Zk (Zk (Zk (Zv (.bool true) (ZY (ZO (Zv (.pointer (some ⟨b1, 0, none⟩)) ?_))))))))
      exact Zl 1 ⟨b1, (zC a).cells, 72⟩ (off := 0) (.int .i64 a.e) (Zv (.pointer (some ⟨b2, 0, none⟩)) (Zl 0 ⟨b2, (zC b).cells, 72⟩ (off := 0) (.int .i64 b.e) (Zc (k := 115) (args := #[.int .i64 a.e, .int .i64 b.e]) (.int .i64 (Lib.compareInt a.e b.e)) (fun w _ => (qX a.e b.e w).mono fun _ _ ⟨h1, h2⟩ => ⟨h1, h2 ▸ Below.refl _ _⟩) (Zv (.int .i64 (Lib.compareInt a.e b.e)) (ZN (zB (z6 (ZF (.int .i64 (Lib.compareInt a.e b.e)) Tryz.results71 (fun w hO => ⟨by rw [show zO a b = (Lib.compareInt a.e b.e) from by first | (exact yJ (.inl (by assumption))) | (exact yJ (.inr (by assumption))) | exact vC (by assumption) (by assumption) (by simp_all)], hO.below⟩)))))))))
    | false =>
      refine Zv (.bool true) (Zv (.bool true) (ZY (ZO (Zv (.int .i64 0) (ZN (zB (z6 ?_)))))))
      exact ZF (.int .i64 0) Tryz.results71 (fun w hO => ⟨by rw [show zO a b = 0 from by first | (exact yJ (.inl (by assumption))) | (exact yJ (.inr (by assumption))) | exact vC (by assumption) (by assumption) (by simp_all)], hO.below⟩)
  | false =>
    refine Zv (.bool true) (Zv (.bool true) (Zk (Zk (Zk (Zv (.bool true) (ZY (ZO (Zv (.int .i64 0) ?_))))))))
    exact ZN (zB (z6 (ZF (.int .i64 0) Tryz.results71 (fun w hO => ⟨by rw [show zO a b = 0 from by first | (exact yJ (.inl (by assumption))) | (exact yJ (.inr (by assumption))) | exact vC (by assumption) (by assumption) (by simp_all)], hO.below⟩))))
theorem spanMay_any (s : Sp) (W : World) (hs : s.short) : Calls Tryz.prog 65 #[zF s] W fun e w' => e = .returned (.bool s.may) ∧ Below W.heap.size W w' := by
  refine zM (n := 9) Tryz.func65 rfl (by kernel_rfl) (by kernel_rfl) (ZO (Zb (zF s) (fun b1 => Zv (.bool false) (ZR (Zv (.pointer (some ⟨b1, 0, none⟩)) (Zl 0 ⟨b1, (zF s).cells, 74⟩ (off := 0) (.agg #[.int .i64 s.lo.e, .int .i64 s.lo.v.maj, .int .i64 s.lo.v.min, .int .i64 s.lo.v.pat, .string (mkS s.lo.v.pre), .string (mkS s.lo.v.build), .bool s.lo.aft]) (Zv (.pointer (some ⟨b1, 7, none⟩)) ?_)))))))
  refine Zl 0 ⟨b1, (zF s).cells, 74⟩ (off := 7) (.agg #[.int .i64 s.hi.e, .int .i64 s.hi.v.maj, .int .i64 s.hi.v.min, .int .i64 s.hi.v.pat, .string (mkS s.hi.v.pre), .string (mkS s.hi.v.build), .bool s.hi.aft]) (Zc (k := 66) (args := #[.agg #[.int .i64 s.lo.e, .int .i64 s.lo.v.maj, .int .i64 s.lo.v.min, .int .i64 s.lo.v.pat, .string (mkS s.lo.v.pre), .string (mkS s.lo.v.build), .bool s.lo.aft], .agg #[.int .i64 s.hi.e, .int .i64 s.hi.v.maj, .int .i64 s.hi.v.min, .int .i64 s.hi.v.pat, .string (mkS s.hi.v.pre), .string (mkS s.hi.v.build), .bool s.hi.aft]]) (.int .i64 (zO s.lo s.hi)) (fun w _ => cmpC_any s.lo s.hi w hs.1 hs.2) ?_)
  by_cases h1 : (zO s.lo s.hi : Int) = -1
  · refine xO (p := (zO s.lo s.hi : Int) = -1) true (by kernel_rfl) (fun _ => by kernel_rfl) (decide_eq_true (h1)) ?_
    exact Zv (.bool true) (ZN (zB (ZF (.bool true) Tryz.results65 (fun w hO => ⟨by rw [show s.may = true from by unfold Sp.may; simp [h1]], hO.below⟩))))
  exact Zd (p := (zO s.lo s.hi : Int) = -1) false (decide_eq_false (h1)) (Zv (.bool false) (ZN (zB (ZF (.bool false) Tryz.results65 (fun w hO => ⟨by rw [show s.may = false from by unfold Sp.may; simp [h1]], hO.below⟩)))))
theorem gL (s : Sp) (W : World) (hs : s.short) : Calls Tryz.prog 53 #[zF s] W fun e w' => e = .returned (.bool s.may) ∧ Below W.heap.size W w' := by
  refine zM (n := 19) Tryz.func53 rfl (by kernel_rfl) (by kernel_rfl) (ZO (Zb (zF s) (fun b1 => Zv (.bool false) (ZR (Zv (.pointer (some ⟨b1, 0, none⟩)) (Zl 0 ⟨b1, (zF s).cells, 74⟩ (off := 0) (.agg #[.int .i64 s.lo.e, .int .i64 s.lo.v.maj, .int .i64 s.lo.v.min, .int .i64 s.lo.v.pat, .string (mkS s.lo.v.pre), .string (mkS s.lo.v.build), .bool s.lo.aft]) (Zc (k := 83) (args := #[.agg #[.int .i64 s.lo.e, .int .i64 s.lo.v.maj, .int .i64 s.lo.v.min, .int .i64 s.lo.v.pat, .string (mkS s.lo.v.pre), .string (mkS s.lo.v.build), .bool s.lo.aft]]) (.bool s.lo.may) (fun w _ => fV s.lo w hs.1) ?_)))))))
  refine Zv (.bool s.lo.may) ?_
  cases h1 : s.lo.may with
  | true =>
    refine Zv (.pointer (some ⟨b1, 7, none⟩)) (Zl 0 ⟨b1, (zF s).cells, 74⟩ (off := 7) (.agg #[.int .i64 s.hi.e, .int .i64 s.hi.v.maj, .int .i64 s.hi.v.min, .int .i64 s.hi.v.pat, .string (mkS s.hi.v.pre), .string (mkS s.hi.v.build), .bool s.hi.aft]) (Zc (k := 83) (args := #[.agg #[.int .i64 s.hi.e, .int .i64 s.hi.v.maj, .int .i64 s.hi.v.min, .int .i64 s.hi.v.pat, .string (mkS s.hi.v.pre), .string (mkS s.hi.v.build), .bool s.hi.aft]]) (.bool s.hi.may) (fun w _ => fV s.hi w hs.2) (Zv (.bool s.hi.may) (Zv (.bool s.hi.may) ?_))))
    cases h2 : s.hi.may with
    | true =>
      refine Zv (.pointer (some ⟨b1, 0, none⟩)) (Zl 0 ⟨b1, (zF s).cells, 74⟩ (off := 0) (.agg #[.int .i64 s.lo.e, .int .i64 s.lo.v.maj, .int .i64 s.lo.v.min, .int .i64 s.lo.v.pat, .string (mkS s.lo.v.pre), .string (mkS s.lo.v.build), .bool s.lo.aft]) (Zv (.pointer (some ⟨b1, 7, none⟩)) (Zl 0 ⟨b1, (zF s).cells, 74⟩ (off := 7) (.agg #[.int .i64 s.hi.e, .int .i64 s.hi.v.maj, .int .i64 s.hi.v.min, .int .i64 s.hi.v.pat, .string (mkS s.hi.v.pre), .string (mkS s.hi.v.build), .bool s.hi.aft]) (Zc (k := 71) (args := #[.agg #[.int .i64 s.lo.e, .int .i64 s.lo.v.maj, .int .i64 s.lo.v.min, .int .i64 s.lo.v.pat, .string (mkS s.lo.v.pre), .string (mkS s.lo.v.build), .bool s.lo.aft], .agg #[.int .i64 s.hi.e, .int .i64 s.hi.v.maj, .int .i64 s.hi.v.min, .int .i64 s.hi.v.pat, .string (mkS s.hi.v.pre), .string (mkS s.hi.v.build), .bool s.hi.aft]]) (.int .i64 (zO s.lo s.hi)) (fun w _ => qY s.lo s.hi w hs.1 hs.2) ?_))))
      by_cases h3 : (zO s.lo s.hi : Int) < 0
      · refine xO (p := (zO s.lo s.hi : Int) < 0) true (by kernel_rfl) (fun _ => by kernel_rfl) (decide_eq_true (h3)) ?_
        exact Zv (.bool true) (Zv (.bool true) (ZN (zB (ZF (.bool true) Tryz.results53 (fun w hO => ⟨by rw [show s.may = true from by rw [← nX]; simp [h1, h2, h3]], hO.below⟩)))))
      exact Zd (p := (zO s.lo s.hi : Int) < 0) false (decide_eq_false (h3)) (Zv (.bool false) (Zv (.bool false) (ZN (zB (ZF (.bool false) Tryz.results53 (fun w hO => ⟨by rw [show s.may = false from by rw [← nX]; simp [h1, h2, h3]], hO.below⟩))))))
    | false =>
      refine Zk (Zk (Zk (Zk (Zk (Zk (Zv (.bool false) (Zv (.bool false) (ZN (zB (ZF (.bool false) Tryz.results53 ?_))))))))))
      exact fun w hO => ⟨by rw [show s.may = false from by rw [← nX]; simp [h1, h2]], hO.below⟩
  | false =>
    refine Zk (Zk (Zk (Zv (.bool false) (Zv (.bool false) (Zk (Zk (Zk (Zk (Zk (Zk (Zv (.bool false) ?_)))))))))))
    exact Zv (.bool false) (ZN (zB (ZF (.bool false) Tryz.results53 (fun w hO => ⟨by rw [show s.may = false from by rw [← nX]; simp [h1]], hO.below⟩))))
end
section
theorem cle_trans {a b c : Cu} (ha : a.may = true) (hb : b.may = true) (hc : c.may = true) (h1 : zO a b ≤ 0) (h2 : zO b c ≤ 0) : zO a c ≤ 0 := (cut_on ha hb hc h1 h2).1
theorem cle_lt {a b c : Cu} (ha : a.may = true) (hb : b.may = true) (hc : c.may = true) (h1 : zO a b ≤ 0) (h2 : zO b c < 0) : zO a c < 0 := by
  have h := cut_on ha hb hc h1 (by omega)
  rcases Int.lt_or_eq_of_le h.1 with h3 | h3
  · exact h3
  · have := (h.2 h3).2; omega
theorem clt_le {a b c : Cu} (ha : a.may = true) (hb : b.may = true) (hc : c.may = true) (h1 : zO a b < 0) (h2 : zO b c ≤ 0) : zO a c < 0 := by
  have h := cut_on ha hb hc (by omega) h2
  rcases Int.lt_or_eq_of_le h.1 with h3 | h3
  · exact h3
  · have := (h.2 h3).1; omega
theorem jT {a b c : Cu} (ha : a.may = true) (hb : b.may = true) (hc : c.may = true) (h1 : zO a b < 0) (h2 : zO b c < 0) : zO a c < 0 := cle_lt ha hb hc (by omega) h2
theorem clt_flip {a b : Cu} (h : ¬ zO a b ≤ 0) : zO b a < 0 := by have := qF (a := a) (b := b); omega
theorem cle_flip {a b : Cu} (h : ¬ zO a b < 0) : zO b a ≤ 0 := by have := qF (a := a) (b := b); omega
theorem fH (a : Cu) : zO a a = 0 := by have := qF (a := a) (b := a); omega
theorem clt_not {a b : Cu} (h : zO a b < 0) : ¬ zO b a ≤ 0 := by have := qF (a := a) (b := b); omega
def zS : List Sp → Bool
  | [] => true
  | [s] => s.may
  | s :: t :: r => s.may && decide (zO s.hi t.lo < 0) && zS (t :: r)
def m7 (s : Sp) (c : Cu) : Bool := decide (zO s.lo c ≤ 0) && decide (zO c s.hi < 0)
def den (l : List Sp) (c : Cu) : Bool := l.any (m7 · c)
def rowHas (l : List Sp) (v : Ver) : Bool := zS l && l.any (holdsC · v)
theorem j5 {s : Sp} {l : List Sp} (h : zS (s :: l) = true) : s.may = true := by
  cases l with
  | nil => exact h
  | cons t r => unfold zS at h; simp only [Bool.and_eq_true] at h; exact h.1.1
theorem jW {s : Sp} {l : List Sp} (h : zS (s :: l) = true) : zS l = true := by
  cases l with
  | nil => rfl
  | cons t r => unfold zS at h; simp only [Bool.and_eq_true] at h; exact h.2
theorem vZ {l : List Sp} (h : zS l = true) : ∀ s ∈ l, s.may = true := by
  induction l with
  | nil => simp
  | cons s l ih =>
    intro t ht
    rcases List.mem_cons.1 ht with rfl | ht
    · exact j5 h
    · exact ih (jW h) t ht
theorem sp_lt {s : Sp} (h : s.may = true) : zO s.lo s.hi < 0 := by unfold Sp.may at h; rw [decide_eq_true_eq] at h; omega
theorem bJ {s : Sp} {l : List Sp} (h : zS (s :: l) = true) : ∀ t ∈ l, zO s.hi t.lo < 0 := by
  induction l generalizing s with
  | nil => simp
  | cons u l ih =>
    intro t ht
    have hu := jW h
    have h1 : zO s.hi u.lo < 0 := by
      unfold zS at h; simp only [Bool.and_eq_true, decide_eq_true_eq] at h; exact h.1.2
    rcases List.mem_cons.1 ht with rfl | ht'
    · exact h1
    · have h2 := ih hu t ht'
      have ms := xA (j5 h)
      have mu := xA (j5 hu)
      have mt := xA (vZ (jW hu) t ht')
      exact jT ms.2 mu.1 mt.1 h1 (jT mu.1 mu.2 mt.1 (sp_lt (j5 hu)) h2)
def gY (l : List Sp) (c d : Cu) : List Sp :=
  match l.getLast? with
  | some s => if zO s.hi c = 0 then l.dropLast ++ [⟨s.lo, d⟩] else l ++ [⟨c, d⟩]
  | none => [⟨c, d⟩]
def kK (p : Cu → Cu → Bool) : List Sp → List Cu → List Sp
  | out, c :: d :: r => kK p (if p c d then gY out c d else out) (d :: r)
  | out, _ => out
theorem nZ {l : List Sp} {t : Sp} (hl : zS l = true) (ht : t.may = true) (h : ∀ s ∈ l.getLast?, zO s.hi t.lo < 0) : zS (l ++ [t]) = true := by
  induction l with
  | nil => exact ht
  | cons s l ih =>
    cases l with
    | nil =>
      show zS [s, t] = true
      unfold zS
      rw [j5 hl, decide_eq_true (h s (by simp)), show zS [t] = true from ht]; rfl
    | cons u r =>
      have h2 := ih (jW hl) (fun x hx => h x (by simpa using hx))
      show zS (s :: u :: (r ++ [t])) = true
      unfold zS
      rw [show u :: (r ++ [t]) = (u :: r) ++ [t] from rfl, h2, j5 hl]
      have h3 : zO s.hi u.lo < 0 := bJ hl u (by simp)
      rw [decide_eq_true h3]; rfl
theorem row_init {l : List Sp} {s : Sp} (h : zS (l ++ [s]) = true) : zS l = true ∧ ∀ x ∈ l.getLast?, zO x.hi s.lo < 0 := by
  induction l with
  | nil => exact ⟨rfl, by simp⟩
  | cons u l ih =>
    obtain ⟨h1, h2⟩ := ih (jW h)
    cases l with
    | nil =>
      refine ⟨j5 h, fun x hx => ?_⟩
      obtain rfl : u = x := by simpa using hx
      exact bJ h s (by simp)
    | cons v r =>
      refine ⟨?_, fun x hx => h2 x (by simpa using hx)⟩
      unfold zS
      rw [j5 h, decide_eq_true (bJ h v (by simp)), h1]; rfl
theorem den_app (l m : List Sp) (c : Cu) : den (l ++ m) c = (den l c || den m c) := by unfold den; rw [List.any_append]
theorem last_split {l : List Sp} {s : Sp} (h : l.getLast? = some s) : l = l.dropLast ++ [s] := by
  obtain ⟨l', rfl⟩ := List.getLast?_eq_some_iff.1 h
  simp
theorem grow_ok {l : List Sp} {c d : Cu} (hl : zS l = true) (hc : c.may = true) (hd : d.may = true) (hcd : zO c d < 0) (h : ∀ s ∈ l.getLast?, zO s.hi c ≤ 0) :
    zS (gY l c d) = true ∧ (∀ s ∈ (gY l c d).getLast?, zO s.hi d ≤ 0) ∧ ∀ x : Cu, x.may = true → den (gY l c d) x = (den l x || m7 ⟨c, d⟩ x) := by
  have hm : (Sp.mk c d).may = true := by
    unfold Sp.may; rw [decide_eq_true_eq]; rcases dL c d with e | e | e <;> omega
  unfold gY
  cases hg : l.getLast? with
  | none =>
    have : l = [] := by simpa using hg
    subst this
    refine ⟨hm, fun s hs => ?_, fun x _ => by simp [den]⟩
    obtain rfl : s = ⟨c, d⟩ := by simpa using hs.symm
    rw [fH]; omega
  | some s =>
    dsimp only
    have hsl := last_split hg
    have hs : s.may = true := vZ hl s (List.mem_of_getLast? hg)
    have ms := xA hs
    by_cases h0 : zO s.hi c = 0
    · rw [if_pos h0]
      have ehc : s.hi = c := (cut_eq ms.2 hc).1 h0
      have hl2 := hl
      rw [hsl] at hl2
      obtain ⟨h1, h2⟩ := row_init hl2
      have hlt : zO s.lo d < 0 := jT ms.1 hc hd (ehc ▸ sp_lt hs) hcd
      have hm2 : (Sp.mk s.lo d).may = true := by
        unfold Sp.may; rw [decide_eq_true_eq]; rcases dL s.lo d with e | e | e <;> omega
      refine ⟨nZ h1 hm2 h2, fun t ht => ?_, fun x hx => ?_⟩
      · obtain rfl : t = ⟨s.lo, d⟩ := by simpa using ht.symm
        rw [fH]; omega
      · rw [den_app]
        have e : den l x = (den l.dropLast x || den [s] x) := by rw [← den_app, ← hsl]
        rw [e, Bool.or_assoc]
        congr 1
        show (m7 ⟨s.lo, d⟩ x || false) = ((m7 s x || false) || m7 ⟨c, d⟩ x)
        rw [Bool.or_false, Bool.or_false]
        unfold m7
        rw [ehc]
        dsimp only
        by_cases hxc : zO x c < 0
        · rw [decide_eq_true hxc, decide_eq_true (jT hx hc hd hxc hcd), decide_eq_false (clt_not hxc)]
          simp
        · have hcx := cle_flip hxc
          rw [decide_eq_false hxc, decide_eq_true hcx, decide_eq_true (cle_trans ms.1 hc hx (by have := ehc ▸ sp_lt hs; omega) hcx)]
          simp
    · rw [if_neg h0]
      have hlt : zO s.hi c < 0 := by have := h s hg; omega
      refine ⟨nZ hl hm (fun t ht => by
        rw [hg] at ht
        obtain rfl : s = t := by simpa using ht
        exact hlt), fun t ht => ?_, fun x _ => ?_⟩
      · obtain rfl : t = ⟨c, d⟩ := by simpa using ht.symm
        rw [fH]; omega
      · rw [den_app]; congr 1; show (m7 ⟨c, d⟩ x || false) = _; rw [Bool.or_false]
def pick (p : Cu → Cu → Bool) (x : Cu) : List Cu → Bool
  | c :: d :: r => (p c d && m7 ⟨c, d⟩ x) || pick p x (d :: r)
  | _ => false
def m9 : List Cu → Prop
  | c :: d :: r => c.may = true ∧ zO c d < 0 ∧ m9 (d :: r)
  | [c] => c.may = true
  | [] => True
theorem build_ok (p : Cu → Cu → Bool) : ∀ (cs : List Cu) (out : List Sp), m9 cs → zS out = true → (∀ s ∈ out.getLast?, ∀ c ∈ cs.head?, zO s.hi c ≤ 0) →
    zS (kK p out cs) = true ∧ ∀ x : Cu, x.may = true → den (kK p out cs) x = (den out x || pick p x cs) := by
  intro cs
  induction cs with
  | nil => intro out _ h _; exact ⟨h, fun x _ => by unfold kK pick; rw [Bool.or_false]⟩
  | cons c r ih =>
    intro out hr ho hlast
    cases r with
    | nil => exact ⟨ho, fun x _ => by unfold kK pick; rw [Bool.or_false]⟩
    | cons d r =>
      obtain ⟨hc, hcd, hr'⟩ := hr
      have hd : d.may = true := by cases r with
        | nil => exact hr'
        | cons e r => exact hr'.1
      unfold kK
      by_cases hp : p c d = true
      · rw [if_pos hp]
        obtain ⟨g1, g2, g3⟩ := grow_ok ho hc hd hcd (fun s hs => hlast s hs c (by simp))
        obtain ⟨i1, i2⟩ := ih (gY out c d) hr' g1 (fun s hs e he => by
          obtain rfl : d = e := by simpa using he
          exact g2 s hs)
        refine ⟨i1, fun x hx => ?_⟩
        rw [i2 x hx, g3 x hx]
        conv => rhs; unfold pick
        rw [hp, Bool.true_and, Bool.or_assoc]
      · rw [if_neg hp]
        obtain ⟨i1, i2⟩ := ih out hr' ho (fun s hs e he => by
          obtain rfl : d = e := by simpa using he
          have ms := xA (vZ ho s (List.mem_of_getLast? hs))
          have := cle_lt ms.2 hc hd (hlast s hs c (by simp)) hcd
          omega)
        refine ⟨i1, fun x hx => ?_⟩
        rw [i2 x hx]
        conv => rhs; unfold pick
        rw [show p c d = false from by simpa using hp, Bool.false_and, Bool.false_or]
def kC (c : Cu) : List Cu → List Cu
  | [] => [c]
  | d :: r => if zO d c < 0 then d :: kC c r else if zO d c = 0 then d :: r else c :: d :: r
def g9 (l : List Sp) : List Cu := l.foldl (fun out s => kC s.hi (kC s.lo out)) [zQ (-1), zQ 1]
theorem putL_mem (c : Cu) : ∀ (l : List Cu) (x : Cu), x ∈ kC c l → x = c ∨ x ∈ l := by
  intro l
  induction l with
  | nil => intro x hx; simpa [kC] using hx
  | cons d r ih =>
    intro x hx
    unfold kC at hx
    split at hx
    · rcases List.mem_cons.1 hx with rfl | hx
      · exact .inr (by simp)
      · rcases ih x hx with h | h
        · exact .inl h
        · exact .inr (by simp [h])
    · split at hx
      · exact .inr hx
      · rcases List.mem_cons.1 hx with rfl | hx
        · exact .inl rfl
        · exact .inr hx
theorem putL_old (c : Cu) : ∀ (l : List Cu) (x : Cu), x ∈ l → x ∈ kC c l := by
  intro l
  induction l with
  | nil => intro x hx; cases hx
  | cons d r ih =>
    intro x hx
    unfold kC
    split
    · rcases List.mem_cons.1 hx with rfl | hx
      · simp
      · simp [ih x hx]
    · split
      · exact hx
      · simp only [List.mem_cons] at hx ⊢; exact .inr hx
def AllMay (l : List Cu) : Prop := ∀ x ∈ l, x.may = true
theorem putL_new {c : Cu} (hc : c.may = true) : ∀ (l : List Cu), AllMay l → c ∈ kC c l := by
  intro l
  induction l with
  | nil => intro _; simp [kC]
  | cons d r ih =>
    intro h
    unfold kC
    split
    · exact List.mem_cons_of_mem _ (ih (fun x hx => h x (by simp [hx])))
    · split
      · rename_i h0
        have := (cut_eq (h d (by simp)) hc).1 h0
        simp [this]
      · simp
theorem bK : ∀ {l : List Cu}, m9 l → AllMay l
  | [], _ => fun x hx => by cases hx
  | [c], h => fun x hx => by
    obtain rfl : x = c := by simpa using hx
    exact h
  | c :: d :: r, h => fun x hx => by
    rcases List.mem_cons.1 hx with rfl | hx
    · exact h.1
    · exact bK h.2.2 x hx
theorem rise_cons {c : Cu} {l : List Cu} (hc : c.may = true) (hl : m9 l) (h : ∀ d ∈ l.head?, zO c d < 0) : m9 (c :: l) := by
  cases l with
  | nil => exact hc
  | cons d r => exact ⟨hc, h d (by simp), hl⟩
theorem kV {c : Cu} {l : List Cu} (h : m9 (c :: l)) : m9 l := by
  cases l with
  | nil => trivial
  | cons d r => exact h.2.2
theorem bL {c : Cu} {l : List Cu} (h : m9 (c :: l)) : c.may = true ∧ ∀ d ∈ l.head?, zO c d < 0 := by
  cases l with
  | nil => exact ⟨h, by simp⟩
  | cons d r => exact ⟨h.1, fun e he => by
    obtain rfl : d = e := by simpa using he
    exact h.2.1⟩
theorem putL_rise {c : Cu} (hc : c.may = true) : ∀ (l : List Cu), m9 l → m9 (kC c l) := by
  intro l
  induction l with
  | nil => intro _; exact hc
  | cons d r ih =>
    intro h
    obtain ⟨hd, h1⟩ := bL h
    unfold kC
    by_cases hlt : zO d c < 0
    · rw [if_pos hlt]
      refine rise_cons hd (ih (kV h)) fun e he => ?_
      cases r with
      | nil =>
        obtain rfl : c = e := by simpa [kC] using he
        exact hlt
      | cons f r =>
        unfold kC at he
        by_cases h2 : zO f c < 0
        · rw [if_pos h2] at he
          obtain rfl : f = e := by simpa using he
          exact h1 f (by simp)
        · rw [if_neg h2] at he
          by_cases h3 : zO f c = 0
          · rw [if_pos h3] at he
            obtain rfl : f = e := by simpa using he
            exact h1 f (by simp)
          · rw [if_neg h3] at he
            obtain rfl : c = e := by simpa using he
            exact hlt
    · rw [if_neg hlt]
      by_cases h0 : zO d c = 0
      · rw [if_pos h0]; exact h
      · rw [if_neg h0]
        refine rise_cons hc h fun e he => ?_
        obtain rfl : d = e := by simpa using he
        exact clt_flip (by have := qF (a := d) (b := c); omega)
structure Ends (l : List Cu) : Prop where
  rise : m9 l
  head : l.head? = some (zQ (-1))
  last : l.getLast? = some (zQ 1)
theorem ends_two : Ends [zQ (-1), zQ 1] := ⟨⟨tI, by decide, last_may⟩, rfl, rfl⟩
theorem putL_head_min {c : Cu} (hc : c.may = true) {l : List Cu} (h : l.head? = some (zQ (-1))) : (kC c l).head? = some (zQ (-1)) := by
  cases l with
  | nil => cases h
  | cons d r =>
    obtain rfl : d = zQ (-1) := by simpa using h
    have h1 := first_le hc
    unfold kC
    by_cases h2 : zO (zQ (-1)) c < 0
    · rw [if_pos h2]; rfl
    · rw [if_neg h2, if_pos (by omega)]; rfl
theorem putL_last_max {c : Cu} (hc : c.may = true) : ∀ {l : List Cu}, l.getLast? = some (zQ 1) → (kC c l).getLast? = some (zQ 1) := by
  intro l
  induction l with
  | nil => intro h; cases h
  | cons d r ih =>
    intro h
    unfold kC
    cases r with
    | nil =>
      obtain rfl : d = zQ 1 := by simpa using h
      have h1 := le_last hc
      have := qF (a := c) (b := zQ 1)
      rw [if_neg (by omega)]
      by_cases h0 : zO (zQ 1) c = 0
      · rw [if_pos h0]; rfl
      · rw [if_neg h0]; rfl
    | cons e r =>
      have h2 : (e :: r).getLast? = some (zQ 1) := by rw [List.getLast?_cons_cons] at h; exact h
      by_cases h3 : zO d c < 0
      · rw [if_pos h3]
        have := ih h2
        cases hp : kC c (e :: r) with
        | nil => rw [hp] at this; cases this
        | cons f q => rw [hp] at this; rw [List.getLast?_cons_cons]; exact this
      · rw [if_neg h3]
        by_cases h0 : zO d c = 0
        · rw [if_pos h0]; exact h
        · rw [if_neg h0, List.getLast?_cons_cons]; exact h
theorem putL_ends {c : Cu} (hc : c.may = true) {l : List Cu} (h : Ends l) : Ends (kC c l) := ⟨putL_rise hc l h.rise, putL_head_min hc h.head, putL_last_max hc h.last⟩
theorem cuts_go : ∀ (l : List Sp) (out : List Cu), (∀ s ∈ l, s.may = true) → Ends out →
    Ends (l.foldl (fun out s => kC s.hi (kC s.lo out)) out) ∧ (∀ x ∈ out, x ∈ l.foldl (fun out s => kC s.hi (kC s.lo out)) out) ∧ ∀ s ∈ l, s.lo ∈ l.foldl (fun out s => kC s.hi (kC s.lo out)) out ∧ s.hi ∈ l.foldl (fun out s => kC s.hi (kC s.lo out)) out := by
  intro l
  induction l with
  | nil => intro out _ h; exact ⟨h, fun x hx => hx, by simp⟩
  | cons s l ih =>
    intro out hm h
    have ms := xA (hm s (by simp))
    have e1 := putL_ends ms.1 h
    have e2 := putL_ends ms.2 e1
    obtain ⟨i1, i2, i3⟩ := ih (kC s.hi (kC s.lo out)) (fun t ht => hm t (by simp [ht])) e2
    rw [List.foldl_cons]
    refine ⟨i1, fun x hx => i2 x (putL_old _ _ _ (putL_old _ _ _ hx)), fun t ht => ?_⟩
    rcases List.mem_cons.1 ht with rfl | ht
    · exact ⟨i2 _ (putL_old _ _ _ (putL_new ms.1 out (bK h.rise))), i2 _ (putL_new ms.2 _ (bK e1.rise))⟩
    · exact i3 t ht
theorem cuts_ends {l : List Sp} (h : ∀ s ∈ l, s.may = true) : Ends (g9 l) := (cuts_go l _ h ends_two).1
theorem cuts_have {l : List Sp} (h : ∀ s ∈ l, s.may = true) : ∀ s ∈ l, s.lo ∈ g9 l ∧ s.hi ∈ g9 l := (cuts_go l _ h ends_two).2.2
def inL (l : List Sp) (c d : Cu) : Bool := l.any fun s => decide (zO s.lo c ≤ 0) && decide (zO d s.hi ≤ 0)
theorem mQ {c : Cu} : ∀ {l : List Cu}, m9 (c :: l) → ∀ x ∈ l, zO c x < 0 := by
  intro l
  induction l generalizing c with
  | nil => intro _ x hx; cases hx
  | cons d r ih =>
    intro h x hx
    have hcd := (bL h).2 d (by simp)
    rcases List.mem_cons.1 hx with rfl | hx
    · exact hcd
    · have hr := kV h
      exact jT (bL h).1 (bL hr).1 (bK (kV hr) x hx) hcd (ih hr x hx)
theorem pick_eq {p : Cu → Cu → Bool} {q : Cu → Bool} : ∀ (cs : List Cu), m9 cs → (∀ c d x, (∃ A B, cs = A ++ c :: d :: B) → x.may = true → zO c x ≤ 0 → zO x d < 0 → p c d = q x) →
    ∀ x : Cu, x.may = true → (∀ c ∈ cs.head?, zO c x ≤ 0) → (∀ d ∈ cs.getLast?, zO x d < 0) → cs ≠ [] → pick p x cs = q x := by
  intro cs
  induction cs with
  | nil => intro _ _ x _ _ _ h; exact absurd rfl h
  | cons c r ih =>
    intro hr hp x hx h1 h2 _
    have hc := h1 c (by simp)
    cases r with
    | nil => have := h2 c (by simp); have := qF (a := c) (b := x); omega
    | cons d r =>
      unfold pick
      by_cases hd : zO x d < 0
      · have e : m7 ⟨c, d⟩ x = true := by unfold m7; rw [decide_eq_true hc, decide_eq_true hd]; rfl
        rw [e, Bool.and_true, hp c d x ⟨[], r, rfl⟩ hx hc hd]
        cases hq : q x with
        | true => rfl
        | false =>
          rw [Bool.false_or]
          have low : ∀ (cs : List Cu), m9 cs → (∀ y ∈ cs, zO x y < 0) → pick p x cs = false := by
            intro cs
            induction cs with
            | nil => intro _ _; rfl
            | cons c r ih =>
              intro hr hy
              cases r with
              | nil => rfl
              | cons d r =>
                unfold pick
                have : m7 ⟨c, d⟩ x = false := by unfold m7; rw [decide_eq_false (clt_not (hy c (by simp)))]; rfl
                rw [this, Bool.and_false, Bool.false_or]
                exact ih (kV hr) (fun y hy' => hy y (by simp [hy']))
          refine low _ (kV hr) (fun y hy => ?_)
          rcases List.mem_cons.1 hy with rfl | hy
          · exact hd
          · exact jT hx (bL (kV hr)).1 (bK (kV (kV hr)) y hy) hd (mQ (kV hr) y hy)
      · have e : m7 ⟨c, d⟩ x = false := by unfold m7; rw [decide_eq_false hd, Bool.and_false]
        rw [e, Bool.and_false, Bool.false_or]
        refine ih (kV hr) (fun c' d' x' ⟨A, B, hAB⟩ => hp c' d' x' ⟨c :: A, B, by rw [hAB]; rfl⟩) x hx (fun c' hc' => ?_) (fun d' hd' => h2 d' (by rw [List.getLast?_cons_cons]; exact hd')) (by simp)
        obtain rfl : d = c' := by simpa using hc'
        exact cle_flip hd
theorem rise_gap {A B : List Cu} {c d : Cu} (h : m9 (A ++ c :: d :: B)) : ∀ y ∈ A ++ c :: d :: B, zO y c ≤ 0 ∨ zO d y ≤ 0 := by
  induction A with
  | nil =>
    intro y hy
    rcases List.mem_cons.1 hy with rfl | hy
    · exact .inl (by rw [fH]; omega)
    · rcases List.mem_cons.1 hy with rfl | hy
      · exact .inr (by rw [fH]; omega)
      · exact .inr (by have := mQ (kV h) y hy; omega)
  | cons a A ih =>
    intro y hy
    rcases List.mem_cons.1 hy with rfl | hy
    · exact .inl (by have := mQ h c (by simp); omega)
    · exact ih (kV h) y hy
theorem in_den {l : List Sp} (hl : ∀ s ∈ l, s.may = true) {cs : List Cu} (hr : m9 cs) (hcs : ∀ s ∈ l, s.lo ∈ cs ∧ s.hi ∈ cs) {A B : List Cu} {c d x : Cu} (e : cs = A ++ c :: d :: B) (hx : x.may = true) (h1 : zO c x ≤ 0) (h2 : zO x d < 0) : inL l c d = den l x := by
  have hm := bK hr
  have mc := hm c (by rw [e]; simp)
  have md := hm d (by rw [e]; simp)
  have gap : ∀ y ∈ cs, zO y c ≤ 0 ∨ zO d y ≤ 0 := by rw [e] at hr ⊢; exact rise_gap hr
  unfold inL den
  have key : ∀ s ∈ l, (decide (zO s.lo c ≤ 0) && decide (zO d s.hi ≤ 0)) = m7 s x := by
    intro s hs
    obtain ⟨g1, g2⟩ := hcs s hs
    have ms := xA (hl s hs)
    unfold m7
    have a1 : (zO s.lo c ≤ 0) ↔ (zO s.lo x ≤ 0) := by
      constructor
      · intro h; exact cle_trans ms.1 mc hx h h1
      · intro h
        rcases gap s.lo g1 with g | g
        · exact g
        · have := cle_lt ms.1 hx md h h2
          have := qF (a := s.lo) (b := d); omega
    have a2 : (zO d s.hi ≤ 0) ↔ (zO x s.hi < 0) := by
      constructor
      · intro h; exact clt_le hx md ms.2 h2 h
      · intro h
        rcases gap s.hi g2 with g | g
        · have := cle_lt mc hx ms.2 h1 h
          have := qF (a := s.hi) (b := c); omega
        · exact g
    rw [decide_eq_decide.2 a1, decide_eq_decide.2 a2]
  clear hcs gap hl
  induction l with
  | nil => rfl
  | cons s l ih =>
    rw [List.any_cons, List.any_cons, key s (by simp), ih (fun t ht => key t (by simp [ht]))]
def dR (l : List Sp) : List Sp := kK (inL l) [] (g9 l)
def orL (a b : List Sp) : List Sp := dR (a ++ b)
def andL (a b : List Sp) : List Sp := kK (fun c d => inL a c d && inL b c d) [] (g9 (a ++ b))
def notL (a : List Sp) : List Sp := kK (fun c d => !inL a c d) [] (g9 a)
theorem build_den {p : Cu → Cu → Bool} {q : Cu → Bool} {cs : List Cu} (h : Ends cs) (hp : ∀ c d x, (∃ A B, cs = A ++ c :: d :: B) → x.may = true → zO c x ≤ 0 → zO x d < 0 → p c d = q x) :
    zS (kK p [] cs) = true ∧ ∀ x : Cu, x.may = true → zO x (zQ 1) < 0 → den (kK p [] cs) x = q x := by
  obtain ⟨h1, h2⟩ := build_ok p cs [] h.rise rfl (by simp)
  refine ⟨h1, fun x hx hl => ?_⟩
  rw [h2 x hx]
  show (false || pick p x cs) = q x
  rw [Bool.false_or]
  refine pick_eq cs h.rise hp x hx (fun c hc => ?_) (fun d hd => ?_) (fun e => by rw [e] at h; cases h.head)
  · rw [h.head] at hc; obtain rfl : zQ (-1) = c := by simpa using hc
    exact first_le hx
  · rw [h.last] at hd; obtain rfl : zQ 1 = d := by simpa using hd
    exact hl
theorem make_ok {l : List Sp} (hl : ∀ s ∈ l, s.may = true) : zS (dR l) = true ∧ ∀ x : Cu, x.may = true → zO x (zQ 1) < 0 → den (dR l) x = den l x :=
  build_den (cuts_ends hl) fun c d x ⟨A, B, e⟩ hx h1 h2 => in_den hl (cuts_ends hl).rise (cuts_have hl) e hx h1 h2
end
section
def yB (s : Sp) : List Value := (zF s).cells.toList
theorem yD (s : Sp) : (yB s).length = 14 := rfl
def yL (l : List Sp) : Prop := ∀ s ∈ l, s.short
theorem inL_drop (l : List Sp) (c d : Cu) (k : Nat) (hk : k < l.length) : inL (l.drop k) c d = ((decide (zO l[k].lo c ≤ 0) && decide (zO d l[k].hi ≤ 0)) || inL (l.drop (k + 1)) c d) := by
  rw [List.drop_eq_getElem_cons hk]; unfold inL; rw [List.any_cons]
theorem in_any (A : Option Addr) (cap : Nat) (l : List Sp) (c d : Cu) (W : World) (hv : Reads yB W W.heap.size A l) (hn : l.length ≤ 1000000) (hl : yL l) (hc : c.short) (hd : d.short) :
    Calls Tryz.prog 85 #[.slice A l.length cap, zC c, zC d] W fun e w' => e = .returned (.bool (inL l c d)) ∧ Below W.heap.size W w' := by
  refine zM (n := 32) Tryz.func85 rfl (by kernel_rfl) (by kernel_rfl) (ZO (Zb (zC c) (fun b1 => Zb (zC d) (fun b2 => Zv (.bool false) (ZN (z8 (ZO (Zv (.int .i64 0) ?_))))))))
  refine ZN (zX (kH (fun L f m => ∃ (k : Nat) (j : Nat → Value), (k ≤ l.length ∧ inL l c d = inL (l.drop k) c d) ∧ L = [⟨b2, (zC d).cells, 72⟩, ⟨b1, (zC c).cells, 72⟩] ∧ f = jD j [(0, .slice A l.length cap), (4, .pointer (some ⟨b1, 0, none⟩)), (5, .pointer (some ⟨b2, 0, none⟩)), (7, .int .i64 (k : Int))] ∧ m = l.length - k) (l.length - 0) ⟨0, _, ⟨Nat.zero_le _, by rw [List.drop_zero]⟩, rfl, ZU, rfl⟩ ?_))
  rintro L f m ⟨k, j, hrel, rfl, rfl, rfl⟩
  have hkl := hrel.1
  refine z8 (ZO (Zv (.int .i64 (k : Int)) (Zv (.slice A l.length cap) (Zv (.int .i64 (l.length : Int)) ?_))))
  by_cases h1 : (k : Int) < (l.length : Int)
  · have hk : k < l.length := by omega
    obtain ⟨b, off, hA, hlt, hcell⟩ := hv (by omega)
    obtain ⟨s, hs⟩ : ∃ s, l[k] = s := ⟨_, rfl⟩
    have hsk : s.short := hs ▸ hl l[k] (List.getElem_mem hk)
    refine Zd (p := (k : Int) < (l.length : Int)) true (decide_eq_true (h1)) (ZY (ZB (z8 (zX (z8 (g7 (by kernel_rfl) (by kernel_rfl) (Zw (.slice A l.length cap) (Zw (.int .i64 (k : Int)) ?_))))))))
    refine kL (.pointer (some ⟨b, off + k * 14, none⟩)) (by kernel_rfl) (ZA (b := b) (off := off) (c := cap) (n := l.length) (k := .i64) (j := (k : Int)) (e := 74) (sz := 14) hA) (Zw (.pointer (some ⟨b, off + k * 14 + 0, none⟩)) (p6 (zC s.lo) (a := ⟨b, off + k * 14 + 0, none⟩) (by kernel_rfl) rfl (by kernel_rfl) (fun w hO => yH yD (fun j u h => (hO.below.cell (p := ⟨b, off + j, none⟩) hlt).trans (hcell j u h)) k 0 hk (by omega) _ (by rw [hs]; kernel_rfl)) (Zm 1 ⟨b1, (zC c).cells, 72⟩ (off := 0) (zC c) (Zq (k := 71) (args := #[zC s.lo, zC c]) (.int .i64 (zO s.lo c)) (fun w _ => qY s.lo c w hsk.1 hc) ?_))))
    by_cases h2 : (zO s.lo c : Int) ≤ 0
    · refine mD (p := (zO s.lo c : Int) ≤ 0) true (by kernel_rfl) (fun _ => by kernel_rfl) (decide_eq_true (h2)) ?_
      refine Zw (.bool true) (Zm 0 ⟨b2, (zC d).cells, 72⟩ (off := 0) (zC d) (Zw (.slice A l.length cap) (Zw (.int .i64 (k : Int)) (kL (.pointer (some ⟨b, off + k * 14, none⟩)) (by kernel_rfl) (ZA (b := b) (off := off) (c := cap) (n := l.length) (k := .i64) (j := (k : Int)) (e := 74) (sz := 14) hA) (Zw (.pointer (some ⟨b, off + k * 14 + 7, none⟩)) (p6 (zC s.hi) (a := ⟨b, off + k * 14 + 7, none⟩) (by kernel_rfl) rfl (by kernel_rfl) (fun w hO => yH yD (fun j u h => (hO.below.cell (p := ⟨b, off + j, none⟩) hlt).trans (hcell j u h)) k 7 hk (by omega) _ (by rw [hs]; kernel_rfl)) (Zq (k := 71) (args := #[zC d, zC s.hi]) (.int .i64 (zO d s.hi)) (fun w _ => qY d s.hi w hd hsk.2) ?_)))))))
      by_cases h3 : (zO d s.hi : Int) ≤ 0
      · refine mD (p := (zO d s.hi : Int) ≤ 0) true (by kernel_rfl) (fun _ => by kernel_rfl) (decide_eq_true (h3)) ?_
        refine Zw (.bool true) (xP (z7 (Zt (ZO (Zv (.bool true) (ZN (zB (zD (z6 ?_)))))))))
        exact yG (zD (z6 (ZF (.bool true) Tryz.results85 (fun w hO => ⟨by rw [hrel.2, inL_drop l c d k hk, hs]; simp [h2, h3], hO.below⟩))))
      refine Ze (p := (zO d s.hi : Int) ≤ 0) false (decide_eq_false (h3)) (Zw (.bool false) (xP (z7 (Zf (yT (zR (z7 (zA (Zv (.int .i64 (k : Int)) (Zu (k := .i64) (((k + 1 : Nat) : Int)) (IntWalk.i64_in _ (by omega)) (Zv (.int .i64 ((k + 1 : Nat) : Int)) ?_)))))))))))
      refine zL ?_
      have hnext : inL l c d = inL (l.drop (k + 1)) c d := by rw [hrel.2, inL_drop l c d k hk, hs]; simp [h2, h3]
      exact zY (m' := l.length - (k + 1)) (by omega) ⟨k + 1, _, ⟨by omega, hnext⟩, rfl, ZU, rfl⟩
    refine Ze (p := (zO s.lo c : Int) ≤ 0) false (decide_eq_false (h2)) (Zw (.bool false) (Zj (Zj (Zj (Zj (Zj (Zj (Zj (Zj (Zw (.bool false) (xP ?_)))))))))))
    refine z7 (Zf (yT (zR (z7 (zA (Zv (.int .i64 (k : Int)) (Zu (k := .i64) (((k + 1 : Nat) : Int)) (IntWalk.i64_in _ (by omega)) (Zv (.int .i64 ((k + 1 : Nat) : Int)) (zL ?_)))))))))
    have hnext : inL l c d = inL (l.drop (k + 1)) c d := by rw [hrel.2, inL_drop l c d k hk, hs]; simp [h2]
    exact zY (m' := l.length - (k + 1)) (by omega) ⟨k + 1, _, ⟨by omega, hnext⟩, rfl, ZU, rfl⟩
  refine Zd (p := (k : Int) < (l.length : Int)) false (decide_eq_false (h1)) (ZX (xQ (yA (y5 (zW (z7 (ZO (Zv (.bool false) ?_))))))))
  exact ZN (zB (ZF (.bool false) Tryz.results85 (fun w hO => ⟨by rw [hrel.2, List.drop_of_length_le (by omega)]; rfl, hO.below⟩)))
end
end Go.Proofs.YtiekhkapgjdblaaGreatDoor
