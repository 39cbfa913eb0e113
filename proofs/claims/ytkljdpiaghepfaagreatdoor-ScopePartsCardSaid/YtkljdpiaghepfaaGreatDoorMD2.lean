/-
  What the statement's proof leans on: the ways of walking, tG mathematics, and what the program's functions return; each theorem says on what conditions.
-/
import Derived.Laws.Slices
import Derived.Laws.MakeOwn
import Derived.Lib.BufferWrite
import Derived.Lib.UnsafeStr
import Derived.Deep.RegionHeld3
import Derived.IntWalk
import Derived.Outline
import Derived.StillTailTactics
import Derived.Laws.StructEq
import Derived.WalkLawsBesides
import Derived.Test.YtkljdpiaghepfaaGreatDoorMD1
set_option maxRecDepth 1000000
set_option maxHeartbeats 8000000
set_option linter.unusedVariables false
set_option linter.unusedSimpArgs false
namespace Go.Proofs.YtkljdpiaghepfaaGreatDoor
open Go.RowKit

section
section
variable {M : List Nat} {P : Program} {n : Nat} {ops : Array Oper} {W : World} {Q : Exit → Act → World → Prop} {L0 L : List Blk} {f : Nat → Value} {fuel : Nat} {listed : Array Bool} {rest : List Oper} {o : Oper}
theorem kA {L' : List Blk} (e : L = L') (h : Seg M P n ops W Q rest L' f) : Seg M P n ops W Q rest L f := by subst e; exact h
theorem gF {L' : List Blk} {c : Code} (e : L = L') (h : Ok M P n W Q c L' f) : Ok M P n W Q c L f := by subst e; exact h
theorem fin_cast {L' : List Blk} {x : Exit} (e : L = L') (h : Fin M n W Q x L' f) : Fin M n W Q x L f := by subst e; exact h
theorem vZ {L' : List Blk} (hs : ∀ w, Own M W w L → Own M W w L') (h : Seg M P n ops W Q rest L' f) : Seg M P n ops W Q rest L f := ⟨fun w hO => h.go w (hs w hO)⟩
theorem kC {L' : List Blk} {x : Exit} (hs : ∀ w, Own M W w L → Own M W w L') (h : Fin M n W Q x L' f) : Fin M n W Q x L f := ⟨fun w hO => h.go w (hs w hO)⟩
theorem vQ {L' : List Blk} (e : L = L') (h : vG M P n ops W L0 Q fuel listed L' f) : vG M P n ops W L0 Q fuel listed L f := by subst e; exact h
theorem kT {id : Nat} {l : List Oper} (L0 : List Blk) (hm : P.follows .mixedOrders = true) (hsub : ∀ w, Own M W w L → Own M W w L0) (h : vG M P n l.toArray W L0 Q l.length (Array.replicate l.length false) L f) : Ok M P n W Q (.region id l.toArray true) L f := ⟨fun w hO =>
  wp_region_held (id := id) (S := fun w => Own M W w L0) hm (ops := l.toArray) (Q := Q) (a := Fr n f) (w := w) (by simpa using h.go _ hO.drew)⟩
theorem yL (i : Nat) (oi : Oper) (v : Value) (hi : ops[i]? = some oi) (hs : Region.noSelect ops = true) (hf : Region.free .any ops listed i = true) (hr : (Region.ready .any ops listed).contains i = true)
    (hQ : PQ Q) (hsub : ∀ w, Own M W w L → Own M W w L0) (hw : xX ops n f oi = true) (hv : ∀ w, Own M W w L0 → (execOp (ev n f) oi).run P w = .ok (.value v) w)
    (h : vG M P n ops W L0 Q fuel (listed.setIfInBounds i true) L (upd f oi.dst v)) : vG M P n ops W L0 Q (fuel + 1) listed L f := ⟨fun w hO => by
  refine wpAnyH_take hi hs hf hr (fun c a w h => hQ c a _ _ w h) (Or.inl ⟨by rw [wQ]; exact hw, fun w hw' => by rw [uB]; exact hv w hw'⟩) (hsub w hO) ?_
  rw [bK]
  exact h.go w hO⟩
theorem mS (i : Nat) (oi : Oper) (k : Nat) (x : Blk) {ty : TypeId} {p : Operand} {off : Nat} (v : Value) (hi : ops[i]? = some oi) (hs : Region.noSelect ops = true) (hf : Region.free .any ops listed i = true) (hr : (Region.ready .any ops listed).contains i = true)
    (hQ : PQ Q) (hsub : ∀ w, Own M W w L → Own M W w L0) (hw : xX ops n f oi = true) (ho : oi.op = .load ty p) (hL : L0[k]? = some x) (hp : ev n f p = .pointer (some ⟨x.b, off, none⟩)) (hv : kN P ty x.cs off = some v)
    (h : vG M P n ops W L0 Q fuel (listed.setIfInBounds i true) L (upd f oi.dst v)) : vG M P n ops W L0 Q (fuel + 1) listed L f :=
  yL i oi v hi hs hf hr hQ hsub hw (fun _ hO => gU ho hp (q8 hv (hO.get hL))) h
theorem hl_old (i : Nat) (oi : Oper) {ty : TypeId} {p : Operand} {a : Addr} (v : Value) (hi : ops[i]? = some oi) (hs : Region.noSelect ops = true) (hf : Region.free .any ops listed i = true) (hr : (Region.ready .any ops listed).contains i = true)
    (hQ : PQ Q) (hsub : ∀ w, Own M W w L → Own M W w L0) (hw : xX ops n f oi = true) (ho : oi.op = .load ty p) (hp : ev n f p = .pointer (some a)) (hv : ∀ w, Own M W w L0 → (loadVar ty a).run P w = .ok v w)
    (h : vG M P n ops W L0 Q fuel (listed.setIfInBounds i true) L (upd f oi.dst v)) : vG M P n ops W L0 Q (fuel + 1) listed L f :=
  yL i oi v hi hs hf hr hQ hsub hw (fun w hO => gU ho hp (hv w hO)) h
theorem gW {i : Nat} (oi : Oper) {k : FuncId} {args : Array Value} (R : Value → List Blk → Prop) (hi : ops[i]? = some oi) (hw : xX ops n f oi = true) (he : ∀ w, (execOp (ev n f) oi).run P w = .ok (.enter k args) w)
    (hc : ∀ w, Own M W w L → Calls P k args w fun e w' => ∃ v L', e = .returned v ∧ R v L' ∧ Own M W w' L') (hsub : ∀ v L', R v L' → ∀ w, Own M W w L' → Own M W w L0)
    (h : ∀ v L', R v L' → vG M P n ops W L0 Q fuel (listed.setIfInBounds i true) L' (upd f oi.dst v)) : uN M P n ops W L0 Q fuel listed i L f :=
  mR hi hw fun w hO => pU (he w) ((hc w hO).mono fun e w' ⟨v, L', e1, e2, e3⟩ => ⟨v, e1, hsub v L' e2 w' e3, (h v L' e2).go w' e3⟩)
theorem gS {i0 : Nat} {E ob R : List Blk} (oi : Oper) {t T : TypeId} {s x : Operand} {i : TypeInfo} {z : Value} {sz : Nat} (hi0 : ops[i0]? = some oi) (hw : xX ops n f oi = true) (ho : oi.op = .call { callee := .builtin .append, args := #[s, x], argTypes := #[t, t] })
    (ht : P.underlying t = some (.slice T)) (hi : P.info? T = some i) (hz : i.zero = some z) (hsz : i.size = sz) (hzs : z.cells.size = sz)
    {v : Value} {m0 : Nat} {xs : List Value} (hs : ev n f s = v) (hv : Sl T sz v m0 xs ob) {a : Addr} {m c : Nat} {news : List Value} (hx : ev n f x = .slice (some a) m c)
    (hl : news.length = m * sz) (hnews : ∀ w, Own M W w (E ++ ob ++ R) → ∀ j u, news[j]? = some u → w.cell? (a.add j) = some u) (h1 : ∀ u ∈ news, u.oneCell' = true)
    (h63 : m0 + m ≤ maxLen) (hbytes : (m0 + m) * i.bytes ≤ 140737488355328) (hsub : ∀ ob' w, Own M W w (E ++ ob' ++ R) → Own M W w L0)
    (h : ∀ v' ob', Sl T sz v' (m0 + m) (xs ++ news) ob' → vG M P n ops W L0 Q fuel (listed.setIfInBounds i0 true) (E ++ ob' ++ R) (upd f oi.dst v')) : uN M P n ops W L0 Q fuel listed i0 (E ++ ob ++ R) f :=
  mR hi0 hw fun w hO => by
    obtain ⟨v', w', ob', hr, h2, h3⟩ := nZ (P := P) (ty := oi.type) (c := c) ht hi hz hsz hzs hv hO hl (hnews w hO) h1 h63 hbytes
    refine vP v' (w' := w') ?_ ⟨hsub ob' w' h3, (h v' ob' h2).go w' h3⟩
    unfold execOp
    simp only [ho, resolve, invoke, builtin, Sem.run_bind, Sem.run_pure, Result.andThen_ok, List.map_toArray, List.map_cons, List.map_nil, hs, hx, hr]
theorem hl_lit {i0 : Nat} (oi : Oper) {t : TypeId} {len : Nat} {parts : Array (Nat × Operand)} (T : TypeId) (cs : Array Value) (hi0 : ops[i0]? = some oi) (hw : xX ops n f oi = true) (ho : oi.op = .buildSlice t len parts) (hsub : ∀ w, Own M W w L → Own M W w L0)
    (hr : ∀ w, (execOp (ev n f) oi).run P w = .ok (.value (.slice (some ⟨w.heap.size, 0, none⟩) len len)) (w.alloc (.cells cs T)))
    (h : ∀ b, vG M P n ops W L0 Q fuel (listed.setIfInBounds i0 true) (⟨b, cs, T⟩ :: L) (upd f oi.dst (.slice (some ⟨b, 0, none⟩) len len))) : uN M P n ops W L0 Q fuel listed i0 L f :=
  mR hi0 hw fun w hO => by
    have hO' := hO.alloc cs T
    refine vP _ (hr w) ⟨?_, (h w.heap.size).go _ hO'⟩
    exact hsub _ (Own.sub [⟨w.heap.size, cs, T⟩] hO')
theorem Own.join {ob ob' R : List Blk} {w w' : World} (h : Own M W w (ob ++ R)) (hc : Own (ob.map Blk.b) w w' ob') : Own M W w' (ob' ++ R) := by
  have hap := h.apart
  rw [List.map_append, List.nodup_append] at hap
  have notob : ∀ x ∈ R, x.b ∉ ob.map Blk.b := fun x hx hm => hap.2.2 x.b hm x.b (List.mem_map.2 ⟨x, hx, rfl⟩) rfl
  have ltR : ∀ x ∈ R, x.b < w.heap.size := fun x hx => h.lt (List.mem_append_right ob hx)
  have newob : ∀ x ∈ ob', x.b ∉ R.map Blk.b := fun x hx hm => by
    obtain ⟨y, hy, e⟩ := List.mem_map.1 hm
    rcases hc.base x hx with h1 | h1
    · have := ltR y hy; omega
    · exact notob y hy (e ▸ h1)
  refine ⟨hc.os.trans h.os, hc.tape.trans h.tape, hc.output.trans h.output, Nat.le_trans h.size hc.size, Nat.le_trans h.drawn hc.drawn, fun k hk hm => ?_, fun x hx => ?_, fun x hx => ?_, ?_⟩
  · rw [hc.kept k (Nat.lt_of_lt_of_le hk h.size) (fun hmem => by
      obtain ⟨y, hy, e⟩ := List.mem_map.1 hmem
      rcases h.base y (List.mem_append_left R hy) with h1 | h1
      · omega
      · exact hm (e ▸ h1))]
    exact h.kept k hk hm
  · rcases List.mem_append.1 hx with hx | hx
    · exact hc.held x hx
    · rw [hc.kept x.b (ltR x hx) (notob x hx)]
      exact h.held x (List.mem_append_right ob hx)
  · rcases List.mem_append.1 hx with hx | hx
    · rcases hc.base x hx with h1 | h1
      · exact .inl (Nat.le_trans h.size h1)
      · obtain ⟨y, hy, e⟩ := List.mem_map.1 h1
        rw [← e]; exact h.base y (List.mem_append_left R hy)
    · exact h.base x (List.mem_append_right ob hx)
  · rw [List.map_append, List.nodup_append]
    refine ⟨hc.apart, hap.2.1, fun a ha b hb e => ?_⟩
    obtain ⟨x, hx, rfl⟩ := List.mem_map.1 ha
    exact newob x hx (e ▸ hb)
theorem Own.joinN {ob' R : List Blk} {w w' : World} (h : Own M W w R) (hc : Own [] w w' ob') : Own M W w' (ob' ++ R) := Own.join (ob := []) h hc
end
section
variable {P : Program} {n : Nat} {W : World} {f : Nat → Value} {Q : Exit → Act → World → Prop} {M : List Nat} {ops : Array Oper} {rest : List Oper} {o : Oper} {L : List Blk}
theorem mZ {k : FuncId} {fn : Func} {c : Code} {args : Array Value} {R : Ending → World → Prop} (hO : Own M W W L) (hf : P.funcs[k]? = some fn) (hb : fn.body = some c) (hn : fn.ntmps = n) (hle : Nat.ble args.size n = true)
    (h : Ok M P n W (bodyPost P fn R) c L (fun t => args.getD t undef)) : Calls P k args W R := by
  have h2 : Ok M P n W (bodyPost P fn R) c [] (fun t => args.getD t undef) → Calls P k args W R := calls_okM M hf hb hn hle
  refine calls_of_wp hf hb ?_
  have hle' : args.size ≤ n := Nat.le_of_ble_eq_true hle
  have e : ({ tmps := args ++ Array.replicate (fn.ntmps - args.size) undef, defers := [] } : Act) = Fr n (fun t => args.getD t undef) := by
    unfold Fr
    congr 1
    rw [hn]
    apply Array.ext_getElem?
    intro i
    rw [Array.getElem?_ofFn, Array.getElem?_append, Array.getElem?_replicate]
    by_cases hi : i < args.size
    · rw [if_pos hi, dif_pos (by omega), Array.getElem?_eq_getElem hi]
      simp [Array.getD, hi]
    · rw [if_neg hi]
      by_cases hin : i < n
      · rw [if_pos (by omega), dif_pos hin]
        simp [Array.getD, hi]
      · rw [if_neg (by omega), dif_neg hin]
  rw [e]
  exact h.go W hO
theorem Sl.block {T sz m : Nat} {A : Option Addr} {cap : Nat} {xs : List Value} {ob : List Blk} (h : Sl T sz (.slice A m cap) m xs ob) (h0 : 0 < m) : ∃ g cur, A = some ⟨g, 0, none⟩ ∧ ob = [⟨g, cur, T⟩] ∧ m ≤ cap ∧ cap ≤ maxLen ∧ cur.size = cap * sz ∧ cur.toList.take (m * sz) = xs := by
  rcases h.2 with ⟨_, h2, _⟩ | ⟨g, c, cur, e, e2, h3, h4, h5, h6⟩
  · omega
  · simp only [Value.slice.injEq] at e
    obtain ⟨rfl, _, rfl⟩ := e
    exact ⟨g, cur, rfl, e2, h3, h4, h5, h6⟩
theorem xD {α : Type} {g : α → List Value} {sz : Nat} (hg : ∀ x, (g x).length = sz) {ty : TypeId} {cur : Array Value} {l : List α} (ht : cur.toList.take (l.length * sz) = l.flatMap g) (k fo : Nat) (hk : k < l.length) (hfo : fo ≤ sz) (v : Value)
    (hr : kN P ty ((g l[k]).drop fo).toArray 0 = some v) : kN P ty cur (k * sz + fo) = some v := by
  have hcur : l.length * sz ≤ cur.size := by
    have := congrArg List.length ht
    rw [List.length_take, kO hg] at this
    simp at this; omega
  have hks : k * sz + sz ≤ l.length * sz := by rw [← Nat.succ_mul]; exact Nat.mul_le_mul_right _ hk
  have hat : ∀ j u, ((g l[k]).drop fo)[j]? = some u → cur.toList[k * sz + fo + j]? = some u := fun j u hj => by
    rw [List.getElem?_drop] at hj
    have h1 : fo + j < sz := by
      have := (List.getElem?_eq_some_iff.1 hj).1
      rw [hg] at this; exact this
    have h2 : (l.flatMap g)[k * sz + (fo + j)]? = some u := by
      have := flat_at hg l k hk
      rw [← this, List.getElem?_take, if_pos h1, List.getElem?_drop] at hj
      exact hj
    rw [← ht, List.getElem?_take, if_pos (by omega)] at h2
    rw [show k * sz + fo + j = k * sz + (fo + j) from by omega]; exact h2
  unfold kN at hr ⊢
  cases hu : P.underlying ty with
  | none => rw [hu] at hr; simp at hr
  | some d =>
    cases hi : P.info? ty with
    | none => rw [hu, hi] at hr; cases d <;> simp at hr
    | some i =>
      rw [hu, hi] at hr
      by_cases hd : n9 d = true
      · have h2 : (if 0 + i.size ≤ ((g l[k]).drop fo).toArray.size then some (Value.agg (((g l[k]).drop fo).toArray.toList.drop 0 |>.take i.size).toArray) else none) = some v := by
          cases d <;> first | exact hr | (simp [n9] at hd)
        have h3 : (if (k * sz + fo) + i.size ≤ cur.size then some (Value.agg (cur.toList.drop (k * sz + fo) |>.take i.size).toArray) else none) = some v := by
          split at h2
          · rename_i hle
            simp only [List.size_toArray, List.length_drop, hg] at hle
            rw [if_pos (by omega), ← h2]
            congr 2
            congr 1
            apply List.ext_getElem?
            intro j
            rw [List.getElem?_take, List.getElem?_take]
            split
            · rename_i hj
              rw [List.getElem?_drop]
              simp only [List.drop_zero]
              have : ∃ u, ((g l[k]).drop fo)[j]? = some u := ⟨_, List.getElem?_eq_getElem (by rw [List.length_drop, hg]; omega)⟩
              obtain ⟨u, hu⟩ := this
              rw [hat j u hu, hu]
            · rfl
          · cases h2
        cases d <;> first | exact h3 | (simp [n9] at hd)
      · have h2 : ((g l[k]).drop fo).toArray[0]? = some v := by cases d <;> first | exact hr | (simp [n9] at hd)
        have h3 : cur[k * sz + fo]? = some v := by
          have := hat 0 v (by simpa using h2)
          simpa using this
        cases d <;> first | exact h3 | (simp [n9] at hd)
end
section
variable {P : Program} {n : Nat} {W : World} {f : Nat → Value} {Q : Exit → Act → World → Prop} {M : List Nat} {ops : Array Oper} {rest : List Oper} {o : Oper} {L : List Blk}
theorem t6 (i : Nat) (x : Blk) {T : TypeId} {p q : Operand} {off : Nat} (v : Value) (sz : Nat) (hw : xX ops n f o = true) (ho : o.op = .store T p q) (hd : o.dst = none) (hL : L[i]? = some x)
    (hp : ev n f p = .pointer (some ⟨x.b, off, none⟩)) (hq : ev n f q = v) (hz : (P.info? T).map (·.size) = some sz) (hs : v.cells.size = sz) (hle : off + sz ≤ x.cs.size) (h1 : (v.cells.toList.all fun u => u.oneCell') = true)
    (h : Seg M P n ops W Q rest (L.set i ⟨x.b, kD x.cs off v.cells, x.ty⟩) f) : Seg M P n ops W Q (o :: rest) L f := by
  cases ht : P.info? T with
  | none => rw [ht] at hz; cases hz
  | some t =>
    rw [ht] at hz
    have e : t.size = sz := Option.some.inj hz
    exact s_store i x v hw ho hd hL hp hq ht (by rw [hs, e]) (by rw [e]; exact hle) (List.all_eq_true.1 h1) h
theorem dO {α : Type} {g : α → List Value} {sz : Nat} (hg : ∀ x, (g x).length = sz) {cur : Array Value} {l : List α} (ht : cur.toList.take (l.length * sz) = l.flatMap g) (k fo : Nat) (hk : k < l.length) (vs : Array Value) (y : α) (hfit : fo + vs.size ≤ sz)
    (hy : g y = (g l[k]).take fo ++ vs.toList ++ (g l[k]).drop (fo + vs.size)) : (kD cur (k * sz + fo) vs).toList.take (l.length * sz) = (l.set k y).flatMap g ∧ (kD cur (k * sz + fo) vs).size = cur.size := by
  obtain ⟨R, hR⟩ : ∃ R, cur.toList = l.flatMap g ++ R := ⟨cur.toList.drop (l.length * sz), by rw [← ht]; exact (List.take_append_drop _ _).symm⟩
  have hsplit : l.flatMap g = (l.take k).flatMap g ++ (g l[k] ++ (l.drop (k + 1)).flatMap g) := by
    rw [← List.flatMap_cons, ← List.drop_eq_getElem_cons hk, ← List.flatMap_append, List.take_append_drop]
  obtain ⟨A, hA⟩ : ∃ A, (l.take k).flatMap g = A := ⟨_, rfl⟩
  obtain ⟨B, hB⟩ : ∃ B, (l.drop (k + 1)).flatMap g = B := ⟨_, rfl⟩
  obtain ⟨G, hG⟩ : ∃ G, g l[k] = G := ⟨_, rfl⟩
  have lA : A.length = k * sz := by rw [← hA, kO hg, List.length_take, Nat.min_eq_left (by omega)]
  have lG : G.length = sz := by rw [← hG]; exact hg _
  have lB : B.length = (l.length - (k + 1)) * sz := by rw [← hB, kO hg, List.length_drop]
  have tot : k * sz + sz + (l.length - (k + 1)) * sz = l.length * sz := by
    rw [← Nat.succ_mul, ← Nat.add_mul]; congr 1; omega
  rw [hA, hB, hG] at hsplit
  rw [hG] at hy
  have hset : (l.set k y).flatMap g = A ++ (g y ++ B) := by
    rw [List.set_eq_take_append_cons_drop, if_pos hk, List.flatMap_append, List.flatMap_cons, hA, hB]
  have hcur : cur.toList = A ++ (G ++ (B ++ R)) := by rw [hR, hsplit]; simp only [List.append_assoc]
  have e1 : cur.toList.take (k * sz + fo) = A ++ G.take fo := by
    rw [hcur, ← lA, List.take_length_add_append, List.take_append_of_le_length (by omega)]
  have e2 : cur.toList.drop (k * sz + fo + vs.size) = G.drop (fo + vs.size) ++ (B ++ R) := by
    rw [hcur, ← lA, Nat.add_assoc, List.drop_length_add_append, List.drop_append_of_le_length (by omega)]
  have e3 : (kD cur (k * sz + fo) vs).toList = A ++ (g y ++ (B ++ R)) := by
    unfold kD
    rw [e1, e2, hy]; simp only [List.append_assoc]
  constructor
  · rw [e3, hset]
    have : A ++ (g y ++ (B ++ R)) = (A ++ (g y ++ B)) ++ R := by simp only [List.append_assoc]
    rw [this]
    exact List.take_left' (by rw [List.length_append, List.length_append, lA, lB, hg]; omega)
  · have h1 := congrArg List.length e3
    have h2 := congrArg List.length hcur
    simp only [List.length_append, Array.length_toList, hg, lG] at h1 h2
    omega
end
end
section
section
variable {P : Program}
theorem fP {ρ : Operand → Value} {o : Oper} {t e : TypeId} {x y : Operand} {b off n c sz : Nat} {k : IntKind} {j : Int} (ho : o.op = .slice t x none (some y) none) (hx : ρ x = .slice (some ⟨b, off, none⟩) n c) (hy : ρ y = .int k j)
    (hu : P.underlying t = some (.slice e)) (hs : (P.info? e).map (·.size) = some sz) (h0 : 0 ≤ j) (h1 : j ≤ c) (w : World) : (execOp ρ o).run P w = .ok (.value (.slice (some ⟨b, off, none⟩) j.toNat c)) w := by
  cases he : P.info? e with
  | none => rw [he] at hs; cases hs
  | some i =>
    unfold execOp
    simp [ho, hx, hy, Instr.sliceAt, Instr.slice, Instr.sliceBounds, Instr.sliceBound, Sem.run_bind, asIntOf, run_underlying hu, h0, h1, sizeOf, typeInfo, he, yM]
theorem fO {ρ : Operand → Value} {o : Oper} {t e : TypeId} {x y : Operand} {b off n c sz : Nat} {k : IntKind} {j : Int} (ho : o.op = .slice t x (some y) none none) (hx : ρ x = .slice (some ⟨b, off, none⟩) n c) (hy : ρ y = .int k j)
    (hu : P.underlying t = some (.slice e)) (hs : (P.info? e).map (·.size) = some sz) (h0 : 0 ≤ j) (h1 : j ≤ n) (w : World) : (execOp ρ o).run P w = .ok (.value (.slice (some ⟨b, off + (if c = j.toNat then 0 else j.toNat * sz), none⟩) (n - j.toNat) (c - j.toNat))) w := by
  cases he : P.info? e with
  | none => rw [he] at hs; cases hs
  | some i =>
    rw [he] at hs
    obtain rfl := Option.some.inj hs
    unfold execOp
    by_cases hc : c = j.toNat
    · simp [ho, hx, hy, Instr.sliceAt, Instr.slice, Instr.sliceBounds, Instr.sliceBound, Sem.run_bind, asIntOf, run_underlying hu, h0, h1, sizeOf, typeInfo, he, yM, hc]
    · simp [ho, hx, hy, Instr.sliceAt, Instr.slice, Instr.sliceBounds, Instr.sliceBound, Sem.run_bind, asIntOf, run_underlying hu, h0, h1, sizeOf, typeInfo, he, yM, hc]
end
end
section
section
variable {P : Program} {w : World} {ob : List Blk}
theorem own_append_nilc {t ty T : TypeId} {i : TypeInfo} (ht : P.underlying t = some (.slice T)) (hi : P.info? T = some i) {sz : Nat} {v : Value} {n : Nat} {xs : List Value} (hv : Sl T sz v n xs ob) (c : Nat) :
    (Builtin.append_ #[t, t] ty #[v, .slice none 0 c]).run P w = .ok v w := by
  rcases hv.2 with ⟨rfl, rfl, rfl⟩ | ⟨g, cap, cur, rfl, rfl, hnc, hcm, hcs, htake⟩
  · simp [Builtin.append_, run_underlying ht, sizeOf, typeInfo, hi, Builtin.lenOf, Builtin.firstCells]
  · simp [Builtin.append_, run_underlying ht, sizeOf, typeInfo, hi, Builtin.lenOf, Builtin.firstCells, hnc, storeCells]
end
section
variable {M : List Nat} {P : Program} {n0 : Nat} {ops : Array Oper} {W : World} {Q : Exit → Act → World → Prop} {rest : List Oper} {o : Oper} {E ob L0 : List Blk} {f : Nat → Value}
theorem jU {α : Type} {g : α → List Value} {t T : TypeId} {s x : Operand} {i : TypeInfo} {z : Value} {sz : Nat} (hg : ∀ y, (g y).length = sz) (hw : xX ops n0 f o = true) (ho : o.op = .call { callee := .builtin .append, args := #[s, x], argTypes := #[t, t] })
    (ht : P.underlying t = some (.slice T)) (hi : P.info? T = some i) (hz : i.zero = some z) (hsz : i.size = sz) (hzs : z.cells.size = sz)
    {v : Value} {n : Nat} {xs : List Value} (hs : ev n0 f s = v) (hv : Sl T sz v n xs ob) {A : Option Addr} {c : Nat} {l : List α} (hx : ev n0 f x = .slice A l.length c)
    (hR : ∀ w, Own M W w (E ++ ob ++ L0) → Reads g w w.heap.size A l) (h1 : ∀ y, ∀ u ∈ g y, u.oneCell' = true)
    (h63 : n + l.length ≤ maxLen) (hbytes : (n + l.length) * i.bytes ≤ 140737488355328)
    (h : ∀ v' ob', Sl T sz v' (n + l.length) (xs ++ l.flatMap g) ob' → Seg M P n0 ops W Q rest (E ++ ob' ++ L0) (upd f o.dst v')) : Seg M P n0 ops W Q (o :: rest) (E ++ ob ++ L0) f :=
  j0 hw fun w hO => by
    have hone : ∀ u ∈ l.flatMap g, u.oneCell' = true := fun u hu => by
      obtain ⟨y, _, hy⟩ := List.mem_flatMap.1 hu
      exact h1 y u hy
    cases A with
    | none =>
      have h0 : l = [] := by
        cases l with
        | nil => rfl
        | cons y l => obtain ⟨b, off, e, _⟩ := hR w hO (by simp); cases e
      subst h0
      have hv' : Sl T sz v (n + ([] : List α).length) (xs ++ ([] : List α).flatMap g) ob := by simpa using hv
      refine vP v (w' := w) ?_ ((h v ob hv').go w hO)
      have hx' : ev n0 f x = .slice none 0 c := hx
      unfold execOp
      simp only [ho, resolve, invoke, builtin, Sem.run_bind, Sem.run_pure, Result.andThen_ok, List.map_toArray, List.map_cons, List.map_nil, hs, hx', own_append_nilc ht hi hv c]
    | some a =>
      have hnews : ∀ j u, (l.flatMap g)[j]? = some u → w.cell? (a.add j) = some u := fun j u hj => by
        have h0 : 0 < l.length := by
          cases l with
          | nil => simp at hj
          | cons y l => simp
        obtain ⟨b, off, e, _, hc⟩ := hR w hO h0
        obtain rfl := Option.some.inj e
        rw [yM]
        exact hc j u hj
      obtain ⟨v', w', ob', hr, h2, h3⟩ := nZ (P := P) (ty := o.type) (c := c) ht hi hz hsz hzs hv hO (kO hg l) hnews hone h63 hbytes
      refine vP v' (w' := w') ?_ ((h v' ob' h2).go w' h3)
      unfold execOp
      simp only [ho, resolve, invoke, builtin, Sem.run_bind, Sem.run_pure, Result.andThen_ok, List.map_toArray, List.map_cons, List.map_nil, hs, hx, hr]
end
end
section
theorem freeze_drawn (w : World) (a : Addr) (m : Nat) : (w.freeze a m).drawn = w.drawn := by unfold World.freeze; split <;> rfl
theorem Own.freeze {M : List Nat} {W w : World} {x : Blk} {L : List Blk} (h : Own M W w (x :: L)) (m : Nat) : Own M W (w.freeze ⟨x.b, 0, none⟩ m) L := by
  have hne : ∀ k, k ≠ x.b → (w.freeze ⟨x.b, 0, none⟩ m).heap[k]? = w.heap[k]? := fun k hk => by
    unfold World.freeze
    split
    · rfl
    · simp only [Array.getElem?_modify]; rw [if_neg (Ne.symm hk)]
  have hsz : (w.freeze ⟨x.b, 0, none⟩ m).heap.size = w.heap.size := by unfold World.freeze; split <;> simp
  have ho : (w.freeze ⟨x.b, 0, none⟩ m).os = w.os ∧ (w.freeze ⟨x.b, 0, none⟩ m).tape = w.tape ∧ (w.freeze ⟨x.b, 0, none⟩ m).output = w.output := by unfold World.freeze; split <;> exact ⟨rfl, rfl, rfl⟩
  have hap := h.apart
  rw [List.map_cons, List.nodup_cons] at hap
  refine ⟨ho.1.trans h.os, ho.2.1.trans h.tape, ho.2.2.trans h.output, by rw [hsz]; exact h.size, by rw [freeze_drawn]; exact h.drawn, fun k hk hm => ?_, fun y hy => ?_, fun y hy => h.base y (List.mem_cons_of_mem _ hy), hap.2⟩
  · rw [hne k (fun e => by
      rcases h.base x List.mem_cons_self with h1 | h1
      · omega
      · exact hm (e ▸ h1))]
    exact h.kept k hk hm
  · rw [hne y.b (fun e => hap.1 (e ▸ List.mem_map_of_mem hy))]
    exact h.held y (List.mem_cons_of_mem _ hy)
section
variable {M : List Nat} {P : Program} {n0 : Nat} {ops : Array Oper} {W : World} {Q : Exit → Act → World → Prop} {rest : List Oper} {o : Oper} {L : List Blk} {f : Nat → Value}
theorem s_make {t e : TypeId} {x y : Operand} {i : TypeInfo} {z : Value} {kl kc : IntKind} {l c : Int} (hw : xX ops n0 f o = true) (ho : o.op = .makeSlice t x y) (hx : ev n0 f x = .int kl l) (hy : ev n0 f y = .int kc c)
    (ht : P.underlying t = some (.slice e)) (hi : P.info? e = some i) (hz : i.zero = some z) (h0 : 0 ≤ l) (hlc : l ≤ c) (hbytes : (i.bytes : Int) * c ≤ 281474976710656) (h63 : c ≤ 9223372036854775807)
    (h : ∀ b, Seg M P n0 ops W Q rest (⟨b, madeCells z.cells (c.toNat * i.size), e⟩ :: L) (upd f o.dst (.slice (some ⟨b, 0, none⟩) l.toNat c.toNat))) : Seg M P n0 ops W Q (o :: rest) L f :=
  j0 hw fun w hO => by
    refine vP _ (w' := w.alloc (.cells (madeCells z.cells (c.toNat * i.size)) e)) ?_ ((h w.heap.size).go _ (hO.alloc _ _))
    have hr := run_make (P := P) w t e i z ht hi hz kl kc l c h0 hlc hbytes h63
    unfold execOp
    simp only [ho, hx, hy, Sem.run_bind, Sem.run_pure, Result.andThen_ok, hr]
theorem s_copyS {t u e : TypeId} {x y : Operand} {b cap : Nat} {cs : Array Value} {T : TypeId} {s : ByteArray} (hw : xX ops n0 f o = true) (ho : o.op = .call { callee := .builtin .copy, args := #[x, y], argTypes := #[t, u] })
    (hx : ev n0 f x = .slice (some ⟨b, 0, none⟩) s.size cap) (hy : ev n0 f y = .string s) (ht : P.underlying t = some (.slice e)) (hs : (P.info? e).map (·.size) = some 1) (hc : cs.size = s.size)
    (h : Seg M P n0 ops W Q rest (⟨b, (Lib.byteCells s.data.toList).toArray, T⟩ :: L) (upd f o.dst (goInt s.size))) : Seg M P n0 ops W Q (o :: rest) (⟨b, cs, T⟩ :: L) f :=
  j0 hw fun w hO => by
    have hr := Lib.run_copy_row_string (P := P) w t u o.type e b 0 s.size cap s cs T ht hs (hO.held _ List.mem_cons_self) (Nat.le_refl _) (by omega)
    have hcs : (cs.toList.take 0 ++ Lib.byteCells s.data.toList ++ cs.toList.drop (0 + s.size)).toArray = (Lib.byteCells s.data.toList).toArray := by
      rw [List.take_zero, List.nil_append, List.drop_of_length_le (by rw [Array.length_toList]; omega), List.append_nil]
    rw [hcs] at hr
    refine vP _ (w' := w.setRow b (Lib.byteCells s.data.toList).toArray) ?_ (h.go _ (hO.put (i := 0) (x := ⟨b, cs, T⟩) rfl _))
    unfold execOp
    simp only [ho, resolve, invoke, builtin, Sem.run_bind, Sem.run_pure, Result.andThen_ok, List.map_toArray, List.map_cons, List.map_nil, hx, hy, hr]
theorem s_ustr {t u e : TypeId} {x y : Operand} {b : Nat} {s : ByteArray} (hw : xX ops n0 f o = true) (ho : o.op = .call { callee := .builtin .unsafeString, args := #[x, y], argTypes := #[t, u] })
    (hx : ev n0 f x = .pointer (some ⟨b, 0, none⟩)) (hy : ev n0 f y = .int .i64 s.size) (ht : P.underlying t = some (.pointer e)) (hc : P.cellsOf e = 1) (hne : s.size ≠ 0) (h63 : s.size ≤ 9223372036854775807)
    (h : Seg M P n0 ops W Q rest L (upd f o.dst (.string s))) : Seg M P n0 ops W Q (o :: rest) (⟨b, (Lib.byteCells s.data.toList).toArray, e⟩ :: L) f :=
  j0 hw fun w hO => by
    have hg := hO.held _ List.mem_cons_self
    have hl : s.data.toList.length = s.size := by rw [← Lib.size_eq]
    have hr := Lib.run_unsafeString_row (P := P) w t u o.type e ht hc b s.size (by unfold World.shape?; simp only at hg; rw [hg]; simp [Lib.byteCells_length, hl]) s.data.toList (fun e => hne (by rw [← hl, e]; rfl)) (by omega) (by omega)
      (fun j x hx => by
        rw [yM, cell_of_row w b (0 + j) _ e _ hg]
        simp [Lib.byteCells, hx])
    rw [hl] at hr
    refine vP _ (w' := w.freeze ⟨b, 0, none⟩ s.size) ?_ (h.go _ (hO.freeze s.size))
    unfold execOp
    simp only [ho, resolve, invoke, builtin, Sem.run_bind, Sem.run_pure, Result.andThen_ok, List.map_toArray, List.map_cons, List.map_nil, hx, hy, hr]
end
end
section
theorem infoByte9 : (Tryz.prog.info? 5).map (fun i => (i.zero.map (·.cells.size), i.size, i.bytes)) = some (some 1, 1, 1) := by kernel_rfl
theorem byte_info : ∃ i z, Tryz.prog.info? 5 = some i ∧ i.zero = some z ∧ i.size = 1 ∧ z.cells.size = 1 ∧ i.bytes = 1 := by
  have h := infoByte9
  cases hi : Tryz.prog.info? 5 with
  | none => rw [hi] at h; cases h
  | some i =>
    rw [hi] at h
    simp only [Option.map_some, Option.some.injEq, Prod.mk.injEq] at h
    cases hz : i.zero with
    | none => rw [hz] at h; simp at h
    | some z => rw [hz] at h; simp at h; exact ⟨i, z, rfl, hz, h.2.1, h.1, h.2.2⟩
theorem empty_of {s : ByteArray} (h : (s.size : Int) = 0) : s = ⟨#[]⟩ := by
  have h2 : s.data.size = 0 := Int.ofNat.inj h
  exact ByteArray.ext (Array.eq_empty_of_size_eq_zero h2)
theorem sclone_any (s : ByteArray) (w : World) (hs : s.size ≤ 281474976710656) :
    Calls Tryz.prog 114 #[.string s] w fun e w' => e = .returned (.string s) ∧ Below w.heap.size w w' := by
  refine zP (n := 18) Tryz.func114 rfl (by kernel_rfl) (by kernel_rfl) (ZO (Zv (.string ⟨#[]⟩) (ZN (z6 (ZO (Zv (.string s) (Zv (.int .i64 ((s).size)) ?_)))))))
  by_cases h1 : ((s).size : Int) = 0
  · refine zW (p := ((s).size : Int) = 0) true (by kernel_rfl) (fun _ => by kernel_rfl) (decide_eq_true (h1)) ?_
    exact ZY (ZO (Zv (.string ⟨#[]⟩) (ZN (zB (z8 (ZF (.string ⟨#[]⟩) Tryz.results114 (fun w hO => ⟨by rw [empty_of (s := s) (by assumption)], hO.below⟩)))))))
  refine Zd (p := ((s).size : Int) = 0) false (decide_eq_false (h1)) (ZX (ZB (ZO (Zv (.string s) (Zv (.int .i64 ((s).size)) ?_)))))
  obtain ⟨i, z, e1, e2, e3, e4, e5⟩ := byte_info
  refine s_make (kl := .i64) (kc := .i64) (l := (s.size : Int)) (c := (s.size : Int)) (by kernel_rfl) rfl (by kernel_rfl) (by kernel_rfl) Tryz.underlying137 e1 e2 (by omega) (by omega) (by rw [e5]; omega) (by omega) (fun b => ?_)
  rw [show ((s.size : Nat) : Int).toNat = s.size from rfl]
  obtain ⟨cs, hcs⟩ : ∃ cs, cs = madeCells z.cells (s.size * i.size) := ⟨_, rfl⟩
  have hcz : cs.size = s.size := by rw [hcs, size_madeCells, e3]; simp
  rw [← hcs]
  refine Zv (.slice (some ⟨b, 0, none⟩) s.size s.size) (ZR (Zv (.slice (some ⟨b, 0, none⟩) s.size s.size) (Zv (.string s) (s_copyS (b := b) (cap := s.size) (s := s) (cs := cs) (by kernel_rfl) rfl (by kernel_rfl) (by kernel_rfl) Tryz.underlying137 (by kernel_rfl) hcz (ZN (z6 (z7 ?_)))))))
  exact Zv (.slice (some ⟨b, 0, none⟩) s.size s.size) (zV (.pointer (some ⟨b, 0, none⟩)) (by kernel_rfl) (ZV (b := b) (off := 0) (n := s.size) (c := s.size) (k := .i64) (j := 0) (e := 5) (sz := 1)) (Zv (.slice (some ⟨b, 0, none⟩) s.size s.size) (Zv (.int .i64 (s.size : Int)) (s_ustr (s := s) (by kernel_rfl) rfl (by kernel_rfl) (by kernel_rfl) Tryz.underlying164 (by unfold Program.cellsOf; simp [e1, e3]) (by omega) (by omega) (Zv (.string s) (ZN (zB (ZF (.string s) Tryz.results114 (fun w hO => ⟨rfl, hO.below⟩)))))))))
theorem u6 (s : ByteArray) (w : World) (hs : s.size ≤ 281474976710656) :
    Calls Tryz.prog 65 #[.string s] w fun e w' => e = .returned (.string s) ∧ Below w.heap.size w w' := by
  refine zP (n := 5) Tryz.func65 rfl (by kernel_rfl) (by kernel_rfl) (ZO (Zv (.string ⟨#[]⟩) (ZR (Zv (.string s) (Zc (k := 114) (args := #[.string s]) (.string s) (fun w _ => sclone_any s w hs) (Zv (.string s) (zR ?_)))))))
  exact zA (zB (ZF (.string s) Tryz.results65 (fun w hO => ⟨rfl, hO.below⟩)))
end
section
def digs (a b c : Int) : List (List UInt8) := [Lib.itoa a, Lib.itoa b, Lib.itoa c]
theorem digits_mk (n : Int) (h0 : -9223372036854775808 ≤ n) (h1 : n ≤ 9223372036854775807) (w : World) (ht : HasTab w) :
    Calls Tryz.prog 112 #[.int .i64 n] w fun e w' => e = .returned (.string (mkS (Lib.itoa n))) ∧ Below w.heap.size w w' := digits_any n h0 h1 w ht
theorem dec_len (n : Nat) (h : n ≤ 9999) : (Lib.decDigits n).length ≤ 4 := by
  rw [Lib.decDigits_length]
  unfold Lib.nDigits
  split
  · omega
  · unfold Lib.nDigits
    split
    · omega
    · unfold Lib.nDigits
      split
      · omega
      · rw [Lib.nDigits_small (by omega)]; omega
theorem tM {n : Int} (h : yG n = true) : (Lib.itoa n).length ≤ 4 := by
  rw [tL h]
  apply dec_len
  unfold yG at h; simp at h; omega
end
section
def parV (s : List UInt8) : Ver := (parseR s).getD Ver.zero
def parE (s : List UInt8) : Int := if (parseR s).isSome then 0 else 5
theorem mkS_ne {a b : List UInt8} (h : a ≠ b) : ((mkS a).toList == (mkS b).toList) = false := by
  rw [Lib.toList_data, Lib.toList_data, mk_data, mk_data]; simpa using h
def PEnd (s : List UInt8) (w : World) (e : Ending) (w' : World) : Prop := e = .returned (.tuple #[yJ (parV s), .int .i64 (parE s)]) ∧ Below w.heap.size w w'
theorem qK (a b c : Int) (p q : ByteArray) : (#[.int .i64 a, .int .i64 b, .int .i64 c, .string p, .string q] : Array Value).all (·.oneCell') = true := by simp [Value.oneCell']
theorem set34 {w1 : World} {B : Nat} {a b c x0 y0 : Value} (x y : Value) (hg : w1.heap[B]? = some (.cells #[a, b, c, x0, y0] 44)) :
    ((w1.setCell ⟨B, 3, none⟩ x).setCell ⟨B, 4, none⟩ y).heap[B]? = some (.cells #[a, b, c, x, y] 44) ∧ ∀ k, B ≠ k → ((w1.setCell ⟨B, 3, none⟩ x).setCell ⟨B, 4, none⟩ y).heap[k]? = w1.heap[k]? := by
  have e3 := setCell_eq_setRow w1 B 3 _ _ _ x hg
  have hq3 := setRow_heap w1 B _ #[a, b, c, x, y0] _ _ hg
  have e4 := setCell_eq_setRow _ B 4 _ _ _ y hq3
  have hwv : (w1.setCell ⟨B, 3, none⟩ x).setCell ⟨B, 4, none⟩ y = (w1.setRow B #[a, b, c, x, y0]).setRow B #[a, b, c, x, y] := by rw [e3]; exact e4
  rw [hwv]
  exact ⟨setRow_heap _ _ _ _ _ _ hq3, fun k hk => by rw [vI _ _ _ _ hk, vI _ _ _ _ hk]⟩
theorem tS (v : Ver) (w : World) (hp : v.pre.length ≤ 1000000) :
    Calls Tryz.prog 232 #[yJ v] w fun e w' => e = .returned (yJ { v with build := [] }) ∧ Below w.heap.size w w' := by
  obtain ⟨a, b, c, p, q⟩ := v
  unfold yJ
  dsimp only at hp ⊢
  go_enter Tryz.func232, Tryz.ntmps232
  go_wp2_with fail
  refine (u6 (mkS p) _ (by rw [xP]; omega)).mono ?_
  rintro e w1 ⟨rfl, hb1⟩
  have hz1 := hb1.size
  simp only [yA] at hz1
  have hgB := Lib.hid ((hb1.block w.heap.size (by simp only [yA]; omega)).trans ((kI _ _ (by simp only [yA]; omega)).trans (gX w _)))
  have hgR := Lib.hid ((hb1.block (w.heap.size + 1) (by simp only [yA]; omega)).trans (bB _ _ _ (by simp only [yA])))
  have hbw : Below w.heap.size w w1 := (((Below.refl _ _).alloc (Nat.le_refl _) _).alloc (by simp only [yA]; omega) _).trans (hb1.mono (by simp only [yA]; omega))
  obtain ⟨c3, f3⟩ := xH (j := 3) hgB.out (by simp)
  obtain ⟨c4, f4⟩ := xH (j := 4) hgB.out (by simp)
  obtain ⟨hL, hO⟩ := set34 (.string (mkS p)) (.string ⟨#[]⟩) hgB.out
  have HL := Lib.hid hL
  have HL0 := Lib.hid ((hO (w.heap.size + 1) (by omega)).trans hgR.out)
  have hbL : Below w.heap.size w ((w1.setCell ⟨w.heap.size, 3, none⟩ (.string (mkS p))).setCell ⟨w.heap.size, 4, none⟩ (.string ⟨#[]⟩)) := (hbw.setCell (by simp) _).setCell (by simp) _
  clear hL hO
  go_wp2_with (first
    | (refine wpList_load_row rfl 44 _ rfl w.heap.size rfl _ _ _ _ HL.out Tryz.underlying44 rfl (by kernel_rfl) ?_)
    | (refine wpList_store_row rfl 44 _ _ rfl (w.heap.size + 1) #[.int .i64 a, .int .i64 b, .int .i64 c, .string (mkS p), .string ⟨#[]⟩] rfl rfl _ _ HL0.out (by kernel_rfl) rfl (qK _ _ _ _ _) ?_))
  have hr := results_cell_row (P := Tryz.prog) (fn := Tryz.f232) Tryz.results232
  refine bodyPost_ret (v := .agg #[.int .i64 a, .int .i64 b, .int .i64 c, .string (mkS p), .string ⟨#[]⟩]) (hr _ _ (w.heap.size + 1) _ _ _ _ rfl (setRow_heap _ _ _ _ _ _ HL0.out) Tryz.underlying44 rfl (by kernel_rfl)) rfl ⟨rfl, gZ hbL (by omega) _⟩
end
section
def ReadsI (w : World) (B : Nat) (v : Value) (l : List Int) : Prop :=
  ∃ A cap, v = .slice A l.length cap ∧ (0 < l.length → ∃ ad : Addr, A = some ad ∧ ad.block < B ∧ ∀ j (h : j < l.length), w.cell? (ad.add j) = some (.int .i64 l[j]))
theorem add_block (a : Addr) (n : Nat) : (a.add n).block = a.block := by unfold Addr.add; split <;> rfl
theorem ReadsI.below {w w' : World} {B : Nat} {v : Value} {l : List Int} (h : ReadsI w B v l) (hb : Below B w w') : ReadsI w' B v l := by
  obtain ⟨A, cap, hv, hc⟩ := h
  exact ⟨A, cap, hv, fun hpos => by
    obtain ⟨ad, hA, hlt, hcc⟩ := hc hpos
    exact ⟨ad, hA, hlt, fun j hj => (hb.cell (by rw [add_block]; exact hlt)).trans (hcc j hj)⟩⟩
theorem ReadsI.more {w : World} {B B' : Nat} {v : Value} {l : List Int} (h : ReadsI w B v l) (hB : B ≤ B') : ReadsI w B' v l := by
  obtain ⟨A, cap, hv, hc⟩ := h
  exact ⟨A, cap, hv, fun hpos => by
    obtain ⟨ad, hA, hlt, hcc⟩ := hc hpos
    exact ⟨ad, hA, Nat.lt_of_lt_of_le hlt hB, hcc⟩⟩
def atL (l : List Int) (i : Nat) : Int := (l[i]?).getD 0
def plc (v n : Int) : Int := if v.tmod n < 0 then v.tmod n + n else v.tmod n
theorem tmod_in (v n : Int) (hn : 0 < n) : -n < v.tmod n ∧ v.tmod n < n := by
  rcases Int.lt_or_le v 0 with h | h
  · have h3 := Int.tmod_lt_of_pos (-v) hn
    have h4 := Int.tmod_nonneg n (show 0 ≤ -v by omega)
    rw [Int.neg_tmod] at h3 h4; omega
  · have h3 := Int.tmod_lt_of_pos v hn
    have h4 := Int.tmod_nonneg n h
    omega
theorem plc_in (v n : Int) (hn : 0 < n) : 0 ≤ plc v n ∧ plc v n < n := by
  obtain ⟨h1, h2⟩ := tmod_in v n hn
  unfold plc
  split <;> omega
theorem place_any (v n : Int) (w : World) (hn : 0 < n) (hn2 : n ≤ 1000000) :
    Calls Tryz.prog 90 #[.int .i64 v, .int .i64 n] w fun e w' => e = .returned (.int .i64 (plc v n)) ∧ w = w' := by
  obtain ⟨h1, h2⟩ := tmod_in v n hn
  have HP : Hid (plc v n = if v.tmod n < 0 then v.tmod n + n else v.tmod n) := rfl
  have hn0 : (n == 0) = false := by simp; omega
  have hw : IntKind.i64.wrap (v.tmod n) = v.tmod n := IntWalk.i64_in _ (by omega)
  obtain ⟨m, hm⟩ : ∃ m, v.tmod n = m := ⟨_, rfl⟩
  rw [hm] at h1 h2 HP hw
  by_cases h0 : m < 0
  · have hs : 0 ≤ m + n := by omega
    have hs2 : m + n ≤ 1000000 := by omega
    go_enter Tryz.func90, Tryz.ntmps90
    go_wp2
    go_ret
    exact ⟨gB (by rw [HP.out, if_pos h0]), rfl⟩
  · go_enter Tryz.func90, Tryz.ntmps90
    go_wp2
    go_ret
    exact ⟨gB (by rw [HP.out, if_neg (by omega)]), rfl⟩
theorem at_any (v : Value) (l : List Int) (i : Nat) (w : World) (hv : ReadsI w w.heap.size v l) (hl : l.length ≤ 9223372036854775807) (hi : i ≤ 1000000) :
    Calls Tryz.prog 91 #[v, .int .i64 i] w fun e w' => e = .returned (.int .i64 (atL l i)) ∧ w = w' := by
  obtain ⟨A, cap, rfl, hc⟩ := hv
  by_cases h : i < l.length
  · obtain ⟨ad, rfl, hlt, hcc⟩ := hc (by omega)
    have hcell := hcc i h
    have hi1 : (i : Int) < l.length := by omega
    have hi2 : ¬ (l.length : Int) ≤ i := by omega
    have HA : Hid (atL l i = l[i]) := by show _ = _; unfold atL; rw [List.getElem?_eq_getElem h]; rfl
    clear hc hcc
    go_enter Tryz.func91, Tryz.ntmps91
    go_wp2
    go_ret
    exact ⟨gB HA.out.symm, rfl⟩
  · have hi1 : (l.length : Int) ≤ i := by omega
    have HA : Hid (atL l i = 0) := by show _ = _; unfold atL; rw [List.getElem?_eq_none (by omega)]; rfl
    clear hc
    go_enter Tryz.func91, Tryz.ntmps91
    go_wp2
    go_ret
    exact ⟨gB HA.out.symm, rfl⟩
def i64in (n : Int) : Prop := -9223372036854775808 ≤ n ∧ n ≤ 9223372036854775807
theorem from_any (v : Value) (l : List Int) (i : Nat) (n : Int) (w : World) (hv : ReadsI w w.heap.size v l) (hl : l.length ≤ 9223372036854775807) (hi : i ≤ 1000000) (hn : 0 < n) (hn2 : n ≤ 1000000) :
    Calls Tryz.prog 51 #[v, .int .i64 i, .int .i64 n] w fun e w' => e = .returned (.int .i64 (plc (atL l i) n)) ∧ w = w' := by
  have cA := at_any v l i w hv hl hi
  obtain ⟨A, cap, rfl, hc⟩ := hv
  clear hc
  go_enter Tryz.func51, Tryz.ntmps51
  go_wp2_with fail
  refine cA.mono ?_
  rintro e w1 ⟨rfl, rfl⟩
  go_wp2_with fail
  refine (place_any _ n _ hn hn2).mono ?_
  rintro e w1 ⟨rfl, rfl⟩
  go_wp2
  go_ret
  exact ⟨rfl, rfl⟩
def wC (k : Nat) : Int := (([0, 1, 2, 3, 0, 1, 10, 9999] : List Int)[k]?).getD 0
def wB (k : Nat) : List UInt8 := (([[], [], [], [], [48], [49], [50], [49, 49], [97], [97, 46, 49], [97, 46, 98], [98], [48, 46, 48], [114, 99, 46, 49]] : List (List UInt8))[k]?).getD []
def bldT (k : Nat) : List UInt8 := (([[], [], [], [], [48, 48, 55], [120, 46, 49]] : List (List UInt8))[k]?).getD []
def zO (l : List Int) (i : Nat) : Ver := ⟨wC (plc (atL l i) 8).toNat, wC (plc (atL l (i + 1)) 8).toNat, wC (plc (atL l (i + 2)) 8).toNat, wB (plc (atL l (i + 3)) 14).toNat, bldT (plc (atL l (i + 4)) 6).toNat⟩
def GEnd (u : Ver) (w : World) (e : Ending) (w' : World) : Prop := e = .returned (yJ u) ∧ Below w.heap.size w w'
end
section
end
section
end
section
end
section
theorem numT_ok : ∀ k, k < 8 → yG (wC k) = true := by decide +kernel
theorem preT_ok : ∀ k, k < 14 → v8 (wB k) = true ∧ (wB k).length ≤ 300 := by decide +kernel
theorem bldT_ok : ∀ k, k < 6 → gO (bldT k) = true ∧ (bldT k).length ≤ 300 := by decide +kernel
theorem dR (v n : Int) (m : Nat) (hn : 0 < n) (hm : n = m) : (plc v n).toNat < m := by
  obtain ⟨h1, h2⟩ := plc_in v n hn; omega
theorem gen_may (l : List Int) (i : Nat) : (zO l i).may = true := by
  unfold zO Ver.may
  dsimp only
  rw [numT_ok _ (dR _ 8 8 (by omega) rfl), numT_ok _ (dR _ 8 8 (by omega) rfl), numT_ok _ (dR _ 8 8 (by omega) rfl), (preT_ok _ (dR _ 14 14 (by omega) rfl)).1, (bldT_ok _ (dR _ 6 6 (by omega) rfl)).1]
  rfl
theorem gen_pre (l : List Int) (i : Nat) : (zO l i).pre.length ≤ 300 := (preT_ok _ (dR _ 14 14 (by omega) rfl)).2
end
section
structure Cu where
  e : Int
  v : Ver
  aft : Bool
deriving DecidableEq
def Cu.may (c : Cu) : Bool := if c.e = 0 then c.v.may && c.v.build.isEmpty else decide (c.e = -1 ∨ c.e = 1) && decide (c.v = Ver.zero) && !c.aft
def b01 (b : Bool) : Int := if b then 1 else 0
def lex (x y : Int) : Int := if x = 0 then y else x
def zM (a b : Cu) : Int := if a.may && b.may then lex (Lib.compareInt a.e b.e) (lex (xQ a.v b.v) (Lib.compareInt (b01 a.aft) (b01 b.aft))) else 0
theorem zero_may : Ver.zero.may = true := by decide
theorem vT {c : Cu} (h : c.may = true) : c.v.may = true := by
  unfold Cu.may at h
  split at h
  · rw [Bool.and_eq_true] at h; exact h.1
  · simp only [Bool.and_eq_true, decide_eq_true_eq] at h; rw [h.1.2]; exact zero_may
theorem tJ {c : Cu} (h : c.may = true) : (c.e = 0 ∧ c.v.build = []) ∨ ((c.e = -1 ∨ c.e = 1) ∧ c.v = Ver.zero ∧ c.aft = false) := by
  unfold Cu.may at h
  split at h
  · rename_i h0; rw [Bool.and_eq_true] at h; exact .inl ⟨h0, List.isEmpty_iff.1 h.2⟩
  · simp only [Bool.and_eq_true, decide_eq_true_eq, Bool.not_eq_true'] at h; exact .inr ⟨h.1.1, h.1.2, h.2⟩
theorem vK {c : Cu} (h : c.may = true) : c.v.build = [] := by
  rcases tJ h with h | h
  · exact h.2
  · rw [h.2.1]; rfl
theorem wK {v w : Ver} : xQ v w = -1 ∨ xQ v w = 0 ∨ xQ v w = 1 := by
  by_cases hv : v.may = true
  · by_cases hw : w.may = true
    · rw [uG hv hw]; exact cmpL_range _ _
    · exact .inr (.inl (tT (.inr (by simpa using hw))))
  · exact .inr (.inl (tT (.inl (by simpa using hv))))
theorem ci_range (x y : Int) : Lib.compareInt x y = -1 ∨ Lib.compareInt x y = 0 ∨ Lib.compareInt x y = 1 := by
  unfold Lib.compareInt
  by_cases h : x < y
  · rw [if_pos h]; simp
  · rw [if_neg h]
    by_cases h2 : y < x
    · rw [if_pos h2]; simp
    · rw [if_neg h2]; simp
theorem qV {a b : Cu} (ha : a.may = true) (hb : b.may = true) : zM a b = lex (Lib.compareInt a.e b.e) (lex (xQ a.v b.v) (Lib.compareInt (b01 a.aft) (b01 b.aft))) := by
  unfold zM; rw [ha, hb]; rfl
theorem wL (a b : Cu) : zM a b = -1 ∨ zM a b = 0 ∨ zM a b = 1 := by
  unfold zM lex
  have h1 := ci_range a.e b.e
  have h2 := wK (v := a.v) (w := b.v)
  have h3 := ci_range (b01 a.aft) (b01 b.aft)
  split
  · split
    · split
      · exact h3
      · exact h2
    · exact h1
  · simp
structure Ord3 {α : Type} (c : α → α → Int) : Prop where
  anti : ∀ x y, c y x = - c x y
  on : ∀ x y z, c x y ≤ 0 → c y z ≤ 0 → c x z ≤ 0 ∧ (c x z = 0 → c x y = 0 ∧ c y z = 0)
  same : ∀ x y z, c x y = 0 → c y z = 0 → c x z = 0
theorem lex_ord {α : Type} {c d : α → α → Int} (hc : Ord3 c) (hd : Ord3 d) : Ord3 (fun x y => lex (c x y) (d x y)) := by
  refine ⟨fun x y => ?_, fun x y z h1 h2 => ?_, fun x y z h1 h2 => ?_⟩
  · have a := hc.anti x y; have b := hd.anti x y
    show lex (c y x) (d y x) = - lex (c x y) (d x y)
    unfold lex
    by_cases h : c x y = 0
    · rw [if_pos h, if_pos (by omega)]; exact b
    · rw [if_neg h, if_neg (by omega)]; exact a
  · have a := hc.on x y z; have b := hd.on x y z; have s := hc.same x y z
    show lex _ _ ≤ 0 ∧ (lex _ _ = 0 → lex _ _ = 0 ∧ lex _ _ = 0)
    replace h1 : lex (c x y) (d x y) ≤ 0 := h1
    replace h2 : lex (c y z) (d y z) ≤ 0 := h2
    unfold lex at h1 h2 ⊢
    by_cases p : c x y = 0
    · by_cases q : c y z = 0
      · rw [if_pos p] at h1 ⊢; rw [if_pos q] at h2 ⊢; rw [if_pos (s p q)]; exact b h1 h2
      · rw [if_pos p] at h1 ⊢; rw [if_neg q] at h2 ⊢
        obtain ⟨a1, a2⟩ := a (by omega) h2
        have : c x z ≠ 0 := fun e => q (a2 e).2
        rw [if_neg this]; exact ⟨a1, fun e => absurd e this⟩
    · rw [if_neg p] at h1 ⊢
      have h2' : c y z ≤ 0 := by
        by_cases q : c y z = 0
        · omega
        · rw [if_neg q] at h2; exact h2
      obtain ⟨a1, a2⟩ := a h1 h2'
      have : c x z ≠ 0 := fun e => p (a2 e).1
      rw [if_neg this]; exact ⟨a1, fun e => absurd e this⟩
  · have s := hc.same x y z; have t := hd.same x y z
    show lex _ _ = 0
    replace h1 : lex (c x y) (d x y) = 0 := h1
    replace h2 : lex (c y z) (d y z) = 0 := h2
    unfold lex at h1 h2 ⊢
    by_cases p : c x y = 0
    · by_cases q : c y z = 0
      · rw [if_pos p] at h1; rw [if_pos q] at h2; rw [if_pos (s p q)]; exact t h1 h2
      · rw [if_neg q] at h2; exact absurd h2 q
    · rw [if_neg p] at h1; exact absurd h1 p
theorem ci_ord {α : Type} (f : α → Int) : Ord3 (fun x y => Lib.compareInt (f x) (f y)) := by
  refine ⟨fun x y => ?_, fun x y z => ?_, fun x y z => ?_⟩ <;> unfold Lib.compareInt <;> (repeat' split) <;> omega
theorem cmpL_ord {α : Type} (f : α → List Nat) : Ord3 (fun x y => kY (f x) (f y)) := by
  refine ⟨fun x y => cmpL_anti _ _, fun x y z => cmpL_trans _ _ _, fun x y z h1 h2 => ?_⟩
  show kY (f x) (f z) = 0
  rw [cmpL_zero _ _ h1, cmpL_zero _ _ h2]; exact cmpL_self _
def cmpK (a b : Cu) : Int := lex (Lib.compareInt a.e b.e) (lex (kY a.v.key b.v.key) (Lib.compareInt (b01 a.aft) (b01 b.aft)))
theorem cmpK_ord : Ord3 cmpK := lex_ord (ci_ord (fun c : Cu => c.e)) (lex_ord (cmpL_ord (fun c : Cu => c.v.key)) (ci_ord (fun c : Cu => b01 c.aft)))
theorem cmpC_K {a b : Cu} (ha : a.may = true) (hb : b.may = true) : zM a b = cmpK a b := by
  rw [qV ha hb, uG (vT ha) (vT hb)]; rfl
theorem yT {a b : Cu} (h : a.may = false ∨ b.may = false) : zM a b = 0 := by
  unfold zM
  rcases h with h | h <;> rw [h] <;> simp
theorem xJ {a b : Cu} : zM b a = - zM a b := by
  cases ha : a.may with
  | true =>
    cases hb : b.may with
    | true => rw [cmpC_K ha hb, cmpC_K hb ha]; exact cmpK_ord.anti _ _
    | false => rw [yT (.inl hb), yT (.inr hb)]; rfl
  | false => rw [yT (a := a) (.inl ha), yT (b := a) (.inr ha)]; rfl
theorem cut_on {a b c : Cu} (ha : a.may = true) (hb : b.may = true) (hc : c.may = true) (h1 : zM a b ≤ 0) (h2 : zM b c ≤ 0) : zM a c ≤ 0 ∧ (zM a c = 0 → zM a b = 0 ∧ zM b c = 0) := by
  rw [cmpC_K ha hb] at h1 ⊢; rw [cmpC_K hb hc] at h2 ⊢; rw [cmpC_K ha hc]; exact cmpK_ord.on _ _ _ h1 h2
theorem dZ (x : Int) : lex (-1) x = -1 := rfl
theorem mQ (x : Int) : lex 1 x = 1 := rfl
theorem lex_0 (x : Int) : lex 0 x = x := rfl
theorem lex_zero {x y : Int} : lex x y = 0 ↔ x = 0 ∧ y = 0 := by
  unfold lex
  split
  · rename_i h; exact ⟨fun e => ⟨h, e⟩, fun e => e.2⟩
  · rename_i h; exact ⟨fun e => absurd e h, fun e => absurd e.1 h⟩
theorem b01_eq {a b : Bool} (h : b01 a = b01 b) : a = b := by cases a <;> cases b <;> simp [b01] at h ⊢
theorem cut_eq {a b : Cu} (ha : a.may = true) (hb : b.may = true) : zM a b = 0 ↔ a = b := by
  constructor
  · intro h
    rw [qV ha hb, lex_zero, lex_zero] at h
    obtain ⟨h1, h2, h3⟩ := h
    have e2 := cmpR_zero (vT ha) (vT hb) h2
    have e1 := kE h1
    have e3 := b01_eq (kE h3)
    have ba := vK ha
    have bb := vK hb
    obtain ⟨ae, ⟨a1, a2, a3, a4, a5⟩, aa⟩ := a
    obtain ⟨be, ⟨b1, b2, b3, b4, b5⟩, ba'⟩ := b
    unfold kP at e2
    dsimp only at *
    simp only [Ver.mk.injEq] at e2
    obtain ⟨rfl, rfl, rfl, rfl, _⟩ := e2
    subst ba bb e1 e3
    rfl
  · rintro rfl
    have := xJ (a := a) (b := a)
    omega
def y5 (e : Int) : Cu := ⟨e, Ver.zero, false⟩
def bE (v : Ver) : Cu := ⟨0, kP v, false⟩
theorem mU : (y5 (-1)).may = true := by decide
theorem wE : (y5 1).may = true := by decide
theorem qO {v : Ver} (h : v.may = true) : (bE v).may = true := by
  unfold bE Cu.may
  rw [if_pos rfl, m6 h]; rfl
theorem hJ {a : Cu} (ha : a.may = true) : zM (y5 (-1)) a ≤ 0 := by
  rw [qV mU ha]
  rcases tJ ha with ⟨h, _⟩ | ⟨h | h, h2, h3⟩
  · have : Lib.compareInt (y5 (-1)).e a.e = -1 := fK (by show (-1 : Int) < a.e; omega)
    rw [this, dZ]; decide
  · rw [show (y5 (-1)).e = a.e from h.symm, yN, h2, h3]; decide
  · have : Lib.compareInt (y5 (-1)).e a.e = -1 := fK (by show (-1 : Int) < a.e; omega)
    rw [this, dZ]; decide
theorem le_last {a : Cu} (ha : a.may = true) : zM a (y5 1) ≤ 0 := by
  rw [qV ha wE]
  rcases tJ ha with ⟨h, _⟩ | ⟨h | h, h2, h3⟩
  · have : Lib.compareInt a.e (y5 1).e = -1 := fK (by show a.e < (1 : Int); omega)
    rw [this, dZ]; decide
  · have : Lib.compareInt a.e (y5 1).e = -1 := fK (by show a.e < (1 : Int); omega)
    rw [this, dZ]; decide
  · rw [show (y5 1).e = a.e from h.symm, yN, h2, h3]; decide
def xK (c : Cu) (v : Ver) : Bool := c.may && v.may && (if c.e = 0 then decide (xQ c.v v < 0 ∨ (xQ c.v v = 0 ∧ c.aft = false)) else decide (c.e < 0))
theorem cmpR_coreR {a v : Ver} (ha : a.may = true) (hv : v.may = true) : xQ a (kP v) = xQ a v := by
  rw [uG ha (m6 hv), uG ha hv]; rfl
theorem dL {c : Cu} {v : Ver} (hc : c.may = true) (hv : v.may = true) : xK c v = decide (zM c (bE v) ≤ 0) := by
  rw [qV hc (qO hv)]
  unfold xK
  rw [hc, hv]
  show (true && true && _) = decide (lex (Lib.compareInt c.e 0) (lex (xQ c.v (kP v)) (Lib.compareInt (b01 c.aft) (b01 false))) ≤ 0)
  rw [cmpR_coreR (vT hc) hv]
  rcases tJ hc with ⟨h, _⟩ | ⟨h, h2, h3⟩
  · rw [if_pos h, h, yN]
    unfold lex
    rw [if_pos rfl]
    rcases wK (v := c.v) (w := v) with e | e | e <;> rw [e] <;> cases c.aft <;> decide
  · rw [if_neg (by omega)]
    rcases h with h | h <;> rw [h]
    · rw [show Lib.compareInt (-1) 0 = -1 from by decide]; unfold lex; simp
    · rw [show Lib.compareInt 1 0 = 1 from by decide]; unfold lex; simp
theorem ahead_on {a b : Cu} {v : Ver} (ha : a.may = true) (hb : b.may = true) (hv : v.may = true) (h : zM a b ≤ 0) (h2 : xK b v = true) : xK a v = true := by
  rw [dL hb hv, decide_eq_true_eq] at h2
  rw [dL ha hv, decide_eq_true_eq]
  exact (cut_on ha hb (qO hv) h h2).1
def qI (a b : Cu) : Bool := if a.e = b.e then (if xQ a.v b.v = -1 then true else if xQ a.v b.v = 1 then false else !a.aft && b.aft) else decide (a.e < b.e)
theorem d8 {a b : Cu} (ha : a.may = true) (hb : b.may = true) : zM a b = if qI a b then -1 else if qI b a then 1 else 0 := by
  rw [qV ha hb]
  have hanti := order_anti (vT ha) (vT hb)
  by_cases he : a.e = b.e
  · unfold qI
    rw [if_pos he, if_pos he.symm, he, yN, hanti, lex_0]
    rcases wK (v := a.v) (w := b.v) with e | e | e <;> rw [e] <;> cases a.aft <;> cases b.aft <;> rfl
  · have l1 : qI a b = decide (a.e < b.e) := by unfold qI; rw [if_neg he]
    have l2 : qI b a = decide (b.e < a.e) := by unfold qI; rw [if_neg (fun h => he h.symm)]
    rw [l1, l2]
    rcases Int.lt_or_gt_of_ne he with h | h
    · rw [fK h, dZ, decide_eq_true h]; rfl
    · rw [ci_gt h, mQ, decide_eq_true h, decide_eq_false (by omega)]; rfl
structure Sp where
  lo : Cu
  hi : Cu
def Sp.may (s : Sp) : Bool := decide (zM s.lo s.hi = -1)
def q9 (s : Sp) (v : Ver) : Bool := s.may && xK s.lo v && !xK s.hi v
theorem y6 {s : Sp} (h : s.may = true) : s.lo.may = true ∧ s.hi.may = true := by
  unfold Sp.may at h
  rw [decide_eq_true_eq] at h
  constructor
  · cases e : s.lo.may with
    | true => rfl
    | false => rw [yT (.inl e)] at h; omega
  · cases e : s.hi.may with
    | true => rfl
    | false => rw [yT (.inr e)] at h; omega
theorem pZ (s : Sp) : (s.lo.may && s.hi.may && decide (zM s.lo s.hi < 0)) = s.may := by
  cases h : s.may with
  | true =>
    obtain ⟨h1, h2⟩ := y6 h
    unfold Sp.may at h
    rw [decide_eq_true_eq] at h
    rw [h1, h2, h]; rfl
  | false =>
    unfold Sp.may at h
    rw [decide_eq_false_iff_not] at h
    have : ¬ zM s.lo s.hi < 0 := by rcases wL s.lo s.hi with e | e | e <;> omega
    rw [decide_eq_false this, Bool.and_false]
theorem d9 (s : Sp) (v : Ver) : (s.may && v.may && xK s.lo v && !xK s.hi v) = q9 s v := by
  unfold q9
  cases hv : v.may with
  | true => rw [Bool.and_true]
  | false =>
    have : xK s.lo v = false := by unfold xK; rw [hv]; simp
    rw [this]; simp
theorem beside {v w : Ver} (hv : v.may = true) (hw : w.may = true) : (Sp.mk ⟨0, kP v, false⟩ ⟨0, kP v, true⟩).may = true ∧ q9 ⟨⟨0, kP v, false⟩, ⟨0, kP v, true⟩⟩ w = decide (xQ v w = 0) := by
  have m1 : (Cu.mk 0 (kP v) false).may = true := qO hv
  have m2 : (Cu.mk 0 (kP v) true).may = true := by unfold Cu.may; rw [if_pos rfl, m6 hv]; rfl
  have hs : (Sp.mk ⟨0, kP v, false⟩ ⟨0, kP v, true⟩).may = true := by
    unfold Sp.may
    rw [qV m1 m2]
    dsimp only
    rw [order_self]; rfl
  refine ⟨hs, ?_⟩
  unfold q9 xK
  rw [hs, m1, m2, hw]
  dsimp only
  rw [if_pos rfl, if_pos rfl, order_core hv hw]
  rcases wK (v := v) (w := w) with e | e | e <;> rw [e] <;> rfl
theorem between {a b : Cu} {v : Ver} (ha : a.may = true) (hb : b.may = true) (hv : v.may = true) (h1 : xK a v = true) (h2 : xK b v = false) : zM a b = -1 := by
  have h3 : ¬ zM b a ≤ 0 := fun h => by rw [ahead_on hb ha hv h h1] at h2; cases h2
  have := xJ (a := a) (b := b)
  rcases wL a b with e | e | e <;> omega
def genC (l : List Int) (i : Nat) : Cu :=
  if plc (atL l (i + 5)) 9 < 2 then y5 (2 * plc (atL l (i + 5)) 9 - 1) else ⟨0, kP (zO l i), decide (plc (atL l (i + 5)) 2 = 1)⟩
end
section
def EqOk (P : Program) (d : Nat) (xs ys : Array Value) : List Field → List Bool → Prop
  | [], [] => True
  | f :: fs, b :: bs => f.name ≠ "_" ∧ (∃ u v, ∀ w, (part f.type xs f.offset).run P w = .ok u w ∧ (part f.type ys f.offset).run P w = .ok v w ∧ (Op.equalIn d f.type u v).run P w = .ok b w) ∧ EqOk P d xs ys fs bs
  | _, _ => False
theorem eqF {P : Program} {d : Nat} {xs ys : Array Value} : ∀ (fs : List Field) (bs : List Bool), EqOk P d xs ys fs bs → ∀ w, (Op.eqFields d xs ys fs).run P w = .ok (bs.all id) w
  | [], [], _, w => rfl
  | f :: fs, b :: bs, h, w => by
    obtain ⟨h1, ⟨u, v, h2⟩, h3⟩ := h
    obtain ⟨e1, e2, e3⟩ := h2 w
    have ih := eqF fs bs h3 w
    unfold Op.eqFields
    rw [if_pos h1]
    simp only [Sem.run_bind, e1, e2, e3, Result.andThen_ok]
    cases b with
    | false => simp
    | true => simp [ih]
  | [], _ :: _, h, _ => h.elim
  | _ :: _, [], h, _ => h.elim
theorem eq_agg {P : Program} {d : Nat} {t : TypeId} {xs ys : Array Value} {fs : List Field} {bs : List Bool} (hu : P.underlying t = some (.struct fs.toArray)) (hp : P.stoodInHeld t = false) (h : EqOk P d xs ys fs bs) (w : World) :
    (Op.equalIn (d + 1) t (.agg xs) (.agg ys)).run P w = .ok (bs.all id) w := by
  have hf : P.fieldsOf t = fs.toArray := by unfold Program.fieldsOf; rw [hu]
  rw [run_equalIn_struct w d t xs ys (by rw [hf]; exact hu) hp, hf]
  have : fs.toArray.toList = fs := by simp
  rw [this]
  exact eqF fs bs h w
theorem run_eq_op {P : Program} {ρ : Operand → Value} {o : Oper} {t t' : TypeId} {x y : Operand} {xs ys : Array Value} {b : Bool} (ho : o.op = .binOp .eql t x y t') (hx : ρ x = .agg xs) (hy : ρ y = .agg ys) (hm : P.eqGuardType P.depth t = false)
    (h : ∀ w, (Op.equalIn 10000 t (.agg xs) (.agg ys)).run P w = .ok b w) (w : World) : (execOp ρ o).run P w = .ok (.value (.bool b)) w := by
  have h1 := run_eqGuard_agg (P := P) w .eql t x y xs ys hm
  have h2 : (binOp .eql t (.agg xs) (.agg ys)).run P w = .ok (.bool b) w := by rw [run_eql_struct, h w]; rfl
  unfold execOp
  simp only [ho, hx, hy, Sem.run_bind, h1, Result.andThen_ok, h2, Sem.run_pure]
theorem str_beq (a b : List UInt8) : ((mkS a).toList == (mkS b).toList) = decide (a = b) := by
  rw [Lib.toList_data, Lib.toList_data, mk_data, mk_data]
  by_cases h : a = b
  · subst h; simp
  · rw [decide_eq_false h]; simpa using h
theorem guard_str {P : Program} {op : BinOp} {t : TypeId} {x y : Operand} {a b : ByteArray} (w : World) : (eqGuard op t x y (.string a) (.string b)).run P w = .ok () w := by cases op <;> simp [eqGuard]
theorem x4 {P : Program} {ρ : Operand → Value} {o : Oper} {t t' : TypeId} {x y : Operand} {a b : List UInt8} {r : Bool} (ho : o.op = .binOp .eql t x y t') (hx : ρ x = .string (mkS a)) (hy : ρ y = .string (mkS b)) (h : decide (a = b) = r) (w : World) : (execOp ρ o).run P w = .ok (.value (.bool r)) w := by
  unfold execOp
  simp only [ho, hx, hy, Sem.run_bind, guard_str, Result.andThen_ok, binOp_string_eql, Sem.run_pure, str_beq, h]
theorem tV (t : TypeId) (a b : ByteArray) : binOp .neq t (.string a) (.string b) = pure (.bool (!(a.toList == b.toList))) := by simp [binOp, Op.stringOp]
theorem xB {P : Program} {ρ : Operand → Value} {o : Oper} {t t' : TypeId} {x y : Operand} {a b : List UInt8} {r : Bool} (ho : o.op = .binOp .neq t x y t') (hx : ρ x = .string (mkS a)) (hy : ρ y = .string (mkS b)) (h : decide (a = b) = r) (w : World) : (execOp ρ o).run P w = .ok (.value (.bool (!r))) w := by
  unfold execOp
  simp only [ho, hx, hy, Sem.run_bind, guard_str, Result.andThen_ok, tV, Sem.run_pure, str_beq, h]
theorem all5 (a b c d e : Bool) : ([a, b, c, d, e].all id) = (a && (b && (c && (d && e)))) := by simp
theorem all3 (a b c : Bool) : ([a, b, c].all id) = (a && (b && c)) := by simp
theorem ver_dec (u v : Ver) : decide (u = v) = (decide (u.maj = v.maj) && (decide (u.min = v.min) && (decide (u.pat = v.pat) && (decide (u.pre = v.pre) && decide (u.build = v.build))))) := by
  obtain ⟨a, b, c, d, e⟩ := u
  obtain ⟨a', b', c', d', e'⟩ := v
  simp only [Ver.mk.injEq, Bool.decide_and]
theorem int_beq (a b : Int) : (a == b) = decide (a = b) := rfl
theorem eq_ver (u v : Ver) (d : Nat) (w : World) : (Op.equalIn (d + 1 + 1) 44 (yJ u) (yJ v)).run Tryz.prog w = .ok (decide (u = v)) w := by
  have h := eq_agg (P := Tryz.prog) (d := d + 1) (t := 44) (xs := (yJ u).cells) (ys := (yJ v).cells) (bs := [u.maj == v.maj, u.min == v.min, u.pat == v.pat, (mkS u.pre).toList == (mkS v.pre).toList, (mkS u.build).toList == (mkS v.build).toList]) Tryz.underlying44 (by kernel_rfl)
    ⟨by decide, ⟨.int .i64 u.maj, .int .i64 v.maj, fun w => ⟨by kernel_rfl, by kernel_rfl, run_equalIn_int w d _ _ _ _ _ Tryz.underlying3⟩⟩,
     by decide, ⟨.int .i64 u.min, .int .i64 v.min, fun w => ⟨by kernel_rfl, by kernel_rfl, run_equalIn_int w d _ _ _ _ _ Tryz.underlying3⟩⟩,
     by decide, ⟨.int .i64 u.pat, .int .i64 v.pat, fun w => ⟨by kernel_rfl, by kernel_rfl, run_equalIn_int w d _ _ _ _ _ Tryz.underlying3⟩⟩,
     by decide, ⟨.string (mkS u.pre), .string (mkS v.pre), fun w => ⟨by kernel_rfl, by kernel_rfl, run_equalIn_string w d _ _ _ Tryz.underlying9⟩⟩,
     by decide, ⟨.string (mkS u.build), .string (mkS v.build), fun w => ⟨by kernel_rfl, by kernel_rfl, run_equalIn_string w d _ _ _ Tryz.underlying9⟩⟩, trivial⟩ w
  rw [all5, str_beq, str_beq, int_beq, int_beq, int_beq, ← ver_dec] at h
  exact h
def zD (c : Cu) : Value := .agg #[.int .i64 c.e, .int .i64 c.v.maj, .int .i64 c.v.min, .int .i64 c.v.pat, .string (mkS c.v.pre), .string (mkS c.v.build), .bool c.aft]
def yK (s : Sp) : Value := .agg #[.int .i64 s.lo.e, .int .i64 s.lo.v.maj, .int .i64 s.lo.v.min, .int .i64 s.lo.v.pat, .string (mkS s.lo.v.pre), .string (mkS s.lo.v.build), .bool s.lo.aft, .int .i64 s.hi.e, .int .i64 s.hi.v.maj, .int .i64 s.hi.v.min, .int .i64 s.hi.v.pat, .string (mkS s.hi.v.pre), .string (mkS s.hi.v.build), .bool s.hi.aft]
theorem cut_dec (u v : Cu) : decide (u = v) = (decide (u.e = v.e) && (decide (u.v = v.v) && (u.aft == v.aft))) := by
  obtain ⟨a, b, c⟩ := u
  obtain ⟨a', b', c'⟩ := v
  simp only [Cu.mk.injEq, Bool.decide_and]
  cases c <;> cases c' <;> simp
theorem eq_cut (u v : Cu) (d : Nat) (w : World) : (Op.equalIn (d + 1 + 1 + 1) 78 (zD u) (zD v)).run Tryz.prog w = .ok (decide (u = v)) w := by
  have h := eq_agg (P := Tryz.prog) (d := d + 1 + 1) (t := 78) (xs := (zD u).cells) (ys := (zD v).cells) (bs := [u.e == v.e, decide (u.v = v.v), u.aft == v.aft]) Tryz.underlying78 (by kernel_rfl)
    ⟨by decide, ⟨.int .i64 u.e, .int .i64 v.e, fun w => ⟨by kernel_rfl, by kernel_rfl, run_equalIn_int w (d + 1) _ _ _ _ _ Tryz.underlying3⟩⟩,
     by decide, ⟨yJ u.v, yJ v.v, fun w => ⟨by kernel_rfl, by kernel_rfl, eq_ver u.v v.v d w⟩⟩,
     by decide, ⟨.bool u.aft, .bool v.aft, fun w => ⟨by kernel_rfl, by kernel_rfl, run_equalIn_bool' w (d + 1) _ _ _ Tryz.underlying4⟩⟩, trivial⟩ w
  rw [all3, int_beq, ← cut_dec] at h
  exact h
theorem guard_ver : Tryz.prog.eqGuardType Tryz.prog.depth 44 = false := by kernel_rfl
theorem guard_cut : Tryz.prog.eqGuardType Tryz.prog.depth 78 = false := by kernel_rfl
theorem j6 {ρ : Operand → Value} {o : Oper} {t' : TypeId} {x y : Operand} {u v : Ver} {b : Bool} (ho : o.op = .binOp .eql 44 x y t') (hx : ρ x = yJ u) (hy : ρ y = yJ v) (hb : decide (u = v) = b) (w : World) : (execOp ρ o).run Tryz.prog w = .ok (.value (.bool b)) w :=
  run_eq_op ho hx hy guard_ver (fun w => hb ▸ eq_ver u v 9998 w) w
theorem j7 {ρ : Operand → Value} {o : Oper} {t' : TypeId} {x y : Operand} {u v : Cu} {b : Bool} (ho : o.op = .binOp .eql 78 x y t') (hx : ρ x = zD u) (hy : ρ y = zD v) (hb : decide (u = v) = b) (w : World) : (execOp ρ o).run Tryz.prog w = .ok (.value (.bool b)) w :=
  run_eq_op ho hx hy guard_cut (fun w => hb ▸ eq_cut u v 9997 w) w
end
section
theorem dQ {a b : Int} (h : a = b) : Ending.returned (.int .i64 a) = .returned (.int .i64 b) := by rw [h]
theorem pR {B : Nat} {a w : World} (h : Below B a w) : Below B a w.drew := h.drew
theorem wH (b : List UInt8) : (mkS b).toList.isEmpty = b.isEmpty := by rw [Lib.toList_data, mk_data]
theorem compareTag_any (a b : List UInt8) (w : World) (ha : a.length ≤ 1000000) (hb : b.length ≤ 1000000) :
    Calls Tryz.prog 247 #[.string (mkS a), .string (mkS b)] w fun e w' => e = .returned (.int .i64 (p5 a b)) ∧ Below w.heap.size w w' := by
  have la : a.length ≤ maxLen := by unfold maxLen; omega
  have lb : b.length ≤ maxLen := by unfold maxLen; omega
  have HO : Hid (p5 a b = if gK a && gK b then Lib.compareInt (zS a) (zS b) else if gK a && !b.isEmpty then -1 else if gK b && !a.isEmpty then 1 else Lib.compareBytes a b) := rfl
  have ea := wH a
  have eb := wH b
  obtain ⟨na, hna⟩ : ∃ n, zS a = n := ⟨_, rfl⟩
  obtain ⟨nb, hnb⟩ : ∃ n, zS b = n := ⟨_, rfl⟩
  have cC := fun w' => Tryz.strings_Compare (mkS a) (mkS b) w'
  rw [mk_data, mk_data] at cC
  obtain ⟨x, hx⟩ : ∃ n, Lib.compareBytes a b = n := ⟨_, rfl⟩
  have cI := fun w' => Tryz.cmp_Compare_int na nb w'
  obtain ⟨y, hy⟩ : ∃ n, Lib.compareInt na nb = n := ⟨_, rfl⟩
  rw [hx] at cC HO
  rw [hna, hnb, hy] at HO
  rw [hy] at cI
  clear hx hy
  cases hi : gK a <;> cases hj : gK b <;> cases ga : a.isEmpty <;> cases gb : b.isEmpty
  all_goals
    rw [hi, hj, ga, gb] at HO
    have cA := fun w' => j8 a _ hi w' la
    have cB := fun w' => j8 b _ hj w' lb
    rw [hna] at cA
    rw [hnb] at cB
    rw [ga] at ea
    rw [gb] at eb
    clear hi hj ga gb
    go_enter Tryz.func247, Tryz.ntmps247
    go_wp2_with fail
    refine (cA _).mono ?_
    rintro e w1 ⟨rfl, hb1⟩
    go_wp2_with fail
    refine (cB _).mono ?_
    rintro e w2 ⟨rfl, hb2⟩
    have hbw : Below w.heap.size w w2 := hb1.trans (hb2.mono hb1.size)
    go_wp2_with (first
      | (go_at_call 234; refine (cI _).mono ?_; rintro e w3 ⟨rfl, rfl⟩)
      | (go_at_call 251; refine (cC _).mono ?_; rintro e w3 ⟨rfl, rfl⟩))
    go_ret
    exact ⟨dQ (by rw [HO.out]; simp), hbw⟩
theorem lcell_get (l : List (List UInt8)) (k : Nat) (hk : k < 4) : (kR l)[k]? = some (.string (mkS (tg l k))) := by
  match k, hk with
  | 0, _ => rfl
  | 1, _ => rfl
  | 2, _ => rfl
  | 3, _ => rfl
theorem tag_cell {w : World} {B : Nat} {l : List (List UInt8)} {T : TypeId} (h : w.heap[B]? = some (.cells (kR l) T)) (k : Nat) (hk : k < 4) : w.cell? ⟨B, k, none⟩ = some (.string (mkS (tg l k))) := by
  rw [cell_of_row w B k _ _ _ h]; exact lcell_get l k hk
theorem seqP_on (n : Nat) (l m : List (List UInt8)) (h : p5 (tg l 0) (tg m 0) = 0) : fN (n + 1) l m = fN n l.tail m.tail := by
  rw [fN, if_neg (by simpa using h)]
theorem seqP_off (n : Nat) (l m : List (List UInt8)) (h : ¬ p5 (tg l 0) (tg m 0) = 0) : fN (n + 1) l m = p5 (tg l 0) (tg m 0) := by
  rw [fN, if_pos h]
theorem mI (l : List (List UInt8)) (k : Nat) : tg (l.drop k) 0 = tg l k := by unfold tg; simp
theorem cfunc_any (bx by_ : Nat) (l m : List (List UInt8)) (w : World) (hx : w.heap[bx]? = some (.cells (kR l) 168)) (hy : w.heap[by_]? = some (.cells (kR m) 168)) (hl : ∀ i, (tg l i).length ≤ 8) (hm : ∀ i, (tg m i).length ≤ 8) :
    Calls Tryz.prog 246 #[.slice (some ⟨bx, 0, none⟩) 4 4, .slice (some ⟨by_, 0, none⟩) 4 4, .func (.func 247) #[] #[]] w fun e w' => e = .returned (.int .i64 (fN 4 l m)) ∧ Below w.heap.size w w' := by
  have hbx := (Array.getElem?_eq_some_iff.1 hx).1
  have hby := (Array.getElem?_eq_some_iff.1 hy).1
  have HX := Lib.hid hx
  have HY := Lib.hid hy
  have HL := Lib.hid hl
  have HM := Lib.hid hm
  clear hx hy hl hm
  go_enter Tryz.func246, Tryz.ntmps246
  go_wp2
  go_loopw [13] (fun v wr => ∃ k : Nat, k ≤ 4 ∧ v = .int .i64 k ∧ Below w.heap.size w wr ∧ Hid (fN (4 - k) (l.drop k) (m.drop k) = fN 4 l m)) (fun v _ => 4 - (intOf v).toNat)
  case atStart => exact ⟨0, by omega, rfl, Below.refl _ _, rfl⟩
  case round =>
    obtain ⟨k, hk, rfl, hbel, HR⟩ := hrel
    by_cases hk4 : k < 4
    · have hki : (k : Int) < 4 := by omega
      have hkn : ¬ (4 : Int) ≤ k := by omega
      have cx := tag_cell ((hbel.block bx hbx).trans HX.out) k hk4
      have cy := tag_cell ((hbel.block by_ hby).trans HY.out) k hk4
      have lx := HL.out k
      have ly := HM.out k
      obtain ⟨n, hn⟩ : ∃ n, 4 - k = n + 1 := ⟨3 - k, by omega⟩
      have cT := fun w' => compareTag_any (tg l k) (tg m k) w' (by omega) (by omega)
      obtain ⟨o, ho⟩ : ∃ o, p5 (tg l k) (tg m k) = o := ⟨_, rfl⟩
      rw [ho] at cT
      by_cases h0 : o = 0
      · have hq : fN n (l.drop (k + 1)) (m.drop (k + 1)) = fN 4 l m := by
          rw [← HR.out, hn, seqP_on _ _ _ (by rw [mI, mI, ho, h0])]; simp [List.tail_drop]
        have HQ := Lib.hid hq
        have HN := Lib.hid hn
        subst h0
        clear hq hn ho
        go_wp2_with fail
        refine (cT _).mono ?_
        rintro e w1 ⟨rfl, hb1⟩
        go_wp2
        go_roundw
        case rel => exact ⟨k + 1, by omega, by go_num, hbel.trans (hb1.mono hbel.size), by have := HN.out; rw [show 4 - (k + 1) = n from by omega]; exact HQ.out⟩
        case measure => simp [intOf]; omega
      · have hq : o = fN 4 l m := by
          rw [← HR.out, hn, seqP_off _ _ _ (by rw [mI, mI, ho]; exact h0), mI, mI, ho]
        have HQ := Lib.hid hq
        have h0b : (o != 0) = true := by simpa using h0
        clear hq hn ho
        go_wp2_with fail
        refine (cT _).mono ?_
        rintro e w1 ⟨rfl, hb1⟩
        go_wp2
        go_ret
        exact ⟨dQ HQ.out, hbel.trans (hb1.mono hbel.size)⟩
    · have hki : ¬ (k : Int) < 4 := by omega
      obtain rfl : k = 4 := by omega
      go_wp2
      go_ret
      exact ⟨dQ HR.out, hbel⟩
theorem comparePre_go (a b : List UInt8) (w : World) (ha : a.length ≤ 1000000) (hb : b.length ≤ 1000000) (na : a ≠ []) (nb : b ≠ []) :
    Calls Tryz.prog 235 #[.string (mkS a), .string (mkS b)] w fun e w' => e = .returned (.int .i64 (fN 4 (lst a).1 (lst b).1)) ∧ Below w.heap.size w w' := by
  have ea := wH a
  have eb := wH b
  rw [List.isEmpty_eq_false_iff.2 na] at ea
  rw [List.isEmpty_eq_false_iff.2 nb] at eb
  have cA := fun w' => tK a w' (by omega)
  have cB := fun w' => tK b w' (by omega)
  obtain ⟨L, hL⟩ : ∃ L, (lst a).1 = L := ⟨_, rfl⟩
  obtain ⟨M, hM⟩ : ∃ L, (lst b).1 = L := ⟨_, rfl⟩
  rw [hL] at cA
  rw [hM] at cB
  rw [hL, hM]
  have H8 := Lib.hid (tg_len a)
  have H9 := Lib.hid (tg_len b)
  rw [hL] at H8
  rw [hM] at H9
  clear hL hM na nb
  go_enter Tryz.func235, Tryz.ntmps235
  go_wp2_with fail
  refine (cA _).mono ?_
  rintro e w1 ⟨rfl, hb1⟩
  go_wp2_with fail
  refine (cB _).mono ?_
  rintro e w2 ⟨rfl, hb2⟩
  have hz1 := hb1.size
  have hz2 := hb2.size
  rw [yA] at hz2
  have hbw : Below w.heap.size w w2 := (hb1.alloc hb1.size _).trans (hb2.mono (by rw [yA]; omega))
  have hx := (hb2.block w1.heap.size (by rw [yA]; omega)).trans (gX w1 _)
  have hy := gX w2 (.cells #[.string (mkS (tg M 0)), .string (mkS (tg M 1)), .string (mkS (tg M 2)), .string (mkS (tg M 3))] 168)
  have hx2 := (kI w2 (.cells #[.string (mkS (tg M 0)), .string (mkS (tg M 1)), .string (mkS (tg M 2)), .string (mkS (tg M 3))] 168) (by omega : w1.heap.size < w2.heap.size)).trans hx
  have cF := cfunc_any w1.heap.size w2.heap.size L M ((w2.alloc (.cells #[.string (mkS (tg M 0)), .string (mkS (tg M 1)), .string (mkS (tg M 2)), .string (mkS (tg M 3))] 168)).drew) hx2 hy H8.out H9.out
  clear hx hy hx2
  go_wp2_with fail
  go_region_with (refine cF.mono ?_; rintro e w3 ⟨rfl, hb3⟩)
  all_goals
    go_wp2
    go_ret
    exact ⟨rfl, (pR (hbw.alloc (by omega) _)).trans (hb3.mono (by show _ ≤ (w2.alloc _).heap.size; rw [yA]; omega))⟩
theorem comparePre_any (a b : List UInt8) (w : World) (ha : a.length ≤ 1000000) (hb : b.length ≤ 1000000) :
    Calls Tryz.prog 235 #[.string (mkS a), .string (mkS b)] w fun e w' => e = .returned (.int .i64 (cpre a b)) ∧ Below w.heap.size w w' := by
  by_cases h1 : a = []
  · have ea := wH a
    rw [List.isEmpty_iff.2 h1] at ea
    have HC : Hid (cpre a b = 1) := by show _ = _; unfold cpre; rw [if_pos h1]
    clear h1
    go_enter Tryz.func235, Tryz.ntmps235
    go_wp2
    go_ret
    exact ⟨dQ HC.out.symm, Below.refl _ _⟩
  · by_cases h2 : b = []
    · have ea := wH a
      rw [List.isEmpty_eq_false_iff.2 h1] at ea
      have eb := wH b
      rw [List.isEmpty_iff.2 h2] at eb
      have HC : Hid (cpre a b = -1) := by show _ = _; unfold cpre; rw [if_neg h1, if_pos h2]
      clear h1 h2
      go_enter Tryz.func235, Tryz.ntmps235
      go_wp2
      go_ret
      exact ⟨dQ HC.out.symm, Below.refl _ _⟩
    · have hc : cpre a b = fN 4 (lst a).1 (lst b).1 := by unfold cpre; rw [if_neg h1, if_neg h2]
      rw [hc]
      exact comparePre_go a b w ha hb h1 h2
def or3 (x y z : Int) : Int := if x ≠ 0 then x else if y ≠ 0 then y else z
def nthI (x y z : Int) (k : Nat) : Int := if k = 0 then x else if k = 1 then y else z
theorem or_any (B : Nat) (x y z : Int) (w : World) (h : w.heap[B]? = some (.cells #[.int .i64 x, .int .i64 y, .int .i64 z] 3)) :
    Calls Tryz.prog 233 #[.slice (some ⟨B, 0, none⟩) 3 3] w fun e w' => e = .returned (.int .i64 (or3 x y z)) ∧ w = w' := by
  obtain ⟨c0, _⟩ := xH (j := 0) h (by simp)
  obtain ⟨c1, _⟩ := xH (j := 1) h (by simp)
  obtain ⟨c2, _⟩ := xH (j := 2) h (by simp)
  simp only [List.getElem_toArray, List.getElem_cons_succ, List.getElem_cons_zero] at c0 c1 c2
  have HC : Hid (∀ k, k < 3 → w.cell? ⟨B, k, none⟩ = some (.int .i64 (nthI x y z k))) := by
    intro k hk
    match k, hk with
    | 0, _ => exact c0
    | 1, _ => exact c1
    | 2, _ => exact c2
  clear c0 c1 c2 h
  go_enter Tryz.func233, Tryz.ntmps233
  go_wp2
  go_loop [8] (fun v => ∃ k : Nat, k ≤ 3 ∧ v = .int .i64 k ∧ Hid (∀ j, j < k → nthI x y z j = 0)) (fun v => 3 - (intOf v).toNat)
  case atStart => exact ⟨0, by omega, rfl, fun j hj => by omega⟩
  case round =>
    obtain ⟨k, hk, rfl, HR⟩ := hrel
    by_cases hk3 : k < 3
    · have hki : (k : Int) < 3 := by omega
      have hc := HC.out k hk3
      obtain ⟨o, ho⟩ : ∃ o, nthI x y z k = o := ⟨_, rfl⟩
      rw [ho] at hc
      by_cases h0 : o = 0
      · subst h0
        have HO := Lib.hid ho
        clear ho
        go_wp2
        go_round
        case rel => exact ⟨k + 1, by omega, by go_num, fun j hj => by
          by_cases hjk : j < k
          · exact HR.out j hjk
          · obtain rfl : j = k := by omega
            exact HO.out⟩
        case measure => simp [intOf]; omega
      · have h0b : (o != 0) = true := by simpa using h0
        have HO := Lib.hid ho
        clear ho
        go_wp2
        go_ret
        refine ⟨dQ ?_, rfl⟩
        have h1 := HR.out
        have h2 := HO.out
        unfold or3
        match k, hk3 with
        | 0, _ => rw [show x = o from h2, if_pos h0]
        | 1, _ => rw [show x = 0 from h1 0 (by omega), show y = o from h2, if_neg (by simp), if_pos h0]
        | 2, _ => rw [show x = 0 from h1 0 (by omega), show y = 0 from h1 1 (by omega), show z = o from h2]; simp
    · have hki : ¬ (k : Int) < 3 := by omega
      obtain rfl : k = 3 := by omega
      go_wp2
      go_ret
      refine ⟨dQ ?_, rfl⟩
      have h1 := HR.out
      unfold or3
      rw [show x = 0 from h1 0 (by omega), show y = 0 from h1 1 (by omega), show z = 0 from h1 2 (by omega)]; simp
end
section
theorem bL {w w' w2 : World} {A B : Nat} {v1 v2 v3 v4 v5 u1 u2 u3 u4 u5 : Value} (hS : (w'.cell? ⟨A, 0, none⟩ = some v1 ∧ w'.cell? ⟨A, 1, none⟩ = some v2 ∧ w'.cell? ⟨A, 2, none⟩ = some v3 ∧ w'.cell? ⟨A, 3, none⟩ = some v4 ∧ w'.cell? ⟨A, 4, none⟩ = some v5) ∧ (w'.cell? ⟨B, 0, none⟩ = some u1 ∧ w'.cell? ⟨B, 1, none⟩ = some u2 ∧ w'.cell? ⟨B, 2, none⟩ = some u3 ∧ w'.cell? ⟨B, 3, none⟩ = some u4 ∧ w'.cell? ⟨B, 4, none⟩ = some u5) ∧ Below w.heap.size w w' ∧ A < w'.heap.size ∧ B < w'.heap.size) (hb : Below w'.heap.size w' w2) :
    (w2.cell? ⟨A, 0, none⟩ = some v1 ∧ w2.cell? ⟨A, 1, none⟩ = some v2 ∧ w2.cell? ⟨A, 2, none⟩ = some v3 ∧ w2.cell? ⟨A, 3, none⟩ = some v4 ∧ w2.cell? ⟨A, 4, none⟩ = some v5) ∧ (w2.cell? ⟨B, 0, none⟩ = some u1 ∧ w2.cell? ⟨B, 1, none⟩ = some u2 ∧ w2.cell? ⟨B, 2, none⟩ = some u3 ∧ w2.cell? ⟨B, 3, none⟩ = some u4 ∧ w2.cell? ⟨B, 4, none⟩ = some u5) ∧ Below w.heap.size w w2 ∧ A < w2.heap.size ∧ B < w2.heap.size := by
  obtain ⟨⟨a0, a1, a2, a3, a4⟩, ⟨b0, b1, b2, b3, b4⟩, h, hA, hB⟩ := hS
  have k : ∀ C i v, C < w'.heap.size → w'.cell? ⟨C, i, none⟩ = some v → w2.cell? ⟨C, i, none⟩ = some v := fun C i v hC e => (hb.cell (p := ⟨C, i, none⟩) hC).trans e
  exact ⟨⟨k _ _ _ hA a0, k _ _ _ hA a1, k _ _ _ hA a2, k _ _ _ hA a3, k _ _ _ hA a4⟩, ⟨k _ _ _ hB b0, k _ _ _ hB b1, k _ _ _ hB b2, k _ _ _ hB b3, k _ _ _ hB b4⟩, h.trans (hb.mono h.size), Nat.lt_of_lt_of_le hA hb.size, Nat.lt_of_lt_of_le hB hb.size⟩
theorem heap_new_drew (w : World) (o : Obj) : (w.alloc o).drew.heap[w.heap.size]? = some o := gX w o
theorem mF (w : World) (v1 v2 v3 v4 v5 u1 u2 u3 u4 u5 : Value) (T : TypeId) :
    (((w.alloc (.cells #[v1, v2, v3, v4, v5] T)).alloc (.cells #[u1, u2, u3, u4, u5] T)).drew.cell? ⟨w.heap.size, 0, none⟩ = some v1 ∧ ((w.alloc (.cells #[v1, v2, v3, v4, v5] T)).alloc (.cells #[u1, u2, u3, u4, u5] T)).drew.cell? ⟨w.heap.size, 1, none⟩ = some v2 ∧ ((w.alloc (.cells #[v1, v2, v3, v4, v5] T)).alloc (.cells #[u1, u2, u3, u4, u5] T)).drew.cell? ⟨w.heap.size, 2, none⟩ = some v3 ∧ ((w.alloc (.cells #[v1, v2, v3, v4, v5] T)).alloc (.cells #[u1, u2, u3, u4, u5] T)).drew.cell? ⟨w.heap.size, 3, none⟩ = some v4 ∧ ((w.alloc (.cells #[v1, v2, v3, v4, v5] T)).alloc (.cells #[u1, u2, u3, u4, u5] T)).drew.cell? ⟨w.heap.size, 4, none⟩ = some v5) ∧ (((w.alloc (.cells #[v1, v2, v3, v4, v5] T)).alloc (.cells #[u1, u2, u3, u4, u5] T)).drew.cell? ⟨(w.heap.size + 1), 0, none⟩ = some u1 ∧ ((w.alloc (.cells #[v1, v2, v3, v4, v5] T)).alloc (.cells #[u1, u2, u3, u4, u5] T)).drew.cell? ⟨(w.heap.size + 1), 1, none⟩ = some u2 ∧ ((w.alloc (.cells #[v1, v2, v3, v4, v5] T)).alloc (.cells #[u1, u2, u3, u4, u5] T)).drew.cell? ⟨(w.heap.size + 1), 2, none⟩ = some u3 ∧ ((w.alloc (.cells #[v1, v2, v3, v4, v5] T)).alloc (.cells #[u1, u2, u3, u4, u5] T)).drew.cell? ⟨(w.heap.size + 1), 3, none⟩ = some u4 ∧ ((w.alloc (.cells #[v1, v2, v3, v4, v5] T)).alloc (.cells #[u1, u2, u3, u4, u5] T)).drew.cell? ⟨(w.heap.size + 1), 4, none⟩ = some u5) ∧ Below w.heap.size w ((w.alloc (.cells #[v1, v2, v3, v4, v5] T)).alloc (.cells #[u1, u2, u3, u4, u5] T)).drew ∧ w.heap.size < ((w.alloc (.cells #[v1, v2, v3, v4, v5] T)).alloc (.cells #[u1, u2, u3, u4, u5] T)).drew.heap.size ∧ (w.heap.size + 1) < ((w.alloc (.cells #[v1, v2, v3, v4, v5] T)).alloc (.cells #[u1, u2, u3, u4, u5] T)).drew.heap.size := by
  have h0 : ((w.alloc (.cells #[v1, v2, v3, v4, v5] T)).alloc (.cells #[u1, u2, u3, u4, u5] T)).drew.heap[w.heap.size]? = some (.cells #[v1, v2, v3, v4, v5] T) := (kI _ _ (by rw [yA]; omega)).trans (gX w _)
  have h1 : ((w.alloc (.cells #[v1, v2, v3, v4, v5] T)).alloc (.cells #[u1, u2, u3, u4, u5] T)).drew.heap[w.heap.size + 1]? = some (.cells #[u1, u2, u3, u4, u5] T) := bB _ _ _ (by rw [yA])
  have k0 : ∀ i v, (#[v1, v2, v3, v4, v5] : Array Value)[i]? = some v → ((w.alloc (.cells #[v1, v2, v3, v4, v5] T)).alloc (.cells #[u1, u2, u3, u4, u5] T)).drew.cell? ⟨w.heap.size, i, none⟩ = some v := fun i v e => (cell_of_row _ _ i _ _ _ h0).trans e
  have k1 : ∀ i v, (#[u1, u2, u3, u4, u5] : Array Value)[i]? = some v → ((w.alloc (.cells #[v1, v2, v3, v4, v5] T)).alloc (.cells #[u1, u2, u3, u4, u5] T)).drew.cell? ⟨w.heap.size + 1, i, none⟩ = some v := fun i v e => (cell_of_row _ _ i _ _ _ h1).trans e
  have hs : ((w.alloc (.cells #[v1, v2, v3, v4, v5] T)).alloc (.cells #[u1, u2, u3, u4, u5] T)).drew.heap.size = w.heap.size + 2 := by show ((w.alloc _).alloc _).heap.size = _; rw [yA, yA]
  exact ⟨⟨k0 0 _ rfl, k0 1 _ rfl, k0 2 _ rfl, k0 3 _ rfl, k0 4 _ rfl⟩, ⟨k1 0 _ rfl, k1 1 _ rfl, k1 2 _ rfl, k1 3 _ rfl, k1 4 _ rfl⟩, pR (((Below.refl _ _).alloc (Nat.le_refl _) _).alloc (by rw [yA]; omega) _), by omega, by omega⟩
theorem compare_same (a1 a2 a3 : Int) (p q q' : List UInt8) (w : World) (h1 : p.length ≤ 1000000) (h2 : q.length ≤ 1000000) (h4 : q'.length ≤ 1000000) (hm : (Ver.mk a1 a2 a3 p q).may = true) (hn : (Ver.mk a1 a2 a3 p q').may = true) :
    Calls Tryz.prog 215 #[yJ ⟨a1, a2, a3, p, q⟩, yJ ⟨a1, a2, a3, p, q'⟩] w fun e w' => e = .returned (.int .i64 0) ∧ Below w.heap.size w w' := by
  have cM := fun w' => jI (Ver.mk a1 a2 a3 p q) w' (by show p.length < _; omega) (by show q.length < _; omega)
  have cN := fun w' => jI (Ver.mk a1 a2 a3 p q') w' (by show p.length < _; omega) (by show q'.length < _; omega)
  have cO := fun w' => tS (Ver.mk a1 a2 a3 p q) w' (by show p.length ≤ _; omega)
  have cP := fun w' => tS (Ver.mk a1 a2 a3 p q') w' (by show p.length ≤ _; omega)
  rw [hm] at cM
  rw [hn] at cN
  unfold yJ at cM cN cO cP ⊢
  dsimp only at cM cN cO cP ⊢
  clear hm hn
  go_enter Tryz.func215, Tryz.ntmps215
  go_wp2_with fail
  go_region_held3 (fun w' => (w'.cell? ⟨w.heap.size, 0, none⟩ = some (.int .i64 a1) ∧ w'.cell? ⟨w.heap.size, 1, none⟩ = some (.int .i64 a2) ∧ w'.cell? ⟨w.heap.size, 2, none⟩ = some (.int .i64 a3) ∧ w'.cell? ⟨w.heap.size, 3, none⟩ = some (.string (mkS p)) ∧ w'.cell? ⟨w.heap.size, 4, none⟩ = some (.string (mkS q))) ∧ (w'.cell? ⟨(w.heap.size + 1), 0, none⟩ = some (.int .i64 a1) ∧ w'.cell? ⟨(w.heap.size + 1), 1, none⟩ = some (.int .i64 a2) ∧ w'.cell? ⟨(w.heap.size + 1), 2, none⟩ = some (.int .i64 a3) ∧ w'.cell? ⟨(w.heap.size + 1), 3, none⟩ = some (.string (mkS p)) ∧ w'.cell? ⟨(w.heap.size + 1), 4, none⟩ = some (.string (mkS q'))) ∧ Below w.heap.size w w' ∧ w.heap.size < w'.heap.size ∧ (w.heap.size + 1) < w'.heap.size)
    ((first | exact mF w _ _ _ _ _ _ _ _ _ _ _ | exact bL ‹_› ‹_›))
    (first
      | (go_at_call 119; with_reducible refine (cM _).mono ?_; rintro e w1 ⟨rfl, hb1⟩)
      | (go_at_call 119; with_reducible refine (cN _).mono ?_; rintro e w2 ⟨rfl, hb2⟩)
      | (go_at_call 232; with_reducible refine (cO _).mono ?_; rintro e w3 ⟨rfl, hb3⟩)
      | (go_at_call 232; with_reducible refine (cP _).mono ?_; rintro e w4 ⟨rfl, hb4⟩))
  all_goals
    go_wp2
    go_ret
    rename_i hH
    exact ⟨rfl, hH.2.2.1⟩
theorem compare_diff (a1 a2 a3 b1 b2 b3 : Int) (p q p' q' : List UInt8) (w : World) (h1 : p.length ≤ 1000000) (h2 : q.length ≤ 1000000) (h3 : p'.length ≤ 1000000) (h4 : q'.length ≤ 1000000) (hm : (Ver.mk a1 a2 a3 p q).may = true) (hn : (Ver.mk b1 b2 b3 p' q').may = true)
    (hd : (a1 == b1) = false ∨ ((a1 == b1) = true ∧ (a2 == b2) = false) ∨ ((a1 == b1) = true ∧ (a2 == b2) = true ∧ (a3 == b3) = false) ∨ ((a1 == b1) = true ∧ (a2 == b2) = true ∧ (a3 == b3) = true ∧ ((mkS p).toList == (mkS p').toList) = false))
    (n : Int) (hn2 : or3 (Lib.compareInt a1 b1) (Lib.compareInt a2 b2) (Lib.compareInt a3 b3) = n) :
    Calls Tryz.prog 215 #[yJ ⟨a1, a2, a3, p, q⟩, yJ ⟨b1, b2, b3, p', q'⟩] w fun e w' => e = .returned (.int .i64 (if n ≠ 0 then n else cpre p p')) ∧ Below w.heap.size w w' := by
  have cM := fun w' => jI (Ver.mk a1 a2 a3 p q) w' (by show p.length < _; omega) (by show q.length < _; omega)
  have cN := fun w' => jI (Ver.mk b1 b2 b3 p' q') w' (by show p'.length < _; omega) (by show q'.length < _; omega)
  have cO := fun w' => tS (Ver.mk a1 a2 a3 p q) w' (by show p.length ≤ _; omega)
  have cP := fun w' => tS (Ver.mk b1 b2 b3 p' q') w' (by show p'.length ≤ _; omega)
  have i1 := fun w' => Tryz.cmp_Compare_int a1 b1 w'
  have i2 := fun w' => Tryz.cmp_Compare_int a2 b2 w'
  have i3 := fun w' => Tryz.cmp_Compare_int a3 b3 w'
  obtain ⟨o1, ho1⟩ : ∃ o, Lib.compareInt a1 b1 = o := ⟨_, rfl⟩
  obtain ⟨o2, ho2⟩ : ∃ o, Lib.compareInt a2 b2 = o := ⟨_, rfl⟩
  obtain ⟨o3, ho3⟩ : ∃ o, Lib.compareInt a3 b3 = o := ⟨_, rfl⟩
  rw [ho1] at i1 hn2
  rw [ho2] at i2 hn2
  rw [ho3] at i3 hn2
  have cR := fun B w' h => or_any B o1 o2 o3 w' h
  rw [hn2] at cR
  rw [hm] at cM
  rw [hn] at cN
  unfold yJ at cM cN cO cP ⊢
  dsimp only at cM cN cO cP ⊢
  clear hm hn ho1 ho2 ho3 hn2
  have cQ := fun w' => comparePre_any p p' w' h1 h3
  obtain ⟨x, hx⟩ : ∃ x, cpre p p' = x := ⟨_, rfl⟩
  rw [hx] at cQ ⊢
  clear hx
  rcases hd with d1 | ⟨d1, d2⟩ | ⟨d1, d2, d3⟩ | ⟨d1, d2, d3, d4⟩
  all_goals
    go_enter Tryz.func215, Tryz.ntmps215
    go_wp2_with fail
    go_region_held3 (fun w' => (w'.cell? ⟨w.heap.size, 0, none⟩ = some (.int .i64 a1) ∧ w'.cell? ⟨w.heap.size, 1, none⟩ = some (.int .i64 a2) ∧ w'.cell? ⟨w.heap.size, 2, none⟩ = some (.int .i64 a3) ∧ w'.cell? ⟨w.heap.size, 3, none⟩ = some (.string (mkS p)) ∧ w'.cell? ⟨w.heap.size, 4, none⟩ = some (.string (mkS q))) ∧ (w'.cell? ⟨(w.heap.size + 1), 0, none⟩ = some (.int .i64 b1) ∧ w'.cell? ⟨(w.heap.size + 1), 1, none⟩ = some (.int .i64 b2) ∧ w'.cell? ⟨(w.heap.size + 1), 2, none⟩ = some (.int .i64 b3) ∧ w'.cell? ⟨(w.heap.size + 1), 3, none⟩ = some (.string (mkS p')) ∧ w'.cell? ⟨(w.heap.size + 1), 4, none⟩ = some (.string (mkS q'))) ∧ Below w.heap.size w w' ∧ w.heap.size < w'.heap.size ∧ (w.heap.size + 1) < w'.heap.size)
      ((first | exact mF w _ _ _ _ _ _ _ _ _ _ _ | exact bL ‹_› ‹_›))
      (first
        | (go_at_call 119; with_reducible refine (cM _).mono ?_; rintro e w1 ⟨rfl, hb1⟩)
        | (go_at_call 119; with_reducible refine (cN _).mono ?_; rintro e w2 ⟨rfl, hb2⟩)
        | (go_at_call 232; with_reducible refine (cO _).mono ?_; rintro e w3 ⟨rfl, hb3⟩)
        | (go_at_call 232; with_reducible refine (cP _).mono ?_; rintro e w4 ⟨rfl, hb4⟩))
    all_goals
      rename_i hH
      go_wp2_with fail
      go_region_held3 (fun w' => (w'.cell? ⟨w.heap.size, 0, none⟩ = some (.int .i64 a1) ∧ w'.cell? ⟨w.heap.size, 1, none⟩ = some (.int .i64 a2) ∧ w'.cell? ⟨w.heap.size, 2, none⟩ = some (.int .i64 a3) ∧ w'.cell? ⟨w.heap.size, 3, none⟩ = some (.string (mkS p)) ∧ w'.cell? ⟨w.heap.size, 4, none⟩ = some (.string (mkS q))) ∧ (w'.cell? ⟨(w.heap.size + 1), 0, none⟩ = some (.int .i64 b1) ∧ w'.cell? ⟨(w.heap.size + 1), 1, none⟩ = some (.int .i64 b2) ∧ w'.cell? ⟨(w.heap.size + 1), 2, none⟩ = some (.int .i64 b3) ∧ w'.cell? ⟨(w.heap.size + 1), 3, none⟩ = some (.string (mkS p')) ∧ w'.cell? ⟨(w.heap.size + 1), 4, none⟩ = some (.string (mkS q'))) ∧ Below w.heap.size w w' ∧ w.heap.size < w'.heap.size ∧ (w.heap.size + 1) < w'.heap.size)
        ((first | exact hH | exact bL hH (pR (Below.refl _ _)) | assumption | exact bL ‹_› ((Below.refl _ _).alloc (Nat.le_refl _) _)))
        (first
          | (go_at_call 234; with_reducible refine (i1 _).mono ?_; rintro e w5 ⟨rfl, rfl⟩)
          | (go_at_call 234; with_reducible refine (i2 _).mono ?_; rintro e w6 ⟨rfl, rfl⟩)
          | (go_at_call 234; with_reducible refine (i3 _).mono ?_; rintro e w7 ⟨rfl, rfl⟩)
          | (go_at_call 233; refine (cR _ _ (heap_new_drew _ _)).mono ?_; rintro e w8 ⟨rfl, rfl⟩))
      all_goals
        rename_i hK
        obtain ⟨⟨_, _, _, k4, _⟩, ⟨_, _, _, m4, _⟩, hbk, _, _⟩ := hK
        by_cases h0 : n = 0
        · subst h0
          go_wp2_with (go_at_call 235; refine (cQ _).mono ?_; rintro e w9 ⟨rfl, hb9⟩)
          go_ret
          exact ⟨rfl, hbk.trans (hb9.mono hbk.size)⟩
        · have h0b : (n == 0) = false := by simpa using h0
          go_wp2
          go_ret
          exact ⟨rfl, hbk⟩
theorem compare_bad (v u : Ver) (w : World) (h1 : v.pre.length ≤ 1000000) (h2 : v.build.length ≤ 1000000) (h3 : u.pre.length ≤ 1000000) (h4 : u.build.length ≤ 1000000) (hm : v.may = false ∨ (v.may = true ∧ u.may = false)) :
    Calls Tryz.prog 215 #[yJ v, yJ u] w fun e w' => e = .returned (.int .i64 0) ∧ Below w.heap.size w w' := by
  have cM := fun w' => jI v w' (by omega) (by omega)
  have cN := fun w' => jI u w' (by omega) (by omega)
  obtain ⟨a1, a2, a3, p, q⟩ := v
  obtain ⟨b1, b2, b3, p', q'⟩ := u
  unfold yJ at cM cN ⊢
  dsimp only at cM cN ⊢
  rcases hm with hm | ⟨hm, hn⟩
  · rw [hm] at cM
    clear hm
    go_enter Tryz.func215, Tryz.ntmps215
    go_wp2_with fail
    go_region_with (go_at_call 119; with_reducible refine (cM _).mono ?_; rintro e w1 ⟨rfl, hb1⟩)
    all_goals
      go_wp2
      go_ret
      exact ⟨rfl, (bL (mF w _ _ _ _ _ _ _ _ _ _ _) hb1).2.2.1⟩
  · rw [hm] at cM
    rw [hn] at cN
    clear hm hn
    go_enter Tryz.func215, Tryz.ntmps215
    go_wp2_with fail
    go_region_with (first
        | (go_at_call 119; with_reducible refine (cM _).mono ?_; rintro e w1 ⟨rfl, hb1⟩; obtain ⟨⟨k1, k2, k3, k4, k5⟩, ⟨m1, m2, m3, m4, m5⟩, hbk, _, _⟩ := bL (mF w _ _ _ _ _ _ _ _ _ _ _) hb1)
        | (go_at_call 119; with_reducible refine (cN _).mono ?_; rintro e w2 ⟨rfl, hb2⟩))
    all_goals
      go_wp2
      go_ret
      exact ⟨rfl, hbk.trans (hb2.mono hbk.size)⟩
theorem or3_cmpN (v u : Ver) : or3 (Lib.compareInt v.maj u.maj) (Lib.compareInt v.min u.min) (Lib.compareInt v.pat u.pat) = dI v u := rfl
theorem vcompare_any (v u : Ver) (w : World) (h1 : v.pre.length ≤ 1000000) (h2 : v.build.length ≤ 1000000) (h3 : u.pre.length ≤ 1000000) (h4 : u.build.length ≤ 1000000) :
    Calls Tryz.prog 215 #[yJ v, yJ u] w fun e w' => e = .returned (.int .i64 (xQ v u)) ∧ Below w.heap.size w w' := by
  cases hm : v.may with
  | false => rw [tT (.inl hm)]; exact compare_bad v u w h1 h2 h3 h4 (.inl hm)
  | true =>
    cases hn : u.may with
    | false => rw [tT (.inr hn)]; exact compare_bad v u w h1 h2 h3 h4 (.inr ⟨hm, hn⟩)
    | true =>
      by_cases hc : kP v = kP u
      · rw [cmpR_core hc]
        obtain ⟨a1, a2, a3, p, q⟩ := v
        obtain ⟨b1, b2, b3, p', q'⟩ := u
        unfold kP at hc
        simp only [Ver.mk.injEq, and_true] at hc
        obtain ⟨rfl, rfl, rfl, rfl⟩ := hc
        exact compare_same a1 a2 a3 p q q' w h1 h2 h4 hm hn
      · rw [cmpR_go hm hn hc]
        obtain ⟨a1, a2, a3, p, q⟩ := v
        obtain ⟨b1, b2, b3, p', q'⟩ := u
        refine compare_diff a1 a2 a3 b1 b2 b3 p q p' q' w h1 h2 h3 h4 hm hn ?_ _ (or3_cmpN ⟨a1, a2, a3, p, q⟩ ⟨b1, b2, b3, p', q'⟩)
        by_cases g1 : a1 = b1
        · by_cases g2 : a2 = b2
          · by_cases g3 : a3 = b3
            · have g4 : p ≠ p' := fun e => hc (by unfold kP; rw [g1, g2, g3, e])
              exact .inr (.inr (.inr ⟨by simpa using g1, by simpa using g2, by simpa using g3, mkS_ne g4⟩))
            · exact .inr (.inr (.inl ⟨by simpa using g1, by simpa using g2, by simpa using g3⟩))
          · exact .inr (.inl ⟨by simpa using g1, by simpa using g2⟩)
        · exact .inl (by simpa using g1)
end
section
theorem rnumeric_any (s : ByteArray) (w : World) (hs : s.size ≤ maxLen) :
    Calls Tryz.prog 154 #[.string s] w fun e w' => e = .returned (.bool (kU s.data.toList)) ∧ w = w' := by
  unfold maxLen at hs
  go_enter Tryz.func154, Tryz.ntmps154
  go_wp2
  go_loop [3] (fun i => ∃ k : Nat, k ≤ s.size ∧ i = .int .i64 k ∧ Hid (xC (s.data.toList.drop k) = xC s.data.toList)) (fun i => s.size - (intOf i).toNat)
  case atStart => exact ⟨0, Nat.zero_le _, rfl, rfl⟩
  case round =>
    obtain ⟨k, hk, rfl, HR⟩ := hrel
    by_cases hp : k < s.size
    · have HD := Lib.hid (jB s k hp)
      by_cases h1 : ((s[k]'hp).toNat : Int) < 48
      · go_wp2
        go_ret
        exact ⟨yZ (by unfold kU; rw [← HR.out, HD.out, vY _ _ (by unfold kK; simp; omega), Bool.and_false]), rfl⟩
      · by_cases h2 : (57 : Int) < (s[k]'hp).toNat
        · go_wp2
          go_ret
          exact ⟨yZ (by unfold kU; rw [← HR.out, HD.out, vY _ _ (by unfold kK; simp; omega), Bool.and_false]), rfl⟩
        · go_wp2
          go_round
          case rel => exact ⟨k + 1, by omega, by go_num, by rw [← HR.out, HD.out, mB _ _ (by unfold kK; simp; omega)]; rfl⟩
          case measure => simp [intOf]; omega
    · have HD := Lib.hid (dB s k hp)
      have hl : s.data.toList.length = s.size := vC s
      by_cases h0 : s.size = 0
      · have he : s.data.toList = [] := List.eq_nil_of_length_eq_zero (by omega)
        have h0i : ¬ (0 : Int) < s.size := by omega
        have HE := Lib.hid he
        clear he h0 hl
        go_wp2
        go_ret
        exact ⟨yZ (by unfold kU; rw [HE.out]; simp; exact ByteArray.ext (Array.toList_inj.1 HE.out)), rfl⟩
      · have he : s.data.toList.isEmpty = false := by
          cases h : s.data.toList with
          | nil => rw [h] at hl; simp at hl; omega
          | cons _ _ => rfl
        have h0i : (0 : Int) < s.size := by omega
        have HE := Lib.hid he
        clear he h0 hl
        go_wp2
        go_ret
        exact ⟨yZ (by unfold kU; rw [HE.out, ← HR.out, HD.out]; simp [xC]; omega), rfl⟩
theorem rtag_any (s : ByteArray) (w : World) (hs : s.size ≤ maxLen) :
    Calls Tryz.prog 153 #[.string s] w fun e w' => e = .returned (.bool (gH s.data.toList)) ∧ w = w' := by
  unfold maxLen at hs
  have hl : s.data.toList.length = s.size := vC s
  by_cases h1 : s.size < 1
  · have HT : Hid (gH s.data.toList = false) := tagOk_short (List.eq_nil_of_length_eq_zero (by omega))
    clear hl
    go_enter Tryz.func153, Tryz.ntmps153
    go_wp2
    go_ret
    exact ⟨yZ HT.out.symm, rfl⟩
  · by_cases h8 : 8 < s.size
    · have HT : Hid (gH s.data.toList = false) := nP (by omega)
      clear hl
      go_enter Tryz.func153, Tryz.ntmps153
      go_wp2
      go_ret
      exact ⟨yZ HT.out.symm, rfl⟩
    · have HT : Hid (gH s.data.toList = s.data.toList.all uY) := tagOk_mid (by intro e; rw [e] at hl; simp at hl; omega) (by omega)
      clear hl
      go_enter Tryz.func153, Tryz.ntmps153
      go_wp2
      go_loop [3] (fun i => ∃ k : Nat, k ≤ s.size ∧ i = .int .i64 k ∧ Hid ((s.data.toList.drop k).all uY = s.data.toList.all uY)) (fun i => s.size - (intOf i).toNat)
      case atStart => exact ⟨0, Nat.zero_le _, rfl, rfl⟩
      case round =>
        obtain ⟨k, hk, rfl, HR⟩ := hrel
        by_cases hp : k < s.size
        · have HD := Lib.hid (jB s k hp)
          by_cases hL : (97 : Int) ≤ (s[k]'hp).toNat ∧ ((s[k]'hp).toNat : Int) ≤ 122
          · obtain ⟨hla, hlb⟩ := hL
            go_wp2
            go_round
            case rel => exact ⟨k + 1, by omega, by go_num, by rw [← HR.out, HD.out, all_ok _ _ (tagC_let _ (by unfold pH; simp; omega))]; rfl⟩
            case measure => simp [intOf]; omega
          · have hL2 : ((s[k]'hp).toNat : Int) < 97 ∨ (122 : Int) < (s[k]'hp).toNat := by omega
            by_cases hG : (48 : Int) ≤ (s[k]'hp).toNat ∧ ((s[k]'hp).toNat : Int) ≤ 57
            · obtain ⟨hga, hgb⟩ := hG
              have hL3 : ((s[k]'hp).toNat : Int) < 97 := by omega
              clear hL hL2
              go_wp2
              go_round
              case rel => exact ⟨k + 1, by omega, by go_num, by rw [← HR.out, HD.out, all_ok _ _ (tagC_dig _ (by unfold kK; simp; omega))]; rfl⟩
              case measure => simp [intOf]; omega
            · have hG2 : ((s[k]'hp).toNat : Int) < 48 ∨ (57 : Int) < (s[k]'hp).toNat := by omega
              by_cases h3 : ((s[k]'hp).toNat : Int) = 45
              · have h3b : (((s[k]'hp).toNat : Int) != 45) = false := by simp [h3]
                have hL3 : ((s[k]'hp).toNat : Int) < 97 := by omega
                have hG3 : ((s[k]'hp).toNat : Int) < 48 := by omega
                have H3 := Lib.hid h3
                clear h3 hL hL2 hG hG2
                go_wp2
                go_round
                case rel => exact ⟨k + 1, by omega, by go_num, by rw [← HR.out, HD.out, all_ok _ _ (tagC_dash _ H3.out)]; rfl⟩
                case measure => simp [intOf]; omega
              · have h3b : (((s[k]'hp).toNat : Int) != 45) = true := by simpa using h3
                have HB : Hid (s.data.toList.all uY = false) := by
                  show _ = _
                  rw [← HR.out, HD.out, all_bad _ _ (tagC_bad _ (by unfold kK; simp; omega) (by unfold pH; simp; omega) h3)]
                clear hL hG h3
                rcases hL2 with hL2 | hL2 <;> rcases hG2 with hG2 | hG2
                · go_wp2
                  go_ret
                  exact ⟨yZ (by rw [HT.out, HB.out]), rfl⟩
                · have h9 : (48 : Int) ≤ (s[k]'hp).toNat := by omega
                  go_wp2
                  go_ret
                  exact ⟨yZ (by rw [HT.out, HB.out]), rfl⟩
                · exfalso; omega
                · have h9 : (97 : Int) ≤ (s[k]'hp).toNat := by omega
                  have h7 : (48 : Int) ≤ (s[k]'hp).toNat := by omega
                  go_wp2
                  go_ret
                  exact ⟨yZ (by rw [HT.out, HB.out]), rfl⟩
        · have HD := Lib.hid (dB s k hp)
          go_wp2
          go_ret
          exact ⟨yZ (by rw [HT.out, ← HR.out, HD.out]; rfl), rfl⟩
theorem rnum_any (n : Int) (w : World) :
    Calls Tryz.prog 98 #[.int .i64 n] w fun e w' => e = .returned (.bool (yG n)) ∧ w = w' := by
  unfold yG
  go_enter Tryz.func98, Tryz.ntmps98
  go_wp2
  all_goals go_ret
  all_goals exact ⟨yZ (by simp; try omega), rfl⟩
theorem nR (t : List UInt8) (w : World) (ht : t.length ≤ maxLen) :
    Calls Tryz.prog 125 #[.string (mkS t)] w fun e w' => e = .returned (.tuple #[.int .i64 (zS t), .bool (gK t)]) ∧ w = w' := by
  have := rnumber_any (mkS t) w (by rw [xP]; exact ht)
  rw [numV_mk, numOk_mk] at this
  exact this
theorem fR (t : List UInt8) (w : World) (ht : t.length ≤ maxLen) :
    Calls Tryz.prog 154 #[.string (mkS t)] w fun e w' => e = .returned (.bool (kU t)) ∧ w = w' := by
  have := rnumeric_any (mkS t) w (by rw [xP]; exact ht)
  rw [mk_data] at this
  exact this
theorem rtag_mk (t : List UInt8) (w : World) (ht : t.length ≤ maxLen) :
    Calls Tryz.prog 153 #[.string (mkS t)] w fun e w' => e = .returned (.bool (gH t)) ∧ w = w' := by
  have := rtag_any (mkS t) w (by rw [xP]; exact ht)
  rw [mk_data] at this
  exact this
theorem rsplit_mk (s : List UInt8) (w : World) (hs : s.length ≤ 1000000) :
    Calls Tryz.prog 41 #[.string (mkS s), .int .u8 46] w fun e w' => ∃ v, e = .returned v ∧ w'.ownsRow w.heap.size 9 1 v (pcs s).length (qN (pcs s)) ∧ Below w.heap.size w w' := by
  have := rsplit_any (mkS s) 46 w (by rw [xP]; exact hs)
  unfold fU at this
  rw [mk_data] at this
  exact this
theorem fV (s : List UInt8) : ∀ x ∈ pcs s, x.length ≤ s.length := by
  intro x hx
  have := split_le 46 s [] x hx
  simpa using this
theorem pcs_len (s : List UInt8) : (pcs s).length ≤ s.length + 1 := by
  unfold pcs; rw [split_len]
  have := List.length_filter_le (fun x : UInt8 => x == 46) s
  omega
def nE (s : List UInt8) (b : Bool) : Bool := s.isEmpty || (decide ((pcs s).length ≤ 4) && (pcs s).all fun t => gH t && !(b && kU t && !gK t))
theorem all_both {α : Type} (p q r : α → Bool) (h : ∀ x, r x = (p x && q x)) (l : List α) : l.all r = (l.all p && l.all q) := by
  induction l with
  | nil => rfl
  | cons a l ih =>
    rw [List.all_cons, List.all_cons, List.all_cons, ih, h]
    cases p a <;> cases q a <;> simp
theorem tagsB_pre (s : List UInt8) : nE s true = v8 s := by
  unfold nE v8 gO nW
  cases s.isEmpty
  · simp only [Bool.false_or, Bool.true_and, Bool.and_assoc]
    congr 1
    refine all_both _ _ _ (fun t => ?_) _
    cases gH t <;> cases kU t <;> cases gK t <;> rfl
  · rfl
theorem tagsB_build (s : List UInt8) : nE s false = gO s := by
  unfold nE gO
  simp
def tagF (b : Bool) (t : List UInt8) : Bool := gH t && !(b && kU t && !gK t)
theorem tagsB_eq (s : List UInt8) (b : Bool) : nE s b = (s.isEmpty || (decide ((pcs s).length ≤ 4) && (pcs s).all (tagF b))) := rfl
theorem all_cut {l : List (List UInt8)} {p : List UInt8 → Bool} (k : Nat) (h : k < l.length) (hb : p l[k] = false) : l.all p = false := by
  rw [Bool.eq_false_iff]; intro e
  have := List.all_eq_true.1 e l[k] (List.getElem_mem h)
  rw [this] at hb; cases hb
theorem all_done {l : List (List UInt8)} {p : List UInt8 → Bool} (h : ∀ j (hj : j < l.length), p l[j] = true) : l.all p = true := by
  rw [List.all_eq_true]
  intro x hx
  obtain ⟨j, hj, rfl⟩ := List.getElem_of_mem hx
  exact h j hj
theorem rtags_any (s : List UInt8) (b : Bool) (w : World) (hs : s.length ≤ 1000000) :
    Calls Tryz.prog 99 #[.string (mkS s), .bool b] w fun e w' => e = .returned (.bool (nE s b)) ∧ Below w.heap.size w w' := by
  have es := (show (mkS s).toList.isEmpty = s.isEmpty by rw [Lib.toList_data, mk_data])
  have HT := Lib.hid (tagsB_eq s b)
  cases he : s.isEmpty with
  | true =>
    rw [he] at es HT
    clear he
    go_enter Tryz.func99, Tryz.ntmps99
    go_wp2
    go_ret
    exact ⟨yZ (by rw [HT.out]; rfl), Below.refl _ _⟩
  | false =>
    rw [he] at es HT
    clear he
    have HM := Lib.hid (fV s)
    have cS := fun w' => rsplit_mk s w' hs
    have hne : 0 < (pcs s).length := by
      have := bP 46 s []
      cases h : pcs s with
      | nil => exact absurd h this
      | cons _ _ => simp
    obtain ⟨l, hl⟩ : ∃ l, pcs s = l := ⟨_, rfl⟩
    rw [hl] at cS HM hne HT
    clear hl
    go_enter Tryz.func99, Tryz.ntmps99
    go_wp2_with fail
    refine (cS _).mono ?_
    rintro e w1 ⟨v, rfl, hown, hb1⟩
    obtain ⟨A, cap, rfl, hcell⟩ := ReadsT.of_own hown
    obtain ⟨ad, rfl, hlt, hc⟩ := hcell hne
    have HC := Lib.hid hc
    clear hc hcell hown cS
    by_cases h4 : 4 < l.length
    · have h4i : (4 : Int) < l.length := by omega
      go_wp2
      go_ret
      exact ⟨yZ (by rw [HT.out, decide_eq_false (by omega)]; rfl), hb1⟩
    · have h4i : ¬ (4 : Int) < l.length := by omega
      go_wp2
      go_loop [6] (fun x => ∃ k : Nat, k ≤ l.length ∧ x = .int .i64 k ∧ Hid (∀ j (hj : j < l.length), j < k → tagF b l[j] = true)) (fun x => l.length - (intOf x).toNat)
      case atStart => exact ⟨0, by omega, rfl, fun j hj h => by omega⟩
      case round =>
        obtain ⟨k, hk, rfl, HR⟩ := hrel
        by_cases hp : k < l.length
        · have hki : (k : Int) < l.length := by omega
          have hck := HC.out k hp
          have ht : l[k].length ≤ maxLen := by have := HM.out l[k] (List.getElem_mem hp); unfold maxLen; omega
          have cT := fun w' => rtag_mk l[k] w' ht
          have cN := fun w' => nR l[k] w' ht
          have cD := fun w' => fR l[k] w' ht
          have HF : Hid (tagF b l[k] = (gH l[k] && !(b && kU l[k] && !gK l[k]))) := rfl
          obtain ⟨g1, e1⟩ : ∃ g, gH l[k] = g := ⟨_, rfl⟩
          obtain ⟨g2, e2⟩ : ∃ g, kU l[k] = g := ⟨_, rfl⟩
          obtain ⟨g3, e3⟩ : ∃ g, gK l[k] = g := ⟨_, rfl⟩
          rw [e1] at cT HF
          rw [e2] at cD HF
          rw [e3] at cN HF
          clear e1 e2 e3
          cases hf : (g1 && !(b && g2 && !g3)) with
          | true =>
            have HFT : Hid (tagF b l[k] = true) := by show _ = _; rw [HF.out, hf]
            clear HF
            cases g1 <;> cases b <;> cases g2 <;> cases g3 <;> simp at hf
            all_goals
              go_wp2_with (first
                | (go_at_call 153; refine (cT _).mono ?_; rintro e w2 ⟨rfl, rfl⟩)
                | (go_at_call 125; refine (cN _).mono ?_; rintro e w3 ⟨rfl, rfl⟩)
                | (go_at_call 154; refine (cD _).mono ?_; rintro e w4 ⟨rfl, rfl⟩))
              go_round
              case rel => exact ⟨k + 1, by omega, by go_num, fun j hj h => by
                by_cases hjk : j < k
                · exact HR.out j hj hjk
                · obtain rfl : j = k := by omega
                  exact HFT.out⟩
              case measure => simp [intOf]; omega
          | false =>
            have HFT : Hid (tagF b l[k] = false) := by show _ = _; rw [HF.out, hf]
            clear HF
            cases g1 <;> cases b <;> cases g2 <;> cases g3 <;> simp at hf
            all_goals
              go_wp2_with (first
                | (go_at_call 153; refine (cT _).mono ?_; rintro e w2 ⟨rfl, rfl⟩)
                | (go_at_call 125; refine (cN _).mono ?_; rintro e w3 ⟨rfl, rfl⟩)
                | (go_at_call 154; refine (cD _).mono ?_; rintro e w4 ⟨rfl, rfl⟩))
              go_ret
              exact ⟨yZ (by rw [HT.out, all_cut k hp HFT.out]; simp), hb1⟩
        · have hki : ¬ (k : Int) < l.length := by omega
          have hall := all_done (l := l) (p := tagF b) (fun j hj => HR.out j hj (by omega))
          have HA := Lib.hid hall
          clear hall
          go_wp2
          go_ret
          exact ⟨yZ (by rw [HT.out, HA.out, decide_eq_true (by omega)]; rfl), hb1⟩
theorem w0 (v : Ver) (w : World) (hp : v.pre.length ≤ 1000000) (hq : v.build.length ≤ 1000000) :
    Calls Tryz.prog 56 #[yJ v] w fun e w' => e = .returned (.bool v.may) ∧ Below w.heap.size w w' := by
  have HM : Hid (v.may = (yG v.maj && yG v.min && yG v.pat && nE v.pre true && nE v.build false)) := by
    show _ = _
    rw [tagsB_pre, tagsB_build]; rfl
  have cP := fun w' => rtags_any v.pre true w' hp
  have cQ := fun w' => rtags_any v.build false w' hq
  have c1 := fun w' => rnum_any v.maj w'
  have c2 := fun w' => rnum_any v.min w'
  have c3 := fun w' => rnum_any v.pat w'
  obtain ⟨m, hm⟩ : ∃ m, v.may = m := ⟨_, rfl⟩
  rw [hm] at HM ⊢
  obtain ⟨g1, e1⟩ : ∃ g, yG v.maj = g := ⟨_, rfl⟩
  obtain ⟨g2, e2⟩ : ∃ g, yG v.min = g := ⟨_, rfl⟩
  obtain ⟨g3, e3⟩ : ∃ g, yG v.pat = g := ⟨_, rfl⟩
  obtain ⟨g4, e4⟩ : ∃ g, nE v.pre true = g := ⟨_, rfl⟩
  obtain ⟨g5, e5⟩ : ∃ g, nE v.build false = g := ⟨_, rfl⟩
  rw [e1, e2, e3, e4, e5] at HM
  rw [e1] at c1
  rw [e2] at c2
  rw [e3] at c3
  rw [e4] at cP
  rw [e5] at cQ
  clear e1 e2 e3 e4 e5 hm
  obtain ⟨a, b, c, p, q⟩ := v
  unfold yJ
  dsimp only at c1 c2 c3 cP cQ ⊢
  have hcases : g1 = false ∨ (g1 = true ∧ g2 = false) ∨ (g1 = true ∧ g2 = true ∧ g3 = false) ∨ (g1 = true ∧ g2 = true ∧ g3 = true ∧ g4 = false) ∨ (g1 = true ∧ g2 = true ∧ g3 = true ∧ g4 = true) := by
    cases g1 <;> cases g2 <;> cases g3 <;> cases g4 <;> simp
  rcases hcases with rfl | ⟨rfl, rfl⟩ | ⟨rfl, rfl, rfl⟩ | ⟨rfl, rfl, rfl, rfl⟩ | ⟨rfl, rfl, rfl, rfl⟩
  · go_enter Tryz.func56, Tryz.ntmps56
    go_wp2_with fail
    refine (c1 _).mono ?_
    rintro e w1 ⟨rfl, rfl⟩
    go_wp2
    go_ret
    exact ⟨yZ (by rw [HM.out]; rfl), (Below.refl _ _).alloc (Nat.le_refl _) _⟩
  · go_enter Tryz.func56, Tryz.ntmps56
    go_wp2_with fail
    refine (c1 _).mono ?_
    rintro e w1 ⟨rfl, rfl⟩
    go_wp2_with fail
    refine (c2 _).mono ?_
    rintro e w1 ⟨rfl, rfl⟩
    go_wp2
    go_ret
    exact ⟨yZ (by rw [HM.out]; rfl), (Below.refl _ _).alloc (Nat.le_refl _) _⟩
  · go_enter Tryz.func56, Tryz.ntmps56
    go_wp2_with fail
    refine (c1 _).mono ?_
    rintro e w1 ⟨rfl, rfl⟩
    go_wp2_with fail
    refine (c2 _).mono ?_
    rintro e w1 ⟨rfl, rfl⟩
    go_wp2_with fail
    refine (c3 _).mono ?_
    rintro e w1 ⟨rfl, rfl⟩
    go_wp2
    go_ret
    exact ⟨yZ (by rw [HM.out]; rfl), (Below.refl _ _).alloc (Nat.le_refl _) _⟩
  · go_enter Tryz.func56, Tryz.ntmps56
    go_wp2_with fail
    refine (c1 _).mono ?_
    rintro e w1 ⟨rfl, rfl⟩
    go_wp2_with fail
    refine (c2 _).mono ?_
    rintro e w1 ⟨rfl, rfl⟩
    go_wp2_with fail
    refine (c3 _).mono ?_
    rintro e w1 ⟨rfl, rfl⟩
    go_wp2_with fail
    refine (cP _).mono ?_
    rintro e w1 ⟨rfl, hb1⟩
    go_wp2
    go_ret
    exact ⟨yZ (by rw [HM.out]; rfl), ((Below.refl _ _).alloc (Nat.le_refl _) _).trans (hb1.mono (by simp))⟩
  · go_enter Tryz.func56, Tryz.ntmps56
    go_wp2_with fail
    refine (c1 _).mono ?_
    rintro e w1 ⟨rfl, rfl⟩
    go_wp2_with fail
    refine (c2 _).mono ?_
    rintro e w1 ⟨rfl, rfl⟩
    go_wp2_with fail
    refine (c3 _).mono ?_
    rintro e w1 ⟨rfl, rfl⟩
    go_wp2_with fail
    refine (cP _).mono ?_
    rintro e w1 ⟨rfl, hb1⟩
    obtain ⟨k4, m4⟩ := box_cells hb1 4 (by simp)
    simp only [List.getElem_toArray, List.getElem_cons_succ, List.getElem_cons_zero] at k4
    have hbw : Below w.heap.size w w1 := ((Below.refl _ _).alloc (Nat.le_refl _) _).trans (hb1.mono (by simp))
    go_wp2_with fail
    refine (cQ _).mono ?_
    rintro e w2 ⟨rfl, hb2⟩
    go_wp2
    go_ret
    exact ⟨yZ (by rw [HM.out]; rfl), hbw.trans (hb2.mono hbw.size)⟩
end
section
theorem below_drew2 {B : Nat} {a w : World} (h : Below B a w) : Below B a w.drew := h.drew
theorem j5 (a b : Int) (w : World) :
    Calls Tryz.prog 151 #[.int .i64 a, .int .i64 b] w fun e w' => e = .returned (.int .i64 (Lib.compareInt a b)) ∧ w = w' := by
  by_cases h1 : a < b
  · have HV : Hid (Lib.compareInt a b = -1) := by show _ = _; unfold Lib.compareInt; rw [if_pos h1]
    go_enter Tryz.func151, Tryz.ntmps151
    go_wp2
    go_ret
    exact ⟨gB HV.out.symm, rfl⟩
  · by_cases h2 : b < a
    · have HV : Hid (Lib.compareInt a b = 1) := by show _ = _; unfold Lib.compareInt; rw [if_neg h1, if_pos h2]
      go_enter Tryz.func151, Tryz.ntmps151
      go_wp2
      go_ret
      exact ⟨gB HV.out.symm, rfl⟩
    · have HV : Hid (Lib.compareInt a b = 0) := by show _ = _; unfold Lib.compareInt; rw [if_neg h1, if_neg h2]
      go_enter Tryz.func151, Tryz.ntmps151
      go_wp2
      go_ret
      exact ⟨gB HV.out.symm, rfl⟩
theorem less_cmp (a : List UInt8) : ∀ b, Op.bytesLess a b = decide (Lib.compareBytes a b = -1) := by
  induction a with
  | nil => intro b; cases b <;> simp [Op.bytesLess, Lib.compareBytes]
  | cons x l ih =>
    intro b
    cases b with
    | nil => simp [Op.bytesLess, Lib.compareBytes]
    | cons y m =>
      rw [Op.bytesLess, Lib.compareBytes, ih]
      by_cases h1 : x < y
      · simp [h1]
      · by_cases h2 : y < x
        · simp [h1, h2]
          intro e; subst e; exact absurd h2 h1
        · have e : x = y := UInt8.le_antisymm (UInt8.not_lt.1 h2) (UInt8.not_lt.1 h1)
          simp [e]
theorem cmpB_zero (a : List UInt8) : ∀ b, Lib.compareBytes a b = 0 ↔ a = b := by
  induction a with
  | nil => intro b; cases b <;> simp [Lib.compareBytes]
  | cons x l ih =>
    intro b
    cases b with
    | nil => simp [Lib.compareBytes]
    | cons y m =>
      rw [Lib.compareBytes]
      by_cases h1 : x < y
      · simp [h1]; intro e; subst e; exact absurd h1 (UInt8.lt_irrefl _)
      · by_cases h2 : y < x
        · simp [h1, h2]; intro e; subst e; exact absurd h2 (UInt8.lt_irrefl _)
        · have e : x = y := UInt8.le_antisymm (UInt8.not_lt.1 h2) (UInt8.not_lt.1 h1)
          simp [e, ih]
theorem cmpB_range (a : List UInt8) : ∀ b, Lib.compareBytes a b = -1 ∨ Lib.compareBytes a b = 0 ∨ Lib.compareBytes a b = 1 := by
  induction a with
  | nil => intro b; cases b <;> simp [Lib.compareBytes]
  | cons x l ih =>
    intro b
    cases b with
    | nil => simp [Lib.compareBytes]
    | cons y m =>
      rw [Lib.compareBytes]
      split
      · simp
      · split
        · simp
        · exact ih m
theorem rtexts_any (a b : List UInt8) (w : World) :
    Calls Tryz.prog 227 #[.string (mkS a), .string (mkS b)] w fun e w' => e = .returned (.int .i64 (Lib.compareBytes a b)) ∧ w = w' := by
  have hl := less_cmp a b
  have ha : (mkS a).toList = a := by rw [Lib.toList_data, mk_data]
  have hb : (mkS b).toList = b := by rw [Lib.toList_data, mk_data]
  have he : (a == b) = decide (Lib.compareBytes a b = 0) := by
    rw [Bool.eq_iff_iff]; simp [cmpB_zero]
  have hr := cmpB_range a b
  obtain ⟨x, hx⟩ : ∃ x, Lib.compareBytes a b = x := ⟨_, rfl⟩
  rw [hx] at hl he hr ⊢
  have hl2 : Op.bytesLess (mkS a).toList (mkS b).toList = decide (x = -1) := by rw [ha, hb]; exact hl
  have he2 : ((mkS a).toList == (mkS b).toList) = decide (x = 0) := by rw [ha, hb]; exact he
  clear ha hb hl he hx
  rcases hr with rfl | rfl | rfl
  · have a1 : Op.bytesLess (mkS a).toList (mkS b).toList = true := hl2
    have a2 : ((mkS a).toList == (mkS b).toList) = false := he2
    clear hl2 he2
    go_enter Tryz.func227, Tryz.ntmps227
    go_wp2
    go_ret
    exact ⟨rfl, rfl⟩
  · have a1 : Op.bytesLess (mkS a).toList (mkS b).toList = false := hl2
    have a2 : ((mkS a).toList == (mkS b).toList) = true := he2
    clear hl2 he2
    go_enter Tryz.func227, Tryz.ntmps227
    go_wp2
    go_ret
    exact ⟨rfl, rfl⟩
  · have a1 : Op.bytesLess (mkS a).toList (mkS b).toList = false := hl2
    have a2 : ((mkS a).toList == (mkS b).toList) = false := he2
    clear hl2 he2
    go_enter Tryz.func227, Tryz.ntmps227
    go_wp2
    go_ret
    exact ⟨rfl, rfl⟩
theorem rone_any (a b : List UInt8) (w : World) (ha : a.length ≤ 1000000) (hb : b.length ≤ 1000000) :
    Calls Tryz.prog 211 #[.string (mkS a), .string (mkS b)] w fun e w' => e = .returned (.int .i64 (fW a b)) ∧ w = w' := by
  have la : a.length ≤ maxLen := by unfold maxLen; omega
  have lb : b.length ≤ maxLen := by unfold maxLen; omega
  have HO : Hid (fW a b = if kU a && kU b then Lib.compareInt (zS a) (zS b) else if kU a then -1 else if kU b then 1 else Lib.compareBytes a b) := rfl
  obtain ⟨o, ho⟩ : ∃ o, fW a b = o := ⟨_, rfl⟩
  rw [ho] at HO ⊢
  clear ho
  have nA := fun w' => fR a w' la
  have nB := fun w' => fR b w' lb
  have vA := fun w' => nR a w' la
  have vB := fun w' => nR b w' lb
  have cI := fun w' => j5 (zS a) (zS b) w'
  have cT := fun w' => rtexts_any a b w'
  obtain ⟨g1, d1⟩ : ∃ g, kU a = g := ⟨_, rfl⟩
  obtain ⟨g2, d2⟩ : ∃ g, kU b = g := ⟨_, rfl⟩
  obtain ⟨x, dx⟩ : ∃ g, Lib.compareInt (zS a) (zS b) = g := ⟨_, rfl⟩
  obtain ⟨y, dy⟩ : ∃ g, Lib.compareBytes a b = g := ⟨_, rfl⟩
  rw [dx] at HO cI
  rw [dy] at HO cT
  rw [d1] at nA HO
  rw [d2] at nB HO
  obtain ⟨na, ea⟩ : ∃ n, zS a = n := ⟨_, rfl⟩
  obtain ⟨nb, eb⟩ : ∃ n, zS b = n := ⟨_, rfl⟩
  rw [ea] at vA cI
  rw [eb] at vB cI
  clear dx dy d1 d2 ea eb
  cases g1 <;> cases g2
  all_goals
    go_enter Tryz.func211, Tryz.ntmps211
    go_wp2_with fail
    refine (nA _).mono ?_
    rintro e w1 ⟨rfl, rfl⟩
    go_wp2_with fail
    refine (nB _).mono ?_
    rintro e w1 ⟨rfl, rfl⟩
    go_wp2_with (first
      | (go_at_call 227; refine (cT _).mono ?_; rintro e w1 ⟨rfl, rfl⟩)
      | (go_at_call 125; with_reducible refine (vA _).mono ?_; rintro e w1 ⟨rfl, rfl⟩)
      | (go_at_call 125; with_reducible refine (vB _).mono ?_; rintro e w1 ⟨rfl, rfl⟩)
      | (go_at_call 151; refine (cI _).mono ?_; rintro e w1 ⟨rfl, rfl⟩))
    go_ret
    exact ⟨gB (by rw [HO.out]; simp), rfl⟩
theorem presL_end (l m : List (List UInt8)) (k : Nat) (hl : k ≤ l.length) (hm : k ≤ m.length) (h : ¬ (k < l.length ∧ k < m.length)) : gN (l.drop k) (m.drop k) = Lib.compareInt l.length m.length := by
  unfold Lib.compareInt
  by_cases h1 : k < l.length
  · have h2 : ¬ k < m.length := fun h2 => h ⟨h1, h2⟩
    rw [List.drop_eq_nil_of_le (by omega : m.length ≤ k), List.drop_eq_getElem_cons h1, gN, if_neg (by omega), if_pos (by omega)]
  · by_cases h2 : k < m.length
    · rw [List.drop_eq_nil_of_le (by omega : l.length ≤ k), List.drop_eq_getElem_cons h2, gN, if_pos (by omega)]
    · rw [List.drop_eq_nil_of_le (by omega : m.length ≤ k), List.drop_eq_nil_of_le (by omega : l.length ≤ k), gN, if_neg (by omega), if_neg (by omega)]
theorem presL_on (l m : List (List UInt8)) (k : Nat) (h1 : k < l.length) (h2 : k < m.length) (h : fW l[k] m[k] = 0) : gN (l.drop k) (m.drop k) = gN (l.drop (k + 1)) (m.drop (k + 1)) := by
  rw [List.drop_eq_getElem_cons h1, List.drop_eq_getElem_cons h2, gN, if_neg (by simpa using h)]
theorem presL_off (l m : List (List UInt8)) (k : Nat) (h1 : k < l.length) (h2 : k < m.length) (h : ¬ fW l[k] m[k] = 0) : gN (l.drop k) (m.drop k) = fW l[k] m[k] := by
  rw [List.drop_eq_getElem_cons h1, List.drop_eq_getElem_cons h2, gN, if_pos h]
theorem own_cells {w : World} {base : Nat} {v : Value} {l : List (List UInt8)} (h : w.ownsRow base 9 1 v l.length (qN l)) (hl : 0 < l.length) :
    ∃ g cap, v = .slice (some ⟨g, 0, none⟩) l.length cap ∧ g < w.heap.size ∧ ∀ j (hj : j < l.length), w.cell? ⟨g, j, none⟩ = some (.string (mkS l[j])) := by
  rcases h.2 with ⟨_, h0⟩ | ⟨g, cap, cur, hv, hg, hh, hn, _⟩
  · omega
  · refine ⟨g, cap, hv, (Array.getElem?_eq_some_iff.1 hh).1, fun j hj => ?_⟩
    have h := h.cells (g := g) (by rw [hv]; rfl) j (.string (mkS l[j])) (by unfold qN; rw [List.getElem?_map, List.getElem?_eq_getElem hj]; rfl)
    have ha : (⟨g, 0, none⟩ : Addr).add j = ⟨g, j, none⟩ := by unfold Addr.add; split <;> simp_all
    rwa [ha] at h
theorem pcs_pos (s : List UInt8) : 0 < (pcs s).length := by
  have := bP 46 s []
  cases h : pcs s with
  | nil => exact absurd h this
  | cons _ _ => simp
theorem rpres_go (a b : List UInt8) (w : World) (ha : a.length ≤ 1000000) (hb : b.length ≤ 1000000) (n0 : a ≠ b) (na : a ≠ []) (nb : b ≠ []) :
    Calls Tryz.prog 187 #[.string (mkS a), .string (mkS b)] w fun e w' => e = .returned (.int .i64 (gN (pcs a) (pcs b))) ∧ Below w.heap.size w w' := by
  have e0 : ((mkS a).toList == (mkS b).toList) = false := by rw [Lib.toList_data, Lib.toList_data, mk_data, mk_data]; simpa using n0
  have ea : (mkS a).toList.isEmpty = false := by rw [Lib.toList_data, mk_data]; exact List.isEmpty_eq_false_iff.2 na
  have eb : (mkS b).toList.isEmpty = false := by rw [Lib.toList_data, mk_data]; exact List.isEmpty_eq_false_iff.2 nb
  have cA := fun w' => rsplit_mk a w' ha
  have cB := fun w' => rsplit_mk b w' hb
  have HA := Lib.hid (fV a)
  have HB := Lib.hid (fV b)
  have pa := pcs_pos a
  have pb := pcs_pos b
  have la := pcs_len a
  have lb := pcs_len b
  obtain ⟨l, hl⟩ : ∃ l, pcs a = l := ⟨_, rfl⟩
  obtain ⟨m, hm⟩ : ∃ l, pcs b = l := ⟨_, rfl⟩
  rw [hl] at cA HA pa la ⊢
  rw [hm] at cB HB pb lb ⊢
  clear n0 na nb hl hm
  go_enter Tryz.func187, Tryz.ntmps187
  go_wp2_with fail
  refine (cA _).mono ?_
  rintro e w1 ⟨v, rfl, hown1, hb1⟩
  obtain ⟨g1, cap1, rfl, hg1, hc1⟩ := own_cells hown1 pa
  go_wp2_with fail
  refine (cB _).mono ?_
  rintro e w2 ⟨v, rfl, hown2, hb2⟩
  obtain ⟨g2, cap2, rfl, hg2, hc2⟩ := own_cells hown2 pb
  have HC1 : Hid (∀ j (hj : j < l.length), w2.cell? ⟨g1, j, none⟩ = some (.string (mkS l[j]))) := fun j hj => (hb2.cell (p := ⟨g1, j, none⟩) hg1).trans (hc1 j hj)
  have HC2 := Lib.hid hc2
  have hg12 : g1 < w2.heap.size := Nat.lt_of_lt_of_le hg1 hb2.size
  have hbw : Below w.heap.size w w2 := hb1.trans (hb2.mono hb1.size)
  clear hc1 hc2 hown1 hown2 hb1 hb2 cA cB
  go_wp2
  go_loopw [7] (fun x wr => ∃ k : Nat, k ≤ l.length ∧ k ≤ m.length ∧ x = .int .i64 k ∧ Below w2.heap.size w2 wr ∧ Hid (gN (l.drop k) (m.drop k) = gN l m)) (fun x _ => l.length - (intOf x).toNat)
  case atStart => exact ⟨0, by omega, by omega, rfl, Below.refl _ _, rfl⟩
  case round =>
    obtain ⟨k, hk1, hk2, rfl, hbel, HR⟩ := hrel
    by_cases h1 : k < l.length
    · by_cases h2 : k < m.length
      · have i1 : (k : Int) < l.length := by omega
        have i2 : (k : Int) < m.length := by omega
        have q1 := (hbel.cell (p := ⟨g1, k, none⟩) hg12).trans (HC1.out k h1)
        have q2 := (hbel.cell (p := ⟨g2, k, none⟩) hg2).trans (HC2.out k h2)
        have t1 := Nat.le_trans (HA.out l[k] (List.getElem_mem h1)) ha
        have t2 := Nat.le_trans (HB.out m[k] (List.getElem_mem h2)) hb
        have cO := fun w' => rone_any l[k] m[k] w' t1 t2
        obtain ⟨o, ho⟩ : ∃ o, fW l[k] m[k] = o := ⟨_, rfl⟩
        rw [ho] at cO
        by_cases h0 : o = 0
        · have HQ : Hid (gN (l.drop (k + 1)) (m.drop (k + 1)) = gN l m) := by show _ = _; rw [← HR.out, presL_on l m k h1 h2 (ho.trans h0)]
          subst h0
          clear ho
          go_wp2_with fail
          go_region_with (go_at_call 211; refine (cO _).mono ?_; rintro e w4 ⟨rfl, rfl⟩)
          all_goals
            go_wp2
            go_roundw
            case rel => exact ⟨k + 1, by omega, by omega, by go_num, below_drew2 hbel, HQ.out⟩
            case measure => simp [intOf]; omega
        · have HQ : Hid (o = gN l m) := by show _ = _; rw [← HR.out, presL_off l m k h1 h2 (by rw [ho]; exact h0), ho]
          have h0b : (o != 0) = true := by simpa using h0
          clear ho
          go_wp2_with fail
          go_region_with (go_at_call 211; refine (cO _).mono ?_; rintro e w4 ⟨rfl, rfl⟩)
          all_goals
            go_wp2
            go_ret
            exact ⟨gB HQ.out, hbw.trans ((below_drew2 hbel).mono hbw.size)⟩
      · have i1 : (k : Int) < l.length := by omega
        have i2 : ¬ (k : Int) < m.length := by omega
        have HQ : Hid (Lib.compareInt l.length m.length = gN l m) := by show _ = _; rw [← HR.out, presL_end l m k hk1 hk2 (fun h => h2 h.2)]
        go_wp2_with (go_at_call 151; refine (j5 _ _ _).mono ?_; rintro e w4 ⟨rfl, rfl⟩)
        go_ret
        exact ⟨gB HQ.out, hbw.trans (hbel.mono hbw.size)⟩
    · have i1 : ¬ (k : Int) < l.length := by omega
      have HQ : Hid (Lib.compareInt l.length m.length = gN l m) := by show _ = _; rw [← HR.out, presL_end l m k hk1 hk2 (fun h => h1 h.1)]
      go_wp2_with (go_at_call 151; refine (j5 _ _ _).mono ?_; rintro e w4 ⟨rfl, rfl⟩)
      go_ret
      exact ⟨gB HQ.out, hbw.trans (hbel.mono hbw.size)⟩
theorem rpres_any (a b : List UInt8) (w : World) (ha : a.length ≤ 1000000) (hb : b.length ≤ 1000000) :
    Calls Tryz.prog 187 #[.string (mkS a), .string (mkS b)] w fun e w' => e = .returned (.int .i64 (qD a b)) ∧ Below w.heap.size w w' := by
  by_cases h0 : a = b
  · have e0 : ((mkS a).toList == (mkS b).toList) = true := by rw [h0]; simp
    have HC : Hid (qD a b = 0) := by show _ = _; unfold qD; rw [if_pos h0]
    clear h0
    go_enter Tryz.func187, Tryz.ntmps187
    go_wp2
    go_ret
    exact ⟨gB HC.out.symm, Below.refl _ _⟩
  · have e0 : ((mkS a).toList == (mkS b).toList) = false := by rw [Lib.toList_data, Lib.toList_data, mk_data, mk_data]; simpa using h0
    by_cases h1 : a = []
    · have ea : (mkS a).toList.isEmpty = true := by rw [Lib.toList_data, mk_data, h1]; rfl
      have HC : Hid (qD a b = 1) := by show _ = _; unfold qD; rw [if_neg h0, if_pos h1]
      clear h0 h1
      go_enter Tryz.func187, Tryz.ntmps187
      go_wp2
      go_ret
      exact ⟨gB HC.out.symm, Below.refl _ _⟩
    · have ea : (mkS a).toList.isEmpty = false := by rw [Lib.toList_data, mk_data]; exact List.isEmpty_eq_false_iff.2 h1
      by_cases h2 : b = []
      · have eb : (mkS b).toList.isEmpty = true := by rw [Lib.toList_data, mk_data, h2]; rfl
        have HC : Hid (qD a b = -1) := by show _ = _; unfold qD; rw [if_neg h0, if_neg h1, if_pos h2]
        clear h0 h1 h2
        go_enter Tryz.func187, Tryz.ntmps187
        go_wp2
        go_ret
        exact ⟨gB HC.out.symm, Below.refl _ _⟩
      · have hc : qD a b = gN (pcs a) (pcs b) := by unfold qD; rw [if_neg h0, if_neg h1, if_neg h2]
        rw [hc]
        exact rpres_go a b w ha hb h0 h1 h2
theorem cmpR_split (v u : Ver) : xQ v u = if v.may && u.may then (if Lib.compareInt v.maj u.maj ≠ 0 then Lib.compareInt v.maj u.maj else if Lib.compareInt v.min u.min ≠ 0 then Lib.compareInt v.min u.min else if Lib.compareInt v.pat u.pat ≠ 0 then Lib.compareInt v.pat u.pat else qD v.pre u.pre) else 0 := by
  unfold xQ dI
  by_cases h : (v.may && u.may) = true
  · rw [if_pos h, if_pos h]
    by_cases h1 : Lib.compareInt v.maj u.maj = 0
    · by_cases h2 : Lib.compareInt v.min u.min = 0
      · simp [h1, h2]
      · simp [h1, h2]
    · simp [h1]
  · rw [if_neg h, if_neg h]
theorem tB (v u : Ver) (w : World) (h1 : v.pre.length ≤ 1000000) (h2 : v.build.length ≤ 1000000) (h3 : u.pre.length ≤ 1000000) (h4 : u.build.length ≤ 1000000) :
    Calls Tryz.prog 152 #[yJ v, yJ u] w fun e w' => e = .returned (.int .i64 (xQ v u)) ∧ Below w.heap.size w w' := by
  have HC := Lib.hid (cmpR_split v u)
  have cM := fun w' => w0 v w' h1 h2
  have cN := fun w' => w0 u w' h3 h4
  have i1 := fun w' => j5 v.maj u.maj w'
  have i2 := fun w' => j5 v.min u.min w'
  have i3 := fun w' => j5 v.pat u.pat w'
  have cP := fun w' => rpres_any v.pre u.pre w' h1 h3
  obtain ⟨r, hr⟩ : ∃ r, xQ v u = r := ⟨_, rfl⟩
  obtain ⟨m, hm⟩ : ∃ r, v.may = r := ⟨_, rfl⟩
  obtain ⟨n, hn⟩ : ∃ r, u.may = r := ⟨_, rfl⟩
  obtain ⟨o1, ho1⟩ : ∃ r, Lib.compareInt v.maj u.maj = r := ⟨_, rfl⟩
  obtain ⟨o2, ho2⟩ : ∃ r, Lib.compareInt v.min u.min = r := ⟨_, rfl⟩
  obtain ⟨o3, ho3⟩ : ∃ r, Lib.compareInt v.pat u.pat = r := ⟨_, rfl⟩
  obtain ⟨o4, ho4⟩ : ∃ r, qD v.pre u.pre = r := ⟨_, rfl⟩
  rw [hr, hm, hn, ho1, ho2, ho3, ho4] at HC
  rw [hr]
  rw [hm] at cM
  rw [hn] at cN
  rw [ho1] at i1
  rw [ho2] at i2
  rw [ho3] at i3
  rw [ho4] at cP
  clear hr hm hn ho1 ho2 ho3 ho4
  obtain ⟨a1, a2, a3, p, q⟩ := v
  obtain ⟨b1, b2, b3, p', q'⟩ := u
  unfold yJ at cM cN ⊢
  dsimp only at cM cN i1 i2 i3 cP ⊢
  cases m with
  | false =>
    go_enter Tryz.func152, Tryz.ntmps152
    go_wp2_with (go_at_call 56; with_reducible refine (cM _).mono ?_; rintro e w1 ⟨rfl, hb1⟩)
    go_ret
    exact ⟨gB (by rw [HC.out]; simp), (((Below.refl _ _).alloc (Nat.le_refl _) _).alloc (by simp) _).trans (hb1.mono (by simp; omega))⟩
  | true =>
    go_enter Tryz.func152, Tryz.ntmps152
    go_wp2_with fail
    refine (cM _).mono ?_
    rintro e w1 ⟨rfl, hb1⟩
    have hz1 := hb1.size
    simp only [yA] at hz1
    have hgA := Lib.hid ((hb1.block w.heap.size (by simp only [yA]; omega)).trans ((kI _ _ (by simp only [yA]; omega)).trans (gX w _)))
    have hgB := Lib.hid ((hb1.block (w.heap.size + 1) (by simp only [yA]; omega)).trans (bB _ _ _ (by simp only [yA])))
    have hbw : Below w.heap.size w w1 := (((Below.refl _ _).alloc (Nat.le_refl _) _).alloc (by simp only [yA]; omega) _).trans (hb1.mono (by simp only [yA]; omega))
    clear hb1 cM
    obtain ⟨y0, _⟩ := xH (j := 0) hgB.out (by simp)
    obtain ⟨y1, _⟩ := xH (j := 1) hgB.out (by simp)
    obtain ⟨y2, _⟩ := xH (j := 2) hgB.out (by simp)
    obtain ⟨y3, _⟩ := xH (j := 3) hgB.out (by simp)
    obtain ⟨y4, _⟩ := xH (j := 4) hgB.out (by simp)
    simp only [List.getElem_toArray, List.getElem_cons_succ, List.getElem_cons_zero] at y0 y1 y2 y3 y4
    go_wp2_with fail
    refine (cN _).mono ?_
    rintro e w2 ⟨rfl, hb2⟩
    have hbw2 : Below w.heap.size w w2 := hbw.trans (hb2.mono hbw.size)
    cases n with
    | false =>
      go_wp2
      go_ret
      exact ⟨gB (by rw [HC.out]; simp), hbw2⟩
    | true =>
      have hA := (hb2.block w.heap.size (by omega)).trans hgA.out
      have hB := (hb2.block (w.heap.size + 1) (by omega)).trans hgB.out
      obtain ⟨k0, _⟩ := xH (j := 0) hA (by simp)
      obtain ⟨k1, _⟩ := xH (j := 1) hA (by simp)
      obtain ⟨k2, _⟩ := xH (j := 2) hA (by simp)
      obtain ⟨k3, _⟩ := xH (j := 3) hA (by simp)
      obtain ⟨m0, _⟩ := xH (j := 0) hB (by simp)
      obtain ⟨m1, _⟩ := xH (j := 1) hB (by simp)
      obtain ⟨m2, _⟩ := xH (j := 2) hB (by simp)
      obtain ⟨m3, _⟩ := xH (j := 3) hB (by simp)
      simp only [List.getElem_toArray, List.getElem_cons_succ, List.getElem_cons_zero] at k0 k1 k2 k3 m0 m1 m2 m3
      clear hA hB hb2 cN
      by_cases z1 : o1 = 0
      · by_cases z2 : o2 = 0
        · by_cases z3 : o3 = 0
          · subst z1 z2 z3
            go_wp2_with fail
            refine (i1 _).mono ?_
            rintro e w3 ⟨rfl, rfl⟩
            go_wp2_with fail
            refine (i2 _).mono ?_
            rintro e w3 ⟨rfl, rfl⟩
            go_wp2_with fail
            refine (i3 _).mono ?_
            rintro e w3 ⟨rfl, rfl⟩
            go_wp2_with fail
            refine (cP _).mono ?_
            rintro e w3 ⟨rfl, hb3⟩
            go_wp2
            go_ret
            exact ⟨gB (by rw [HC.out]; simp), hbw2.trans (hb3.mono hbw2.size)⟩
          · have z3b : (o3 != 0) = true := by simpa using z3
            have Z3 := Lib.hid z3
            subst z1 z2
            clear z3
            go_wp2_with fail
            refine (i1 _).mono ?_
            rintro e w3 ⟨rfl, rfl⟩
            go_wp2_with fail
            refine (i2 _).mono ?_
            rintro e w3 ⟨rfl, rfl⟩
            go_wp2_with fail
            refine (i3 _).mono ?_
            rintro e w3 ⟨rfl, rfl⟩
            go_wp2
            go_ret
            exact ⟨gB (by rw [HC.out]; simp [Z3.out]), hbw2⟩
        · have z2b : (o2 != 0) = true := by simpa using z2
          have Z2 := Lib.hid z2
          subst z1
          clear z2
          go_wp2_with fail
          refine (i1 _).mono ?_
          rintro e w3 ⟨rfl, rfl⟩
          go_wp2_with fail
          refine (i2 _).mono ?_
          rintro e w3 ⟨rfl, rfl⟩
          go_wp2
          go_ret
          exact ⟨gB (by rw [HC.out]; simp [Z2.out]), hbw2⟩
      · have z1b : (o1 != 0) = true := by simpa using z1
        have Z1 := Lib.hid z1
        clear z1
        go_wp2_with fail
        refine (i1 _).mono ?_
        rintro e w3 ⟨rfl, rfl⟩
        go_wp2
        go_ret
        exact ⟨gB (by rw [HC.out]; simp [Z1.out]), hbw2⟩
end
section
def Cu.short (c : Cu) : Prop := c.v.pre.length ≤ 1000000 ∧ c.v.build.length ≤ 1000000
def Ver.short (v : Ver) : Prop := v.pre.length ≤ 1000000 ∧ v.build.length ≤ 1000000
def Sp.short (s : Sp) : Prop := s.lo.short ∧ s.hi.short
theorem pG {c : Cu} (h : c.e = 0) : c.may = (c.v.may && c.v.build.isEmpty) := by unfold Cu.may; rw [if_pos h]
theorem jJ {c : Cu} (h : c.e = -1 ∨ c.e = 1) : c.may = decide (c = ⟨c.e, Ver.zero, false⟩) := by
  unfold Cu.may
  rw [if_neg (by omega), decide_eq_true h]
  obtain ⟨e, v, a⟩ := c
  simp only [Cu.mk.injEq, Bool.true_and, true_and, Bool.decide_and]
  cases a <;> simp
theorem pF {c : Cu} (h0 : ¬ c.e = 0) (h : ¬ (c.e = -1 ∨ c.e = 1)) : c.may = false := by
  unfold Cu.may; rw [if_neg h0, decide_eq_false h]; rfl
theorem less_any (a b : Cu) (W : World) (ha : a.short) (hb : b.short) : Calls Tryz.prog 202 #[zD a, zD b] W fun e w' => e = .returned (.bool (qI a b)) ∧ Below W.heap.size W w' := by
  refine zP (n := 31) Tryz.func202 rfl (by kernel_rfl) (by kernel_rfl) (ZO (Zb (zD a) (fun b1 => Zb (zD b) (fun b2 => Zv (.bool false) (ZN (z6 (ZO (Zv (.pointer (some ⟨b1, 0, none⟩)) ?_))))))))
  refine Zl 1 ⟨b1, (zD a).cells, 78⟩ (off := 0) (.int .i64 a.e) (Zv (.pointer (some ⟨b2, 0, none⟩)) (Zl 0 ⟨b2, (zD b).cells, 78⟩ (off := 0) (.int .i64 b.e) ?_))
  by_cases h1 : (a.e : Int) = b.e
  · refine jT (p := (a.e : Int) = b.e) true (by kernel_rfl) (fun _ => by kernel_rfl) (decide_eq_true (h1)) ?_
    refine ZX (ZB (z6 (ZO (Zv (.pointer (some ⟨b1, 1, none⟩)) (Zl 1 ⟨b1, (zD a).cells, 78⟩ (off := 1) (.agg #[.int .i64 a.v.maj, .int .i64 a.v.min, .int .i64 a.v.pat, .string (mkS a.v.pre), .string (mkS a.v.build)]) (Zv (.pointer (some ⟨b2, 1, none⟩)) (Zl 0 ⟨b2, (zD b).cells, 78⟩ (off := 1) (.agg #[.int .i64 b.v.maj, .int .i64 b.v.min, .int .i64 b.v.pat, .string (mkS b.v.pre), .string (mkS b.v.build)]) ?_)))))))
    refine Zc (k := 215) (args := #[.agg #[.int .i64 a.v.maj, .int .i64 a.v.min, .int .i64 a.v.pat, .string (mkS a.v.pre), .string (mkS a.v.build)], .agg #[.int .i64 b.v.maj, .int .i64 b.v.min, .int .i64 b.v.pat, .string (mkS b.v.pre), .string (mkS b.v.build)]]) (.int .i64 (xQ a.v b.v)) (fun w _ => vcompare_any a.v b.v w ha.1 ha.2 hb.1 hb.2) (ZN (zL (z6 (z7 ?_))))
    by_cases h2 : (xQ a.v b.v : Int) = -1
    · refine zW (p := (xQ a.v b.v : Int) = -1) true (by kernel_rfl) (fun _ => by kernel_rfl) (decide_eq_true (h2)) ?_
      refine Zv (.bool true) (ZY (ZO (Zv (.bool true) (ZN (zB (zG (z8 ?_)))))))
      exact ZF (.bool true) Tryz.results202 (fun w hO => ⟨by rw [show qI a b = true from by unfold qI; simp [h1, h2]], hO.below⟩)
    refine Zd (p := (xQ a.v b.v : Int) = -1) false (decide_eq_false (h2)) (Zv (.bool false) (ZX (z6 (z7 ?_))))
    by_cases h3 : (xQ a.v b.v : Int) = 1
    · refine zW (p := (xQ a.v b.v : Int) = 1) true (by kernel_rfl) (fun _ => by kernel_rfl) (decide_eq_true (h3)) ?_
      refine Zv (.bool true) (ZY (ZO (Zv (.bool false) (ZN (zB (zG (z8 ?_)))))))
      exact ZF (.bool false) Tryz.results202 (fun w hO => ⟨by rw [show qI a b = false from by unfold qI; simp [h1, h2, h3]], hO.below⟩)
    refine Zd (p := (xQ a.v b.v : Int) = 1) false (decide_eq_false (h3)) (Zv (.bool false) (ZX (x5 (zT (zA (ZO (Zv (.pointer (some ⟨b1, 6, none⟩)) (Zl 1 ⟨b1, (zD a).cells, 78⟩ (off := 6) (.bool a.aft) ?_))))))))
    cases h4 : a.aft with
    | true =>
      exact Zv (.bool false) (Zv (.bool false) (Zk (Zk (Zv (.bool false) (Zv (.bool false) (ZN (zB (ZF (.bool false) Tryz.results202 (fun w hO => ⟨by rw [show qI a b = false from by unfold qI; simp [h1, h2, h3, h4]], hO.below⟩)))))))))
    | false =>
      exact Zv (.bool true) (Zv (.bool true) (Zv (.pointer (some ⟨b2, 6, none⟩)) (Zl 0 ⟨b2, (zD b).cells, 78⟩ (off := 6) (.bool b.aft) (Zv (.bool b.aft) (Zv (.bool b.aft) (ZN (zB (ZF (.bool b.aft) Tryz.results202 (fun w hO => ⟨by rw [show qI a b = b.aft from by unfold qI; simp [h1, h2, h3, h4]], hO.below⟩)))))))))
  refine Zn (p := (a.e : Int) = b.e) false (decide_eq_false (h1)) (ZY (ZO (Zv (.pointer (some ⟨b1, 0, none⟩)) (Zl 1 ⟨b1, (zD a).cells, 78⟩ (off := 0) (.int .i64 a.e) (Zv (.pointer (some ⟨b2, 0, none⟩)) (Zl 0 ⟨b2, (zD b).cells, 78⟩ (off := 0) (.int .i64 b.e) ?_))))))
  by_cases h5 : (a.e : Int) < b.e
  · refine zW (p := (a.e : Int) < b.e) true (by kernel_rfl) (fun _ => by kernel_rfl) (decide_eq_true (h5)) ?_
    exact Zv (.bool true) (ZN (zB (z8 (ZF (.bool true) Tryz.results202 (fun w hO => ⟨by rw [show qI a b = true from by unfold qI; simp [h1, h5]], hO.below⟩)))))
  exact Zd (p := (a.e : Int) < b.e) false (decide_eq_false (h5)) (Zv (.bool false) (ZN (zB (z8 (ZF (.bool false) Tryz.results202 (fun w hO => ⟨by rw [show qI a b = false from by unfold qI; simp [h1, h5]], hO.below⟩))))))
theorem mayC_any (c : Cu) (W : World) (hc : c.short) : Calls Tryz.prog 201 #[zD c] W fun e w' => e = .returned (.bool c.may) ∧ Below W.heap.size W w' := by
  refine zP (n := 24) Tryz.func201 rfl (by kernel_rfl) (by kernel_rfl) (ZO (Zb (zD c) (fun b1 => Zv (.bool false) (ZN (z6 (ZO (Zv (.pointer (some ⟨b1, 0, none⟩)) (Zl 0 ⟨b1, (zD c).cells, 78⟩ (off := 0) (.int .i64 c.e) ?_))))))))
  refine ZN (zL (z6 (z6 (z7 ?_))))
  by_cases h1 : (c.e : Int) = -1
  · refine zW (p := (c.e : Int) = -1) true (by kernel_rfl) (fun _ => by kernel_rfl) (decide_eq_true (h1)) ?_
    refine Zv (.bool true) (ZY (ZB (Zt (ZO (Zl 0 ⟨b1, (zD c).cells, 78⟩ (off := 0) (zD c) (Zv (.pointer (some ⟨b1, 0, none⟩)) (Zl 0 ⟨b1, (zD c).cells, 78⟩ (off := 0) (.int .i64 c.e) ?_)))))))
    refine Zv (.agg #[.int .i64 c.e, .int .i64 0, .int .i64 0, .int .i64 0, .string ⟨#[]⟩, .string ⟨#[]⟩, .bool false]) ?_
    by_cases h2 : c = ⟨c.e, Ver.zero, false⟩
    · refine zV (.bool true) (by kernel_rfl) (j7 rfl (by kernel_rfl) (by kernel_rfl) (decide_eq_true (h2))) ?_
      exact Zv (.bool true) (ZN (zB (zG (z8 (ZF (.bool true) Tryz.results201 (fun w hO => ⟨by rw [show c.may = true from by first | exact (jJ (by omega)).trans (decide_eq_true (by assumption)) | exact (jJ (by omega)).trans (decide_eq_false (by assumption)) | (rw [pG (by omega)]; simp [h1, h2]) | (rw [pF (by omega) (by omega)])], hO.below⟩))))))
    exact zV (.bool false) (by kernel_rfl) (j7 rfl (by kernel_rfl) (by kernel_rfl) (decide_eq_false (h2))) (Zv (.bool false) (ZN (zB (zG (z8 (ZF (.bool false) Tryz.results201 (fun w hO => ⟨by rw [show c.may = false from by first | exact (jJ (by omega)).trans (decide_eq_true (by assumption)) | exact (jJ (by omega)).trans (decide_eq_false (by assumption)) | (rw [pG (by omega)]; simp [h1, h2]) | (rw [pF (by omega) (by omega)])], hO.below⟩)))))))
  refine Zd (p := (c.e : Int) = -1) false (decide_eq_false (h1)) (Zv (.bool false) (ZX (z7 ?_)))
  by_cases h3 : (c.e : Int) = 1
  · refine zW (p := (c.e : Int) = 1) true (by kernel_rfl) (fun _ => by kernel_rfl) (decide_eq_true (h3)) ?_
    refine Zv (.bool true) (ZY (ZO (Zl 0 ⟨b1, (zD c).cells, 78⟩ (off := 0) (zD c) (Zv (.pointer (some ⟨b1, 0, none⟩)) (Zl 0 ⟨b1, (zD c).cells, 78⟩ (off := 0) (.int .i64 c.e) (Zv (.agg #[.int .i64 c.e, .int .i64 0, .int .i64 0, .int .i64 0, .string ⟨#[]⟩, .string ⟨#[]⟩, .bool false]) ?_))))))
    by_cases h4 : c = ⟨c.e, Ver.zero, false⟩
    · refine zV (.bool true) (by kernel_rfl) (j7 rfl (by kernel_rfl) (by kernel_rfl) (decide_eq_true (h4))) ?_
      exact Zv (.bool true) (ZN (zB (zG (z8 (ZF (.bool true) Tryz.results201 (fun w hO => ⟨by rw [show c.may = true from by first | exact (jJ (by omega)).trans (decide_eq_true (by assumption)) | exact (jJ (by omega)).trans (decide_eq_false (by assumption)) | (rw [pG (by omega)]; simp [h1, h3, h4]) | (rw [pF (by omega) (by omega)])], hO.below⟩))))))
    exact zV (.bool false) (by kernel_rfl) (j7 rfl (by kernel_rfl) (by kernel_rfl) (decide_eq_false (h4))) (Zv (.bool false) (ZN (zB (zG (z8 (ZF (.bool false) Tryz.results201 (fun w hO => ⟨by rw [show c.may = false from by first | exact (jJ (by omega)).trans (decide_eq_true (by assumption)) | exact (jJ (by omega)).trans (decide_eq_false (by assumption)) | (rw [pG (by omega)]; simp [h1, h3, h4]) | (rw [pF (by omega) (by omega)])], hO.below⟩)))))))
  refine Zd (p := (c.e : Int) = 1) false (decide_eq_false (h3)) (Zv (.bool false) (ZX (z6 (z7 ?_))))
  by_cases h5 : (c.e : Int) = 0
  · refine zW (p := (c.e : Int) = 0) true (by kernel_rfl) (fun _ => by kernel_rfl) (decide_eq_true (h5)) ?_
    refine Zv (.bool true) (ZY (ZO (Zv (.pointer (some ⟨b1, 1, none⟩)) (Zv (.pointer (some ⟨b1, 5, none⟩)) (Zl 0 ⟨b1, (zD c).cells, 78⟩ (off := 5) (.string (mkS c.v.build)) ?_)))))
    by_cases h6 : (c.v.build : List UInt8) = []
    · refine zV (.bool true) (by kernel_rfl) (x4 (a := c.v.build) (b := ([])) rfl (by kernel_rfl) (by kernel_rfl) (decide_eq_true (h6))) ?_
      refine Zv (.bool true) (Zv (.pointer (some ⟨b1, 1, none⟩)) (Zl 0 ⟨b1, (zD c).cells, 78⟩ (off := 1) (.agg #[.int .i64 c.v.maj, .int .i64 c.v.min, .int .i64 c.v.pat, .string (mkS c.v.pre), .string (mkS c.v.build)]) (Zc (k := 119) (args := #[.agg #[.int .i64 c.v.maj, .int .i64 c.v.min, .int .i64 c.v.pat, .string (mkS c.v.pre), .string (mkS c.v.build)]]) (.bool c.v.may) (fun w _ => jI c.v w (Nat.lt_of_le_of_lt hc.1 (by decide)) (Nat.lt_of_le_of_lt hc.2 (by decide))) (Zv (.bool c.v.may) (Zv (.bool c.v.may) (ZN (zB (zG (z8 (ZF (.bool c.v.may) Tryz.results201 ?_))))))))))
      exact fun w hO => ⟨by rw [show c.may = c.v.may from by first | exact (jJ (by omega)).trans (decide_eq_true (by assumption)) | exact (jJ (by omega)).trans (decide_eq_false (by assumption)) | (rw [pG (by omega)]; simp [h1, h3, h5, h6]) | (rw [pF (by omega) (by omega)])], hO.below⟩
    refine zV (.bool false) (by kernel_rfl) (x4 (a := c.v.build) (b := ([])) rfl (by kernel_rfl) (by kernel_rfl) (decide_eq_false (h6))) (Zv (.bool false) (Zk (Zk (Zk (Zv (.bool false) (Zv (.bool false) (ZN (zB (zG (z8 ?_))))))))))
    exact ZF (.bool false) Tryz.results201 (fun w hO => ⟨by rw [show c.may = false from by first | exact (jJ (by omega)).trans (decide_eq_true (by assumption)) | exact (jJ (by omega)).trans (decide_eq_false (by assumption)) | (rw [pG (by omega)]; simp [h1, h3, h5, h6]) | (rw [pF (by omega) (by omega)])], hO.below⟩)
  refine Zd (p := (c.e : Int) = 0) false (decide_eq_false (h5)) (Zv (.bool false) (ZX (x5 (zT (zA (ZO (Zv (.bool false) (zR ?_))))))))
  exact zA (zB (ZF (.bool false) Tryz.results201 (fun w hO => ⟨by rw [show c.may = false from by first | exact (jJ (by omega)).trans (decide_eq_true (by assumption)) | exact (jJ (by omega)).trans (decide_eq_false (by assumption)) | (rw [pG (by omega)]; simp [h1, h3, h5]) | (rw [pF (by omega) (by omega)])], hO.below⟩)))
theorem bU (c : Cu) (W : World) (hc : c.short) : Calls Tryz.prog 150 #[zD c] W fun e w' => e = .returned (.bool c.may) ∧ Below W.heap.size W w' := by
  refine zP (n := 34) Tryz.func150 rfl (by kernel_rfl) (by kernel_rfl) (ZO (Zb (zD c) (fun b1 => Zv (.bool false) (ZN (z6 (ZO (Zv (.pointer (some ⟨b1, 0, none⟩)) (Zl 0 ⟨b1, (zD c).cells, 78⟩ (off := 0) (.int .i64 c.e) ?_))))))))
  by_cases h1 : (c.e : Int) = 0
  · refine zW (p := (c.e : Int) = 0) true (by kernel_rfl) (fun _ => by kernel_rfl) (decide_eq_true (h1)) ?_
    refine ZY (ZO (Zv (.pointer (some ⟨b1, 1, none⟩)) (Zl 0 ⟨b1, (zD c).cells, 78⟩ (off := 1) (.agg #[.int .i64 c.v.maj, .int .i64 c.v.min, .int .i64 c.v.pat, .string (mkS c.v.pre), .string (mkS c.v.build)]) (Zc (k := 56) (args := #[.agg #[.int .i64 c.v.maj, .int .i64 c.v.min, .int .i64 c.v.pat, .string (mkS c.v.pre), .string (mkS c.v.build)]]) (.bool c.v.may) (fun w _ => w0 c.v w hc.1 hc.2) (Zv (.bool c.v.may) ?_)))))
    cases h2 : c.v.may with
    | true =>
      refine Zv (.pointer (some ⟨b1, 1, none⟩)) (Zv (.pointer (some ⟨b1, 5, none⟩)) (Zl 0 ⟨b1, (zD c).cells, 78⟩ (off := 5) (.string (mkS c.v.build)) ?_))
      by_cases h3 : (c.v.build : List UInt8) = []
      · refine zV (.bool true) (by kernel_rfl) (x4 (a := c.v.build) (b := ([])) rfl (by kernel_rfl) (by kernel_rfl) (decide_eq_true (h3))) ?_
        exact Zv (.bool true) (Zv (.bool true) (ZN (zB (z8 (ZF (.bool true) Tryz.results150 (fun w hO => ⟨by rw [show c.may = true from by unfold Cu.may; simp [h1, h2, h3]], hO.below⟩))))))
      exact zV (.bool false) (by kernel_rfl) (x4 (a := c.v.build) (b := ([])) rfl (by kernel_rfl) (by kernel_rfl) (decide_eq_false (h3))) (Zv (.bool false) (Zv (.bool false) (ZN (zB (z8 (ZF (.bool false) Tryz.results150 (fun w hO => ⟨by rw [show c.may = false from by unfold Cu.may; simp [h1, h2, h3]], hO.below⟩)))))))
    | false =>
      exact Zk (Zk (Zk (Zk (Zv (.bool false) (Zv (.bool false) (ZN (zB (z8 (ZF (.bool false) Tryz.results150 (fun w hO => ⟨by rw [show c.may = false from by unfold Cu.may; simp [h1, h2]], hO.below⟩))))))))))
  refine Zd (p := (c.e : Int) = 0) false (decide_eq_false (h1)) (ZX (ZB (ZO (Zv (.pointer (some ⟨b1, 0, none⟩)) (Zl 0 ⟨b1, (zD c).cells, 78⟩ (off := 0) (.int .i64 c.e) ?_)))))
  by_cases h4 : (c.e : Int) = -1
  · refine zW (p := (c.e : Int) = -1) true (by kernel_rfl) (fun _ => by kernel_rfl) (decide_eq_true (h4)) ?_
    refine Zv (.bool true) (Zk (Zk (Zk (Zv (.bool true) (Zv (.bool true) (Zv (.pointer (some ⟨b1, 1, none⟩)) (Zl 0 ⟨b1, (zD c).cells, 78⟩ (off := 1) (.agg #[.int .i64 c.v.maj, .int .i64 c.v.min, .int .i64 c.v.pat, .string (mkS c.v.pre), .string (mkS c.v.build)]) (Zv (.agg #[.int .i64 0, .int .i64 0, .int .i64 0, .string ⟨#[]⟩, .string ⟨#[]⟩]) ?_))))))))
    by_cases h5 : c.v = Ver.zero
    · refine zV (.bool true) (by kernel_rfl) (j6 rfl (by kernel_rfl) (by kernel_rfl) (decide_eq_true (h5))) ?_
      refine Zv (.bool true) (Zv (.bool true) (Zv (.pointer (some ⟨b1, 6, none⟩)) (Zl 0 ⟨b1, (zD c).cells, 78⟩ (off := 6) (.bool c.aft) ?_)))
      cases h6 : c.aft with
      | true =>
        exact Zv (.bool false) (Zv (.bool false) (Zv (.bool false) (ZN (zB (ZF (.bool false) Tryz.results150 (fun w hO => ⟨by rw [show c.may = false from by unfold Cu.may; simp [h1, h4, h5, h6]], hO.below⟩))))))
      | false =>
        exact Zv (.bool true) (Zv (.bool true) (Zv (.bool true) (ZN (zB (ZF (.bool true) Tryz.results150 (fun w hO => ⟨by rw [show c.may = true from by unfold Cu.may; simp [h1, h4, h5, h6]], hO.below⟩))))))
    refine zV (.bool false) (by kernel_rfl) (j6 rfl (by kernel_rfl) (by kernel_rfl) (decide_eq_false (h5))) (Zv (.bool false) (Zv (.bool false) (Zk (Zk (Zk (Zv (.bool false) (Zv (.bool false) (ZN (zB (ZF (.bool false) Tryz.results150 ?_))))))))))
    exact fun w hO => ⟨by rw [show c.may = false from by unfold Cu.may; simp [h1, h4, h5]], hO.below⟩
  refine Zd (p := (c.e : Int) = -1) false (decide_eq_false (h4)) (Zv (.bool false) (Zv (.pointer (some ⟨b1, 0, none⟩)) (Zl 0 ⟨b1, (zD c).cells, 78⟩ (off := 0) (.int .i64 c.e) ?_)))
  by_cases h7 : (c.e : Int) = 1
  · refine zW (p := (c.e : Int) = 1) true (by kernel_rfl) (fun _ => by kernel_rfl) (decide_eq_true (h7)) ?_
    refine Zv (.bool true) (Zv (.bool true) (Zv (.pointer (some ⟨b1, 1, none⟩)) (Zl 0 ⟨b1, (zD c).cells, 78⟩ (off := 1) (.agg #[.int .i64 c.v.maj, .int .i64 c.v.min, .int .i64 c.v.pat, .string (mkS c.v.pre), .string (mkS c.v.build)]) (Zv (.agg #[.int .i64 0, .int .i64 0, .int .i64 0, .string ⟨#[]⟩, .string ⟨#[]⟩]) ?_))))
    by_cases h8 : c.v = Ver.zero
    · refine zV (.bool true) (by kernel_rfl) (j6 rfl (by kernel_rfl) (by kernel_rfl) (decide_eq_true (h8))) ?_
      refine Zv (.bool true) (Zv (.bool true) (Zv (.pointer (some ⟨b1, 6, none⟩)) (Zl 0 ⟨b1, (zD c).cells, 78⟩ (off := 6) (.bool c.aft) ?_)))
      cases h9 : c.aft with
      | true =>
        exact Zv (.bool false) (Zv (.bool false) (Zv (.bool false) (ZN (zB (ZF (.bool false) Tryz.results150 (fun w hO => ⟨by rw [show c.may = false from by unfold Cu.may; simp [h1, h4, h7, h8, h9]], hO.below⟩))))))
      | false =>
        exact Zv (.bool true) (Zv (.bool true) (Zv (.bool true) (ZN (zB (ZF (.bool true) Tryz.results150 (fun w hO => ⟨by rw [show c.may = true from by unfold Cu.may; simp [h1, h4, h7, h8, h9]], hO.below⟩))))))
    refine zV (.bool false) (by kernel_rfl) (j6 rfl (by kernel_rfl) (by kernel_rfl) (decide_eq_false (h8))) (Zv (.bool false) (Zv (.bool false) (Zk (Zk (Zk (Zv (.bool false) (Zv (.bool false) (ZN (zB (ZF (.bool false) Tryz.results150 ?_))))))))))
    exact fun w hO => ⟨by rw [show c.may = false from by unfold Cu.may; simp [h1, h4, h7, h8]], hO.below⟩
  refine Zd (p := (c.e : Int) = 1) false (decide_eq_false (h7)) (Zv (.bool false) (Zv (.bool false) (Zk (Zk (Zk (Zk (Zv (.bool false) (Zv (.bool false) (Zk (Zk (Zk ?_)))))))))))
  exact Zv (.bool false) (Zv (.bool false) (ZN (zB (ZF (.bool false) Tryz.results150 (fun w hO => ⟨by rw [show c.may = false from by unfold Cu.may; simp [h1, h4, h7]], hO.below⟩)))))
theorem m9 (a b : Cu) (W : World) (ha : a.short) (hb : b.short) : Calls Tryz.prog 173 #[zD a, zD b] W fun e w' => e = .returned (.int .i64 (zM a b)) ∧ Below W.heap.size W w' := by
  refine zP (n := 22) Tryz.func173 rfl (by kernel_rfl) (by kernel_rfl) (ZO (Zb (zD a) (fun b1 => Zb (zD b) (fun b2 => Zv (.int .i64 0) (ZN (z6 (zL (z6 (z7 ?_)))))))))
  refine Zl 1 ⟨b1, (zD a).cells, 78⟩ (off := 0) (zD a) (Zc (k := 201) (args := #[zD a]) (.bool a.may) (fun w _ => mayC_any a w ha) ?_)
  cases h1 : a.may with
  | true =>
    refine Zv (.bool false) (Zv (.bool false) (Zl 0 ⟨b2, (zD b).cells, 78⟩ (off := 0) (zD b) (Zc (k := 201) (args := #[zD b]) (.bool b.may) (fun w _ => mayC_any b w hb) ?_)))
    cases h2 : b.may with
    | true =>
      refine Zv (.bool false) (Zv (.bool false) (Zv (.bool false) (ZX (ZO (Zl 1 ⟨b1, (zD a).cells, 78⟩ (off := 0) (zD a) (Zl 0 ⟨b2, (zD b).cells, 78⟩ (off := 0) (zD b) (Zc (k := 202) (args := #[zD a, zD b]) (.bool (qI a b)) (fun w _ => less_any a b w ha hb) (Zv (.bool (qI a b)) ?_))))))))
      refine zR (zA ?_)
      cases h3 : qI a b with
      | true =>
        exact Zt (ZO (Zv (.int .i64 (-1)) (ZN (zB (zG (z8 (ZF (.int .i64 (-1)) Tryz.results173 (fun w hO => ⟨by rw [show zM a b = (-1) from by first | (rw [d8 (by assumption) (by assumption)]; simp [h1, h2, h3]) | (exact yT (.inl (by assumption))) | (exact yT (.inr (by assumption)))], hO.below⟩))))))))
      | false =>
        refine Zf (ZO (Zl 0 ⟨b2, (zD b).cells, 78⟩ (off := 0) (zD b) (Zl 1 ⟨b1, (zD a).cells, 78⟩ (off := 0) (zD a) (Zc (k := 202) (args := #[zD b, zD a]) (.bool (qI b a)) (fun w _ => less_any b a w hb ha) (Zv (.bool (qI b a)) (zR (zA ?_)))))))
        cases h4 : qI b a with
        | true =>
          exact Zt (ZO (Zv (.int .i64 1) (ZN (zB (zG (z8 (ZF (.int .i64 1) Tryz.results173 (fun w hO => ⟨by rw [show zM a b = 1 from by first | (rw [d8 (by assumption) (by assumption)]; simp [h1, h2, h3, h4]) | (exact yT (.inl (by assumption))) | (exact yT (.inr (by assumption)))], hO.below⟩))))))))
        | false =>
          exact Zf (x5 (zT (zA (ZO (Zv (.int .i64 0) (ZN (zB (ZF (.int .i64 0) Tryz.results173 (fun w hO => ⟨by rw [show zM a b = 0 from by first | (rw [d8 (by assumption) (by assumption)]; simp [h1, h2, h3, h4]) | (exact yT (.inl (by assumption))) | (exact yT (.inr (by assumption)))], hO.below⟩)))))))))
    | false =>
      refine Zv (.bool true) (Zv (.bool true) (Zv (.bool true) (ZY (ZO (Zv (.int .i64 0) (ZN (zB ?_)))))))
      exact zG (z8 (ZF (.int .i64 0) Tryz.results173 (fun w hO => ⟨by rw [show zM a b = 0 from by first | (rw [d8 (by assumption) (by assumption)]; simp [h1, h2]) | (exact yT (.inl (by assumption))) | (exact yT (.inr (by assumption)))], hO.below⟩)))
  | false =>
    refine Zv (.bool true) (Zv (.bool true) (Zk (Zk (Zk (Zv (.bool true) (Zv (.bool true) (ZY (z6 (z7 ?_)))))))))
    exact Zv (.int .i64 0) (ZN (zB (zG (z8 (ZF (.int .i64 0) Tryz.results173 (fun w hO => ⟨by rw [show zM a b = 0 from by first | (rw [d8 (by assumption) (by assumption)]; simp [h1]) | (exact yT (.inl (by assumption))) | (exact yT (.inr (by assumption)))], hO.below⟩))))))
theorem jG {a b : Cu} {r : Int} (ha : a.may = true) (hb : b.may = true) (h : (if a.e ≠ b.e ∨ a.e ≠ 0 then Lib.compareInt a.e b.e else if xQ a.v b.v ≠ 0 then xQ a.v b.v else if a.aft = b.aft then 0 else if b.aft then -1 else 1) = r) : zM a b = r := by
  rw [← h, qV ha hb]
  by_cases he : a.e = b.e
  · rw [he, yN, lex_0]
    by_cases h0 : b.e = 0
    · rw [if_neg (by omega)]
      unfold lex
      by_cases hc : xQ a.v b.v = 0
      · rw [if_pos hc, if_neg (by simpa using hc)]
        cases a.aft <;> cases b.aft <;> rfl
      · rw [if_neg hc, if_pos hc]
    · rw [if_pos (.inr h0)]
      have e1 : a.v = Ver.zero ∧ a.aft = false := (tJ ha).elim (fun x => absurd (he ▸ x.1) h0) (fun x => x.2)
      have e2 : b.v = Ver.zero ∧ b.aft = false := (tJ hb).elim (fun x => absurd x.1 h0) (fun x => x.2)
      rw [e1.1, e1.2, e2.1, e2.2, order_self]; rfl
  · rw [if_pos (.inl he)]
    rcases Int.lt_or_gt_of_ne he with h | h
    · rw [fK h]; rfl
    · rw [ci_gt h]; rfl
theorem jV (a b : Cu) (W : World) (ha : a.short) (hb : b.short) : Calls Tryz.prog 94 #[zD a, zD b] W fun e w' => e = .returned (.int .i64 (zM a b)) ∧ Below W.heap.size W w' := by
  refine zP (n := 46) Tryz.func94 rfl (by kernel_rfl) (by kernel_rfl) (ZO (Zb (zD a) (fun b1 => Zb (zD b) (fun b2 => Zv (.int .i64 0) (ZN (z6 (ZO (Zl 1 ⟨b1, (zD a).cells, 78⟩ (off := 0) (zD a) ?_))))))))
  refine Zc (k := 150) (args := #[zD a]) (.bool a.may) (fun w _ => bU a w ha) ?_
  cases h1 : a.may with
  | true =>
    refine Zv (.bool false) (Zv (.bool false) (Zl 0 ⟨b2, (zD b).cells, 78⟩ (off := 0) (zD b) (Zc (k := 150) (args := #[zD b]) (.bool b.may) (fun w _ => bU b w hb) ?_)))
    cases h2 : b.may with
    | true =>
      refine Zv (.bool false) (Zv (.bool false) (ZX (ZB (z6 (ZO (Zv (.pointer (some ⟨b1, 0, none⟩)) (Zl 1 ⟨b1, (zD a).cells, 78⟩ (off := 0) (.int .i64 a.e) ?_)))))))
      refine Zv (.pointer (some ⟨b2, 0, none⟩)) (Zl 0 ⟨b2, (zD b).cells, 78⟩ (off := 0) (.int .i64 b.e) ?_)
      by_cases h3 : (a.e : Int) = b.e
      · refine jT (p := (a.e : Int) = b.e) true (by kernel_rfl) (fun _ => by kernel_rfl) (decide_eq_true (h3)) ?_
        refine Zv (.bool false) (Zv (.pointer (some ⟨b1, 0, none⟩)) (Zl 1 ⟨b1, (zD a).cells, 78⟩ (off := 0) (.int .i64 a.e) ?_))
        by_cases h4 : (a.e : Int) = 0
        · refine jT (p := (a.e : Int) = 0) true (by kernel_rfl) (fun _ => by kernel_rfl) (decide_eq_true (h4)) ?_
          refine Zv (.bool false) (ZX (ZB (z6 (ZO (Zv (.pointer (some ⟨b1, 1, none⟩)) (Zl 1 ⟨b1, (zD a).cells, 78⟩ (off := 1) (.agg #[.int .i64 a.v.maj, .int .i64 a.v.min, .int .i64 a.v.pat, .string (mkS a.v.pre), .string (mkS a.v.build)]) (Zv (.pointer (some ⟨b2, 1, none⟩)) ?_)))))))
          refine Zl 0 ⟨b2, (zD b).cells, 78⟩ (off := 1) (.agg #[.int .i64 b.v.maj, .int .i64 b.v.min, .int .i64 b.v.pat, .string (mkS b.v.pre), .string (mkS b.v.build)]) (Zc (k := 152) (args := #[.agg #[.int .i64 a.v.maj, .int .i64 a.v.min, .int .i64 a.v.pat, .string (mkS a.v.pre), .string (mkS a.v.build)], .agg #[.int .i64 b.v.maj, .int .i64 b.v.min, .int .i64 b.v.pat, .string (mkS b.v.pre), .string (mkS b.v.build)]]) (.int .i64 (xQ a.v b.v)) (fun w _ => tB a.v b.v w ha.1 ha.2 hb.1 hb.2) (Zv (.int .i64 (xQ a.v b.v)) (ZR (Zv (.int .i64 (xQ a.v b.v)) ?_))))
          by_cases h5 : (xQ a.v b.v : Int) = 0
          · refine jT (p := (xQ a.v b.v : Int) = 0) true (by kernel_rfl) (fun _ => by kernel_rfl) (decide_eq_true (h5)) ?_
            refine ZX (ZB (z6 (zL (ZO (Zv (.pointer (some ⟨b1, 6, none⟩)) (Zl 1 ⟨b1, (zD a).cells, 78⟩ (off := 6) (.bool a.aft) (Zv (.pointer (some ⟨b2, 6, none⟩)) ?_)))))))
            refine Zl 0 ⟨b2, (zD b).cells, 78⟩ (off := 6) (.bool b.aft) ?_
            cases h6 : a.aft with
            | true =>
              cases h7 : b.aft with
              | true =>
                refine Zv (.bool true) (Zv (.bool true) (ZY (ZO (Zv (.int .i64 0) (ZN (zB (zG ?_)))))))
                exact z8 (ZF (.int .i64 0) Tryz.results94 (fun w hO => ⟨by rw [show zM a b = 0 from by first | (exact yT (.inl (by assumption))) | (exact yT (.inr (by assumption))) | exact jG (by assumption) (by assumption) (by simp_all)], hO.below⟩))
              | false =>
                refine Zv (.bool false) (Zv (.bool false) (ZX (ZO (Zv (.pointer (some ⟨b2, 6, none⟩)) (Zl 0 ⟨b2, (zD b).cells, 78⟩ (off := 6) (.bool b.aft) ?_)))))
                rw [h7]
                refine Zv (.bool false) (ZX (x5 (zT (zA (ZO (Zv (.int .i64 1) (zR (zA ?_))))))))
                exact zB (ZF (.int .i64 1) Tryz.results94 (fun w hO => ⟨by rw [show zM a b = 1 from by first | (exact yT (.inl (by assumption))) | (exact yT (.inr (by assumption))) | exact jG (by assumption) (by assumption) (by simp_all)], hO.below⟩))
            | false =>
              cases h8 : b.aft with
              | true =>
                refine Zv (.bool false) (Zv (.bool false) (ZX (ZO (Zv (.pointer (some ⟨b2, 6, none⟩)) (Zl 0 ⟨b2, (zD b).cells, 78⟩ (off := 6) (.bool b.aft) ?_)))))
                rw [h8]
                refine Zv (.bool true) (ZY (ZO (Zv (.int .i64 (-1)) (ZN (zB (zG (z8 ?_)))))))
                exact ZF (.int .i64 (-1)) Tryz.results94 (fun w hO => ⟨by rw [show zM a b = (-1) from by first | (exact yT (.inl (by assumption))) | (exact yT (.inr (by assumption))) | exact jG (by assumption) (by assumption) (by simp_all)], hO.below⟩)
              | false =>
                refine Zv (.bool true) (Zv (.bool true) (ZY (ZO (Zv (.int .i64 0) (ZN (zB (zG ?_)))))))
                exact z8 (ZF (.int .i64 0) Tryz.results94 (fun w hO => ⟨by rw [show zM a b = 0 from by first | (exact yT (.inl (by assumption))) | (exact yT (.inr (by assumption))) | exact jG (by assumption) (by assumption) (by simp_all)], hO.below⟩))
          refine Zn (p := (xQ a.v b.v : Int) = 0) false (decide_eq_false (h5)) (ZY (ZO (Zv (.int .i64 (xQ a.v b.v)) (Zv (.int .i64 (xQ a.v b.v)) (ZN (zB (z8 ?_)))))))
          exact ZF (.int .i64 (xQ a.v b.v)) Tryz.results94 (fun w hO => ⟨by rw [show zM a b = (xQ a.v b.v) from by first | (exact yT (.inl (by assumption))) | (exact yT (.inr (by assumption))) | exact jG (by assumption) (by assumption) (by simp_all)], hO.below⟩)
        refine Zn (p := (a.e : Int) = 0) false (decide_eq_false (h4)) (Zv (.bool true) (ZY (ZO (Zv (.pointer (some ⟨b1, 0, none⟩)) (Zl 1 ⟨b1, (zD a).cells, 78⟩ (off := 0) (.int .i64 a.e) (Zv (.pointer (some ⟨b2, 0, none⟩)) (Zl 0 ⟨b2, (zD b).cells, 78⟩ (off := 0) (.int .i64 b.e) (Zc (k := 151) (args := #[.int .i64 a.e, .int .i64 b.e]) (.int .i64 (Lib.compareInt a.e b.e)) (fun w _ => (j5 a.e b.e w).mono fun _ _ ⟨h1, h2⟩ => ⟨h1, h2 ▸ Below.refl _ _⟩) ?_))))))))
        exact Zv (.int .i64 (Lib.compareInt a.e b.e)) (ZN (zB (z8 (ZF (.int .i64 (Lib.compareInt a.e b.e)) Tryz.results94 (fun w hO => ⟨by rw [show zM a b = (Lib.compareInt a.e b.e) from by first | (exact yT (.inl (by assumption))) | (exact yT (.inr (by assumption))) | exact jG (by assumption) (by assumption) (by simp_all)], hO.below⟩)))))
      refine Zn (p := (a.e : Int) = b.e) false (decide_eq_false (h3)) (Zv (.bool true) (Zk (Zk (Zk (Zv (.bool true) (ZY (ZO (Zv (.pointer (some ⟨b1, 0, none⟩)) ?_))))))))
      exact Zl 1 ⟨b1, (zD a).cells, 78⟩ (off := 0) (.int .i64 a.e) (Zv (.pointer (some ⟨b2, 0, none⟩)) (Zl 0 ⟨b2, (zD b).cells, 78⟩ (off := 0) (.int .i64 b.e) (Zc (k := 151) (args := #[.int .i64 a.e, .int .i64 b.e]) (.int .i64 (Lib.compareInt a.e b.e)) (fun w _ => (j5 a.e b.e w).mono fun _ _ ⟨h1, h2⟩ => ⟨h1, h2 ▸ Below.refl _ _⟩) (Zv (.int .i64 (Lib.compareInt a.e b.e)) (ZN (zB (z8 (ZF (.int .i64 (Lib.compareInt a.e b.e)) Tryz.results94 (fun w hO => ⟨by rw [show zM a b = (Lib.compareInt a.e b.e) from by first | (exact yT (.inl (by assumption))) | (exact yT (.inr (by assumption))) | exact jG (by assumption) (by assumption) (by simp_all)], hO.below⟩)))))))))
    | false =>
      refine Zv (.bool true) (Zv (.bool true) (ZY (ZO (Zv (.int .i64 0) (ZN (zB (z8 ?_)))))))
      exact ZF (.int .i64 0) Tryz.results94 (fun w hO => ⟨by rw [show zM a b = 0 from by first | (exact yT (.inl (by assumption))) | (exact yT (.inr (by assumption))) | exact jG (by assumption) (by assumption) (by simp_all)], hO.below⟩)
  | false =>
    refine Zv (.bool true) (Zv (.bool true) (Zk (Zk (Zk (Zv (.bool true) (ZY (ZO (Zv (.int .i64 0) ?_))))))))
    exact ZN (zB (z8 (ZF (.int .i64 0) Tryz.results94 (fun w hO => ⟨by rw [show zM a b = 0 from by first | (exact yT (.inl (by assumption))) | (exact yT (.inr (by assumption))) | exact jG (by assumption) (by assumption) (by simp_all)], hO.below⟩))))
theorem raheadC_any (c : Cu) (v : Ver) (W : World) (hc : c.short) (hv : v.short) : Calls Tryz.prog 144 #[zD c, yJ v] W fun e w' => e = .returned (.bool (xK c v)) ∧ Below W.heap.size W w' := by
  refine zP (n := 35) Tryz.func144 rfl (by kernel_rfl) (by kernel_rfl) (ZO (Zb (zD c) (fun b1 => Zb (yJ v) (fun b2 => Zv (.bool false) (ZN (z6 (ZO (Zl 1 ⟨b1, (zD c).cells, 78⟩ (off := 0) (zD c) ?_))))))))
  refine Zc (k := 150) (args := #[zD c]) (.bool c.may) (fun w _ => bU c w hc) ?_
  cases h1 : c.may with
  | true =>
    refine Zv (.bool false) (Zv (.bool false) (Zl 0 ⟨b2, (yJ v).cells, 44⟩ (off := 0) (yJ v) (Zc (k := 56) (args := #[yJ v]) (.bool v.may) (fun w _ => w0 v w hv.1 hv.2) ?_)))
    cases h2 : v.may with
    | true =>
      refine Zv (.bool false) (Zv (.bool false) (ZX (ZB (z6 (ZO (Zv (.pointer (some ⟨b1, 0, none⟩)) (Zl 1 ⟨b1, (zD c).cells, 78⟩ (off := 0) (.int .i64 c.e) ?_)))))))
      by_cases h3 : (c.e : Int) = 0
      · refine jT (p := (c.e : Int) = 0) true (by kernel_rfl) (fun _ => by kernel_rfl) (decide_eq_true (h3)) ?_
        refine ZX (ZB (ZO (Zv (.pointer (some ⟨b1, 1, none⟩)) (Zl 1 ⟨b1, (zD c).cells, 78⟩ (off := 1) (.agg #[.int .i64 c.v.maj, .int .i64 c.v.min, .int .i64 c.v.pat, .string (mkS c.v.pre), .string (mkS c.v.build)]) (Zl 0 ⟨b2, (yJ v).cells, 44⟩ (off := 0) (yJ v) (Zc (k := 152) (args := #[.agg #[.int .i64 c.v.maj, .int .i64 c.v.min, .int .i64 c.v.pat, .string (mkS c.v.pre), .string (mkS c.v.build)], yJ v]) (.int .i64 (xQ c.v v)) (fun w _ => tB c.v v w hc.1 hc.2 hv.1 hv.2) (Zv (.int .i64 (xQ c.v v)) ?_)))))))
        refine ZR (Zv (.int .i64 (xQ c.v v)) ?_)
        by_cases h4 : (xQ c.v v : Int) < 0
        · refine zW (p := (xQ c.v v : Int) < 0) true (by kernel_rfl) (fun _ => by kernel_rfl) (decide_eq_true (h4)) ?_
          refine Zv (.bool true) (Zk (Zk (Zk (Zk (Zk (Zk (Zk (Zv (.bool true) (Zv (.bool true) (zR (zA ?_)))))))))))
          exact zB (ZF (.bool true) Tryz.results144 (fun w hO => ⟨by rw [show xK c v = true from by unfold xK; simp [h1, h2, h3, h4]], hO.below⟩))
        refine Zd (p := (xQ c.v v : Int) < 0) false (decide_eq_false (h4)) (Zv (.bool false) (Zv (.int .i64 (xQ c.v v)) ?_))
        by_cases h5 : (xQ c.v v : Int) = 0
        · refine zW (p := (xQ c.v v : Int) = 0) true (by kernel_rfl) (fun _ => by kernel_rfl) (decide_eq_true (h5)) ?_
          refine Zv (.bool true) (Zv (.pointer (some ⟨b1, 6, none⟩)) (Zl 1 ⟨b1, (zD c).cells, 78⟩ (off := 6) (.bool c.aft) ?_))
          cases h6 : c.aft with
          | true =>
            exact Zv (.bool false) (Zv (.bool false) (Zv (.bool false) (Zv (.bool false) (ZN (zB (ZF (.bool false) Tryz.results144 (fun w hO => ⟨by rw [show xK c v = false from by unfold xK; simp [h1, h2, h3, h4, h5, h6]], hO.below⟩)))))))
          | false =>
            exact Zv (.bool true) (Zv (.bool true) (Zv (.bool true) (Zv (.bool true) (ZN (zB (ZF (.bool true) Tryz.results144 (fun w hO => ⟨by rw [show xK c v = true from by unfold xK; simp [h1, h2, h3, h4, h5, h6]], hO.below⟩)))))))
        refine Zd (p := (xQ c.v v : Int) = 0) false (decide_eq_false (h5)) (Zv (.bool false) (Zk (Zk (Zk (Zv (.bool false) (Zv (.bool false) (Zv (.bool false) (ZN (zB (ZF (.bool false) Tryz.results144 ?_))))))))))
        exact fun w hO => ⟨by rw [show xK c v = false from by unfold xK; simp [h1, h2, h3, h4, h5]], hO.below⟩
      refine Zn (p := (c.e : Int) = 0) false (decide_eq_false (h3)) (ZY (ZO (Zv (.pointer (some ⟨b1, 0, none⟩)) (Zl 1 ⟨b1, (zD c).cells, 78⟩ (off := 0) (.int .i64 c.e) ?_))))
      by_cases h7 : (c.e : Int) < 0
      · refine zW (p := (c.e : Int) < 0) true (by kernel_rfl) (fun _ => by kernel_rfl) (decide_eq_true (h7)) ?_
        exact Zv (.bool true) (ZN (zB (z8 (ZF (.bool true) Tryz.results144 (fun w hO => ⟨by rw [show xK c v = true from by unfold xK; simp [h1, h2, h3, h7]], hO.below⟩)))))
      exact Zd (p := (c.e : Int) < 0) false (decide_eq_false (h7)) (Zv (.bool false) (ZN (zB (z8 (ZF (.bool false) Tryz.results144 (fun w hO => ⟨by rw [show xK c v = false from by unfold xK; simp [h1, h2, h3, h7]], hO.below⟩))))))
    | false =>
      refine Zv (.bool true) (Zv (.bool true) (ZY (ZO (Zv (.bool false) (ZN (zB (z8 ?_)))))))
      exact ZF (.bool false) Tryz.results144 (fun w hO => ⟨by rw [show xK c v = false from by unfold xK; simp [h1, h2]], hO.below⟩)
  | false =>
    refine Zv (.bool true) (Zv (.bool true) (Zk (Zk (Zk (Zv (.bool true) (ZY (ZO (Zv (.bool false) ?_))))))))
    exact ZN (zB (z8 (ZF (.bool false) Tryz.results144 (fun w hO => ⟨by rw [show xK c v = false from by unfold xK; simp [h1]], hO.below⟩))))
theorem wW (s : Sp) (W : World) (hs : s.short) : Calls Tryz.prog 139 #[yK s] W fun e w' => e = .returned (.bool s.may) ∧ Below W.heap.size W w' := by
  refine zP (n := 9) Tryz.func139 rfl (by kernel_rfl) (by kernel_rfl) (ZO (Zb (yK s) (fun b1 => Zv (.bool false) (ZR (Zv (.pointer (some ⟨b1, 0, none⟩)) (Zl 0 ⟨b1, (yK s).cells, 80⟩ (off := 0) (.agg #[.int .i64 s.lo.e, .int .i64 s.lo.v.maj, .int .i64 s.lo.v.min, .int .i64 s.lo.v.pat, .string (mkS s.lo.v.pre), .string (mkS s.lo.v.build), .bool s.lo.aft]) (Zv (.pointer (some ⟨b1, 7, none⟩)) ?_)))))))
  refine Zl 0 ⟨b1, (yK s).cells, 80⟩ (off := 7) (.agg #[.int .i64 s.hi.e, .int .i64 s.hi.v.maj, .int .i64 s.hi.v.min, .int .i64 s.hi.v.pat, .string (mkS s.hi.v.pre), .string (mkS s.hi.v.build), .bool s.hi.aft]) (Zc (k := 173) (args := #[.agg #[.int .i64 s.lo.e, .int .i64 s.lo.v.maj, .int .i64 s.lo.v.min, .int .i64 s.lo.v.pat, .string (mkS s.lo.v.pre), .string (mkS s.lo.v.build), .bool s.lo.aft], .agg #[.int .i64 s.hi.e, .int .i64 s.hi.v.maj, .int .i64 s.hi.v.min, .int .i64 s.hi.v.pat, .string (mkS s.hi.v.pre), .string (mkS s.hi.v.build), .bool s.hi.aft]]) (.int .i64 (zM s.lo s.hi)) (fun w _ => m9 s.lo s.hi w hs.1 hs.2) ?_)
  by_cases h1 : (zM s.lo s.hi : Int) = -1
  · refine zW (p := (zM s.lo s.hi : Int) = -1) true (by kernel_rfl) (fun _ => by kernel_rfl) (decide_eq_true (h1)) ?_
    exact Zv (.bool true) (ZN (zB (ZF (.bool true) Tryz.results139 (fun w hO => ⟨by rw [show s.may = true from by unfold Sp.may; simp [h1]], hO.below⟩))))
  exact Zd (p := (zM s.lo s.hi : Int) = -1) false (decide_eq_false (h1)) (Zv (.bool false) (ZN (zB (ZF (.bool false) Tryz.results139 (fun w hO => ⟨by rw [show s.may = false from by unfold Sp.may; simp [h1]], hO.below⟩)))))
theorem dP (s : Sp) (W : World) (hs : s.short) : Calls Tryz.prog 96 #[yK s] W fun e w' => e = .returned (.bool s.may) ∧ Below W.heap.size W w' := by
  refine zP (n := 19) Tryz.func96 rfl (by kernel_rfl) (by kernel_rfl) (ZO (Zb (yK s) (fun b1 => Zv (.bool false) (ZR (Zv (.pointer (some ⟨b1, 0, none⟩)) (Zl 0 ⟨b1, (yK s).cells, 80⟩ (off := 0) (.agg #[.int .i64 s.lo.e, .int .i64 s.lo.v.maj, .int .i64 s.lo.v.min, .int .i64 s.lo.v.pat, .string (mkS s.lo.v.pre), .string (mkS s.lo.v.build), .bool s.lo.aft]) (Zc (k := 150) (args := #[.agg #[.int .i64 s.lo.e, .int .i64 s.lo.v.maj, .int .i64 s.lo.v.min, .int .i64 s.lo.v.pat, .string (mkS s.lo.v.pre), .string (mkS s.lo.v.build), .bool s.lo.aft]]) (.bool s.lo.may) (fun w _ => bU s.lo w hs.1) ?_)))))))
  refine Zv (.bool s.lo.may) ?_
  cases h1 : s.lo.may with
  | true =>
    refine Zv (.pointer (some ⟨b1, 7, none⟩)) (Zl 0 ⟨b1, (yK s).cells, 80⟩ (off := 7) (.agg #[.int .i64 s.hi.e, .int .i64 s.hi.v.maj, .int .i64 s.hi.v.min, .int .i64 s.hi.v.pat, .string (mkS s.hi.v.pre), .string (mkS s.hi.v.build), .bool s.hi.aft]) (Zc (k := 150) (args := #[.agg #[.int .i64 s.hi.e, .int .i64 s.hi.v.maj, .int .i64 s.hi.v.min, .int .i64 s.hi.v.pat, .string (mkS s.hi.v.pre), .string (mkS s.hi.v.build), .bool s.hi.aft]]) (.bool s.hi.may) (fun w _ => bU s.hi w hs.2) (Zv (.bool s.hi.may) (Zv (.bool s.hi.may) ?_))))
    cases h2 : s.hi.may with
    | true =>
      refine Zv (.pointer (some ⟨b1, 0, none⟩)) (Zl 0 ⟨b1, (yK s).cells, 80⟩ (off := 0) (.agg #[.int .i64 s.lo.e, .int .i64 s.lo.v.maj, .int .i64 s.lo.v.min, .int .i64 s.lo.v.pat, .string (mkS s.lo.v.pre), .string (mkS s.lo.v.build), .bool s.lo.aft]) (Zv (.pointer (some ⟨b1, 7, none⟩)) (Zl 0 ⟨b1, (yK s).cells, 80⟩ (off := 7) (.agg #[.int .i64 s.hi.e, .int .i64 s.hi.v.maj, .int .i64 s.hi.v.min, .int .i64 s.hi.v.pat, .string (mkS s.hi.v.pre), .string (mkS s.hi.v.build), .bool s.hi.aft]) (Zc (k := 94) (args := #[.agg #[.int .i64 s.lo.e, .int .i64 s.lo.v.maj, .int .i64 s.lo.v.min, .int .i64 s.lo.v.pat, .string (mkS s.lo.v.pre), .string (mkS s.lo.v.build), .bool s.lo.aft], .agg #[.int .i64 s.hi.e, .int .i64 s.hi.v.maj, .int .i64 s.hi.v.min, .int .i64 s.hi.v.pat, .string (mkS s.hi.v.pre), .string (mkS s.hi.v.build), .bool s.hi.aft]]) (.int .i64 (zM s.lo s.hi)) (fun w _ => jV s.lo s.hi w hs.1 hs.2) ?_))))
      by_cases h3 : (zM s.lo s.hi : Int) < 0
      · refine zW (p := (zM s.lo s.hi : Int) < 0) true (by kernel_rfl) (fun _ => by kernel_rfl) (decide_eq_true (h3)) ?_
        exact Zv (.bool true) (Zv (.bool true) (ZN (zB (ZF (.bool true) Tryz.results96 (fun w hO => ⟨by rw [show s.may = true from by rw [← pZ]; simp [h1, h2, h3]], hO.below⟩)))))
      exact Zd (p := (zM s.lo s.hi : Int) < 0) false (decide_eq_false (h3)) (Zv (.bool false) (Zv (.bool false) (ZN (zB (ZF (.bool false) Tryz.results96 (fun w hO => ⟨by rw [show s.may = false from by rw [← pZ]; simp [h1, h2, h3]], hO.below⟩))))))
    | false =>
      refine Zk (Zk (Zk (Zk (Zk (Zk (Zv (.bool false) (Zv (.bool false) (ZN (zB (ZF (.bool false) Tryz.results96 ?_))))))))))
      exact fun w hO => ⟨by rw [show s.may = false from by rw [← pZ]; simp [h1, h2]], hO.below⟩
  | false =>
    refine Zk (Zk (Zk (Zv (.bool false) (Zv (.bool false) (Zk (Zk (Zk (Zk (Zk (Zk (Zv (.bool false) ?_)))))))))))
    exact Zv (.bool false) (ZN (zB (ZF (.bool false) Tryz.results96 (fun w hO => ⟨by rw [show s.may = false from by rw [← pZ]; simp [h1]], hO.below⟩))))
theorem rholdsC_any (s : Sp) (v : Ver) (W : World) (hs : s.short) (hv : v.short) : Calls Tryz.prog 92 #[yK s, yJ v] W fun e w' => e = .returned (.bool (q9 s v)) ∧ Below W.heap.size W w' := by
  refine zP (n := 24) Tryz.func92 rfl (by kernel_rfl) (by kernel_rfl) (ZO (Zb (yK s) (fun b1 => Zb (yJ v) (fun b2 => Zv (.bool false) (ZR (Zl 1 ⟨b1, (yK s).cells, 80⟩ (off := 0) (yK s) (Zc (k := 96) (args := #[yK s]) (.bool s.may) (fun w _ => dP s w hs) ?_)))))))
  refine Zv (.bool s.may) ?_
  cases h1 : s.may with
  | true =>
    refine Zl 0 ⟨b2, (yJ v).cells, 44⟩ (off := 0) (yJ v) (Zc (k := 56) (args := #[yJ v]) (.bool v.may) (fun w _ => w0 v w hv.1 hv.2) (Zv (.bool v.may) (Zv (.bool v.may) ?_)))
    cases h2 : v.may with
    | true =>
      refine Zv (.pointer (some ⟨b1, 0, none⟩)) (Zl 1 ⟨b1, (yK s).cells, 80⟩ (off := 0) (.agg #[.int .i64 s.lo.e, .int .i64 s.lo.v.maj, .int .i64 s.lo.v.min, .int .i64 s.lo.v.pat, .string (mkS s.lo.v.pre), .string (mkS s.lo.v.build), .bool s.lo.aft]) (Zl 0 ⟨b2, (yJ v).cells, 44⟩ (off := 0) (yJ v) (Zc (k := 144) (args := #[.agg #[.int .i64 s.lo.e, .int .i64 s.lo.v.maj, .int .i64 s.lo.v.min, .int .i64 s.lo.v.pat, .string (mkS s.lo.v.pre), .string (mkS s.lo.v.build), .bool s.lo.aft], yJ v]) (.bool (xK s.lo v)) (fun w _ => raheadC_any s.lo v w hs.1 hv) (Zv (.bool (xK s.lo v)) (Zv (.bool (xK s.lo v)) ?_)))))
      cases h3 : xK s.lo v with
      | true =>
        refine Zv (.pointer (some ⟨b1, 7, none⟩)) (Zl 1 ⟨b1, (yK s).cells, 80⟩ (off := 7) (.agg #[.int .i64 s.hi.e, .int .i64 s.hi.v.maj, .int .i64 s.hi.v.min, .int .i64 s.hi.v.pat, .string (mkS s.hi.v.pre), .string (mkS s.hi.v.build), .bool s.hi.aft]) (Zl 0 ⟨b2, (yJ v).cells, 44⟩ (off := 0) (yJ v) (Zc (k := 144) (args := #[.agg #[.int .i64 s.hi.e, .int .i64 s.hi.v.maj, .int .i64 s.hi.v.min, .int .i64 s.hi.v.pat, .string (mkS s.hi.v.pre), .string (mkS s.hi.v.build), .bool s.hi.aft], yJ v]) (.bool (xK s.hi v)) (fun w _ => raheadC_any s.hi v w hs.2 hv) ?_)))
        cases h4 : xK s.hi v with
        | true =>
          exact Zv (.bool false) (Zv (.bool false) (Zv (.bool false) (ZN (zB (ZF (.bool false) Tryz.results92 (fun w hO => ⟨by rw [show q9 s v = false from by rw [← d9]; simp [h1, h2, h3, h4]], hO.below⟩))))))
        | false =>
          exact Zv (.bool true) (Zv (.bool true) (Zv (.bool true) (ZN (zB (ZF (.bool true) Tryz.results92 (fun w hO => ⟨by rw [show q9 s v = true from by rw [← d9]; simp [h1, h2, h3, h4]], hO.below⟩))))))
      | false =>
        exact Zk (Zk (Zk (Zk (Zk (Zv (.bool false) (Zv (.bool false) (ZN (zB (ZF (.bool false) Tryz.results92 (fun w hO => ⟨by rw [show q9 s v = false from by rw [← d9]; simp [h1, h2, h3]], hO.below⟩))))))))))
    | false =>
      refine Zk (Zk (Zk (Zk (Zv (.bool false) (Zv (.bool false) (Zk (Zk (Zk (Zk (Zk (Zv (.bool false) ?_)))))))))))
      exact Zv (.bool false) (ZN (zB (ZF (.bool false) Tryz.results92 (fun w hO => ⟨by rw [show q9 s v = false from by rw [← d9]; simp [h1, h2]], hO.below⟩))))
  | false =>
    refine Zk (Zk (Zv (.bool false) (Zv (.bool false) (Zk (Zk (Zk (Zk (Zv (.bool false) (Zv (.bool false) (Zk (Zk ?_)))))))))))
    exact Zk (Zk (Zk (Zv (.bool false) (Zv (.bool false) (ZN (zB (ZF (.bool false) Tryz.results92 (fun w hO => ⟨by rw [show q9 s v = false from by rw [← d9]; simp [h1]], hO.below⟩))))))))
end
section
theorem qW {a b c : Cu} (ha : a.may = true) (hb : b.may = true) (hc : c.may = true) (h1 : zM a b ≤ 0) (h2 : zM b c ≤ 0) : zM a c ≤ 0 := (cut_on ha hb hc h1 h2).1
theorem pM {a b c : Cu} (ha : a.may = true) (hb : b.may = true) (hc : c.may = true) (h1 : zM a b ≤ 0) (h2 : zM b c < 0) : zM a c < 0 := by
  have h := cut_on ha hb hc h1 (by omega)
  rcases Int.lt_or_eq_of_le h.1 with h3 | h3
  · exact h3
  · have := (h.2 h3).2; omega
theorem wM {a b c : Cu} (ha : a.may = true) (hb : b.may = true) (hc : c.may = true) (h1 : zM a b < 0) (h2 : zM b c ≤ 0) : zM a c < 0 := by
  have h := cut_on ha hb hc (by omega) h2
  rcases Int.lt_or_eq_of_le h.1 with h3 | h3
  · exact h3
  · have := (h.2 h3).1; omega
theorem xT {a b c : Cu} (ha : a.may = true) (hb : b.may = true) (hc : c.may = true) (h1 : zM a b < 0) (h2 : zM b c < 0) : zM a c < 0 := pM ha hb hc (by omega) h2
theorem clt_flip {a b : Cu} (h : ¬ zM a b ≤ 0) : zM b a < 0 := by have := xJ (a := a) (b := b); omega
theorem jN {a b : Cu} (h : ¬ zM a b < 0) : zM b a ≤ 0 := by have := xJ (a := a) (b := b); omega
theorem g7 (a : Cu) : zM a a = 0 := by have := xJ (a := a) (b := a); omega
theorem clt_not {a b : Cu} (h : zM a b < 0) : ¬ zM b a ≤ 0 := by have := xJ (a := a) (b := b); omega
def zK : List Sp → Bool
  | [] => true
  | [s] => s.may
  | s :: t :: r => s.may && decide (zM s.hi t.lo < 0) && zK (t :: r)
def g8 (s : Sp) (c : Cu) : Bool := decide (zM s.lo c ≤ 0) && decide (zM c s.hi < 0)
def den (l : List Sp) (c : Cu) : Bool := l.any (g8 · c)
def xM (l : List Sp) (v : Ver) : Bool := zK l && l.any (q9 · v)
theorem xU {s : Sp} {l : List Sp} (h : zK (s :: l) = true) : s.may = true := by
  cases l with
  | nil => exact h
  | cons t r => unfold zK at h; simp only [Bool.and_eq_true] at h; exact h.1.1
theorem kS {s : Sp} {l : List Sp} (h : zK (s :: l) = true) : zK l = true := by
  cases l with
  | nil => rfl
  | cons t r => unfold zK at h; simp only [Bool.and_eq_true] at h; exact h.2
theorem x9 {l : List Sp} (h : zK l = true) : ∀ s ∈ l, s.may = true := by
  induction l with
  | nil => simp
  | cons s l ih =>
    intro t ht
    rcases List.mem_cons.1 ht with rfl | ht
    · exact xU h
    · exact ih (kS h) t ht
theorem uL {s : Sp} (h : s.may = true) : zM s.lo s.hi < 0 := by unfold Sp.may at h; rw [decide_eq_true_eq] at h; omega
theorem gA {s : Sp} {l : List Sp} (h : zK (s :: l) = true) : ∀ t ∈ l, zM s.hi t.lo < 0 := by
  induction l generalizing s with
  | nil => simp
  | cons u l ih =>
    intro t ht
    have hu := kS h
    have h1 : zM s.hi u.lo < 0 := by
      unfold zK at h; simp only [Bool.and_eq_true, decide_eq_true_eq] at h; exact h.1.2
    rcases List.mem_cons.1 ht with rfl | ht'
    · exact h1
    · have h2 := ih hu t ht'
      have ms := y6 (xU h)
      have mu := y6 (xU hu)
      have mt := y6 (x9 (kS hu) t ht')
      exact xT ms.2 mu.1 mt.1 h1 (xT mu.1 mu.2 mt.1 (uL (xU hu)) h2)
theorem holds_in {s : Sp} {v : Ver} (hs : s.may = true) (hv : v.may = true) : q9 s v = g8 s (bE v) := by
  obtain ⟨h1, h2⟩ := y6 hs
  unfold q9 g8
  rw [hs, dL h1 hv, dL h2 hv, Bool.true_and]
  congr 1
  have := xJ (a := s.hi) (b := bE v)
  by_cases h : zM s.hi (bE v) ≤ 0
  · rw [decide_eq_true h, decide_eq_false (by omega)]; rfl
  · rw [decide_eq_false h, decide_eq_true (by omega)]; rfl
theorem vX {l : List Sp} {v : Ver} (hl : zK l = true) (hv : v.may = true) : xM l v = den l (bE v) := by
  unfold xM den
  rw [hl, Bool.true_and]
  have hm := x9 hl
  clear hl
  induction l with
  | nil => rfl
  | cons s l ih =>
    rw [List.any_cons, List.any_cons, holds_in (hm s (by simp)) hv, ih (fun t ht => hm t (by simp [ht]))]
theorem wJ {l : List Sp} {c : Cu} (h : ∀ t ∈ l, zM c t.lo < 0) : den l c = false := by
  unfold den
  rw [List.any_eq_false]
  intro t ht
  unfold g8
  have := clt_not (h t ht)
  simp [this]
theorem wY : ∀ (l m : List Sp), zK l = true → zK m = true → (∀ c : Cu, c.may = true → zM c (y5 1) < 0 → den l c = den m c) → l = m := by
  have key : ∀ (s : Sp) (l m : List Sp), zK (s :: l) = true → zK m = true → (∀ c : Cu, c.may = true → zM c (y5 1) < 0 → den (s :: l) c = den m c) → ∃ t r, m = t :: r ∧ zM t.lo s.lo ≤ 0 := by
    intro s l m hl hm h
    have ms := y6 (xU hl)
    have hd : den (s :: l) s.lo = true := by
      unfold den; rw [List.any_cons]
      have : g8 s s.lo = true := by unfold g8; rw [g7, decide_eq_true (uL (xU hl))]; rfl
      rw [this]; rfl
    rw [h s.lo ms.1 (wM ms.1 ms.2 wE (uL (xU hl)) (le_last ms.2))] at hd
    cases m with
    | nil => cases hd
    | cons t r =>
      refine ⟨t, r, rfl, ?_⟩
      rcases Int.lt_or_le 0 (zM t.lo s.lo) with h2 | h2
      · exfalso
        have hlt : zM s.lo t.lo < 0 := by have := xJ (a := t.lo) (b := s.lo); omega
        have mt := y6 (xU hm)
        rw [wJ (fun u hu => by
          rcases List.mem_cons.1 hu with rfl | hu
          · exact hlt
          · have mu := y6 (x9 (kS hm) u hu)
            exact xT ms.1 mt.1 mu.1 hlt (xT mt.1 mt.2 mu.1 (uL (xU hm)) (gA hm u hu)))] at hd
        cases hd
      · exact h2
  intro l
  induction l with
  | nil =>
    intro m _ hm h
    cases m with
    | nil => rfl
    | cons t r =>
      obtain ⟨_, _, e, _⟩ := key t r [] hm rfl (fun c h1 h2 => (h c h1 h2).symm)
      cases e
  | cons s l ih =>
    intro m hl hm h
    obtain ⟨t, r, rfl, h1⟩ := key s l m hl hm h
    obtain ⟨_, _, e, h2⟩ := key t r (s :: l) hm hl (fun c a b => (h c a b).symm)
    cases e
    have ms := y6 (xU hl)
    have mt := y6 (xU hm)
    have elo : s.lo = t.lo := (cut_eq ms.1 mt.1).1 (by have := xJ (a := s.lo) (b := t.lo); omega)
    have part : ∀ (s t : Sp) (l r : List Sp), zK (s :: l) = true → zK (t :: r) = true → (∀ c : Cu, c.may = true → zM c (y5 1) < 0 → den (s :: l) c = den (t :: r) c) → s.lo = t.lo → ¬ zM s.hi t.hi < 0 := by
      intro s t l r hl hm h elo hlt
      have ms := y6 (xU hl)
      have mt := y6 (xU hm)
      have e := h s.hi ms.2 (wM ms.2 mt.2 wE hlt (le_last mt.2))
      have e1 : den (s :: l) s.hi = false := by
        unfold den; rw [List.any_cons]
        have : g8 s s.hi = false := by unfold g8; rw [g7]; simp
        rw [this, Bool.false_or]
        exact wJ (fun u hu => gA hl u hu)
      have e2 : den (t :: r) s.hi = true := by
        unfold den; rw [List.any_cons]
        have : g8 t s.hi = true := by
          unfold g8
          have hs := uL (xU hl)
          rw [← elo, decide_eq_true (by omega), decide_eq_true hlt]; rfl
        rw [this]; rfl
      rw [e1, e2] at e; cases e
    have n1 := part s t l r hl hm h elo
    have n2 := part t s r l hm hl (fun c a b => (h c a b).symm) elo.symm
    have ehi : s.hi = t.hi := (cut_eq ms.2 mt.2).1 (by have := xJ (a := s.hi) (b := t.hi); omega)
    have est : s = t := by cases s; cases t; dsimp only at elo ehi; rw [elo, ehi]
    subst est
    rw [ih r (kS hl) (kS hm) (fun c hc hcl => ?_)]
    by_cases hb : zM c s.hi < 0
    · rw [wJ (fun u hu => xT hc ms.2 (y6 (x9 (kS hl) u hu)).1 hb (gA hl u hu)), wJ (fun u hu => xT hc ms.2 (y6 (x9 (kS hm) u hu)).1 hb (gA hm u hu))]
    · have := h c hc hcl
      unfold den at this ⊢
      rw [List.any_cons, List.any_cons] at this
      have hf : g8 s c = false := by unfold g8; rw [decide_eq_false hb, Bool.and_false]
      rw [hf, Bool.false_or, Bool.false_or] at this
      exact this
def qJ (l : List Sp) (c d : Cu) : List Sp :=
  match l.getLast? with
  | some s => if zM s.hi c = 0 then l.dropLast ++ [⟨s.lo, d⟩] else l ++ [⟨c, d⟩]
  | none => [⟨c, d⟩]
def kV (p : Cu → Cu → Bool) : List Sp → List Cu → List Sp
  | out, c :: d :: r => kV p (if p c d then qJ out c d else out) (d :: r)
  | out, _ => out
theorem uC {l : List Sp} {t : Sp} (hl : zK l = true) (ht : t.may = true) (h : ∀ s ∈ l.getLast?, zM s.hi t.lo < 0) : zK (l ++ [t]) = true := by
  induction l with
  | nil => exact ht
  | cons s l ih =>
    cases l with
    | nil =>
      show zK [s, t] = true
      unfold zK
      rw [xU hl, decide_eq_true (h s (by simp)), show zK [t] = true from ht]; rfl
    | cons u r =>
      have h2 := ih (kS hl) (fun x hx => h x (by simpa using hx))
      show zK (s :: u :: (r ++ [t])) = true
      unfold zK
      rw [show u :: (r ++ [t]) = (u :: r) ++ [t] from rfl, h2, xU hl]
      have h3 : zM s.hi u.lo < 0 := gA hl u (by simp)
      rw [decide_eq_true h3]; rfl
theorem row_init {l : List Sp} {s : Sp} (h : zK (l ++ [s]) = true) : zK l = true ∧ ∀ x ∈ l.getLast?, zM x.hi s.lo < 0 := by
  induction l with
  | nil => exact ⟨rfl, by simp⟩
  | cons u l ih =>
    obtain ⟨h1, h2⟩ := ih (kS h)
    cases l with
    | nil =>
      refine ⟨xU h, fun x hx => ?_⟩
      obtain rfl : u = x := by simpa using hx
      exact gA h s (by simp)
    | cons v r =>
      refine ⟨?_, fun x hx => h2 x (by simpa using hx)⟩
      unfold zK
      rw [xU h, decide_eq_true (gA h v (by simp)), h1]; rfl
theorem bD (l m : List Sp) (c : Cu) : den (l ++ m) c = (den l c || den m c) := by unfold den; rw [List.any_append]
theorem last_split {l : List Sp} {s : Sp} (h : l.getLast? = some s) : l = l.dropLast ++ [s] := by
  obtain ⟨l', rfl⟩ := List.getLast?_eq_some_iff.1 h
  simp
theorem grow_ok {l : List Sp} {c d : Cu} (hl : zK l = true) (hc : c.may = true) (hd : d.may = true) (hcd : zM c d < 0) (h : ∀ s ∈ l.getLast?, zM s.hi c ≤ 0) :
    zK (qJ l c d) = true ∧ (∀ s ∈ (qJ l c d).getLast?, zM s.hi d ≤ 0) ∧ ∀ x : Cu, x.may = true → den (qJ l c d) x = (den l x || g8 ⟨c, d⟩ x) := by
  have hm : (Sp.mk c d).may = true := by
    unfold Sp.may; rw [decide_eq_true_eq]; rcases wL c d with e | e | e <;> omega
  unfold qJ
  cases hg : l.getLast? with
  | none =>
    have : l = [] := by simpa using hg
    subst this
    refine ⟨hm, fun s hs => ?_, fun x _ => by simp [den]⟩
    obtain rfl : s = ⟨c, d⟩ := by simpa using hs.symm
    rw [g7]; omega
  | some s =>
    dsimp only
    have hsl := last_split hg
    have hs : s.may = true := x9 hl s (List.mem_of_getLast? hg)
    have ms := y6 hs
    by_cases h0 : zM s.hi c = 0
    · rw [if_pos h0]
      have ehc : s.hi = c := (cut_eq ms.2 hc).1 h0
      have hl2 := hl
      rw [hsl] at hl2
      obtain ⟨h1, h2⟩ := row_init hl2
      have hlt : zM s.lo d < 0 := xT ms.1 hc hd (ehc ▸ uL hs) hcd
      have hm2 : (Sp.mk s.lo d).may = true := by
        unfold Sp.may; rw [decide_eq_true_eq]; rcases wL s.lo d with e | e | e <;> omega
      refine ⟨uC h1 hm2 h2, fun t ht => ?_, fun x hx => ?_⟩
      · obtain rfl : t = ⟨s.lo, d⟩ := by simpa using ht.symm
        rw [g7]; omega
      · rw [bD]
        have e : den l x = (den l.dropLast x || den [s] x) := by rw [← bD, ← hsl]
        rw [e, Bool.or_assoc]
        congr 1
        show (g8 ⟨s.lo, d⟩ x || false) = ((g8 s x || false) || g8 ⟨c, d⟩ x)
        rw [Bool.or_false, Bool.or_false]
        unfold g8
        rw [ehc]
        dsimp only
        by_cases hxc : zM x c < 0
        · rw [decide_eq_true hxc, decide_eq_true (xT hx hc hd hxc hcd), decide_eq_false (clt_not hxc)]
          simp
        · have hcx := jN hxc
          rw [decide_eq_false hxc, decide_eq_true hcx, decide_eq_true (qW ms.1 hc hx (by have := ehc ▸ uL hs; omega) hcx)]
          simp
    · rw [if_neg h0]
      have hlt : zM s.hi c < 0 := by have := h s hg; omega
      refine ⟨uC hl hm (fun t ht => by
        rw [hg] at ht
        obtain rfl : s = t := by simpa using ht
        exact hlt), fun t ht => ?_, fun x _ => ?_⟩
      · obtain rfl : t = ⟨c, d⟩ := by simpa using ht.symm
        rw [g7]; omega
      · rw [bD]; congr 1; show (g8 ⟨c, d⟩ x || false) = _; rw [Bool.or_false]
def pick (p : Cu → Cu → Bool) (x : Cu) : List Cu → Bool
  | c :: d :: r => (p c d && g8 ⟨c, d⟩ x) || pick p x (d :: r)
  | _ => false
def nC : List Cu → Prop
  | c :: d :: r => c.may = true ∧ zM c d < 0 ∧ nC (d :: r)
  | [c] => c.may = true
  | [] => True
theorem build_ok (p : Cu → Cu → Bool) : ∀ (cs : List Cu) (out : List Sp), nC cs → zK out = true → (∀ s ∈ out.getLast?, ∀ c ∈ cs.head?, zM s.hi c ≤ 0) →
    zK (kV p out cs) = true ∧ ∀ x : Cu, x.may = true → den (kV p out cs) x = (den out x || pick p x cs) := by
  intro cs
  induction cs with
  | nil => intro out _ h _; exact ⟨h, fun x _ => by unfold kV pick; rw [Bool.or_false]⟩
  | cons c r ih =>
    intro out hr ho hlast
    cases r with
    | nil => exact ⟨ho, fun x _ => by unfold kV pick; rw [Bool.or_false]⟩
    | cons d r =>
      obtain ⟨hc, hcd, hr'⟩ := hr
      have hd : d.may = true := by cases r with
        | nil => exact hr'
        | cons e r => exact hr'.1
      unfold kV
      by_cases hp : p c d = true
      · rw [if_pos hp]
        obtain ⟨g1, g2, g3⟩ := grow_ok ho hc hd hcd (fun s hs => hlast s hs c (by simp))
        obtain ⟨i1, i2⟩ := ih (qJ out c d) hr' g1 (fun s hs e he => by
          obtain rfl : d = e := by simpa using he
          exact g2 s hs)
        refine ⟨i1, fun x hx => ?_⟩
        rw [i2 x hx, g3 x hx]
        conv => rhs; unfold pick
        rw [hp, Bool.true_and, Bool.or_assoc]
      · rw [if_neg hp]
        obtain ⟨i1, i2⟩ := ih out hr' ho (fun s hs e he => by
          obtain rfl : d = e := by simpa using he
          have ms := y6 (x9 ho s (List.mem_of_getLast? hs))
          have := pM ms.2 hc hd (hlast s hs c (by simp)) hcd
          omega)
        refine ⟨i1, fun x hx => ?_⟩
        rw [i2 x hx]
        conv => rhs; unfold pick
        rw [show p c d = false from by simpa using hp, Bool.false_and, Bool.false_or]
def g0 (c : Cu) : List Cu → List Cu
  | [] => [c]
  | d :: r => if zM d c < 0 then d :: g0 c r else if zM d c = 0 then d :: r else c :: d :: r
def g6 (l : List Sp) : List Cu := l.foldl (fun out s => g0 s.hi (g0 s.lo out)) [y5 (-1), y5 1]
theorem putL_mem (c : Cu) : ∀ (l : List Cu) (x : Cu), x ∈ g0 c l → x = c ∨ x ∈ l := by
  intro l
  induction l with
  | nil => intro x hx; simpa [g0] using hx
  | cons d r ih =>
    intro x hx
    unfold g0 at hx
    split at hx
    · rcases List.mem_cons.1 hx with rfl | hx
      · exact .inr (by simp)
      · rcases ih x hx with h | h
        · exact .inl h
        · exact .inr (by simp [h])
    · split at hx
      · exact .inr hx
      · rcases List.mem_cons.1 hx with rfl | hx
        · exact .inl rfl
        · exact .inr hx
theorem putL_old (c : Cu) : ∀ (l : List Cu) (x : Cu), x ∈ l → x ∈ g0 c l := by
  intro l
  induction l with
  | nil => intro x hx; cases hx
  | cons d r ih =>
    intro x hx
    unfold g0
    split
    · rcases List.mem_cons.1 hx with rfl | hx
      · simp
      · simp [ih x hx]
    · split
      · exact hx
      · simp only [List.mem_cons] at hx ⊢; exact .inr hx
def AllMay (l : List Cu) : Prop := ∀ x ∈ l, x.may = true
theorem putL_new {c : Cu} (hc : c.may = true) : ∀ (l : List Cu), AllMay l → c ∈ g0 c l := by
  intro l
  induction l with
  | nil => intro _; simp [g0]
  | cons d r ih =>
    intro h
    unfold g0
    split
    · exact List.mem_cons_of_mem _ (ih (fun x hx => h x (by simp [hx])))
    · split
      · rename_i h0
        have := (cut_eq (h d (by simp)) hc).1 h0
        simp [this]
      · simp
theorem bV : ∀ {l : List Cu}, nC l → AllMay l
  | [], _ => fun x hx => by cases hx
  | [c], h => fun x hx => by
    obtain rfl : x = c := by simpa using hx
    exact h
  | c :: d :: r, h => fun x hx => by
    rcases List.mem_cons.1 hx with rfl | hx
    · exact h.1
    · exact bV h.2.2 x hx
theorem rise_cons {c : Cu} {l : List Cu} (hc : c.may = true) (hl : nC l) (h : ∀ d ∈ l.head?, zM c d < 0) : nC (c :: l) := by
  cases l with
  | nil => exact hc
  | cons d r => exact ⟨hc, h d (by simp), hl⟩
theorem gQ {c : Cu} {l : List Cu} (h : nC (c :: l)) : nC l := by
  cases l with
  | nil => trivial
  | cons d r => exact h.2.2
theorem bW {c : Cu} {l : List Cu} (h : nC (c :: l)) : c.may = true ∧ ∀ d ∈ l.head?, zM c d < 0 := by
  cases l with
  | nil => exact ⟨h, by simp⟩
  | cons d r => exact ⟨h.1, fun e he => by
    obtain rfl : d = e := by simpa using he
    exact h.2.1⟩
theorem putL_rise {c : Cu} (hc : c.may = true) : ∀ (l : List Cu), nC l → nC (g0 c l) := by
  intro l
  induction l with
  | nil => intro _; exact hc
  | cons d r ih =>
    intro h
    obtain ⟨hd, h1⟩ := bW h
    unfold g0
    by_cases hlt : zM d c < 0
    · rw [if_pos hlt]
      refine rise_cons hd (ih (gQ h)) fun e he => ?_
      cases r with
      | nil =>
        obtain rfl : c = e := by simpa [g0] using he
        exact hlt
      | cons f r =>
        unfold g0 at he
        by_cases h2 : zM f c < 0
        · rw [if_pos h2] at he
          obtain rfl : f = e := by simpa using he
          exact h1 f (by simp)
        · rw [if_neg h2] at he
          by_cases h3 : zM f c = 0
          · rw [if_pos h3] at he
            obtain rfl : f = e := by simpa using he
            exact h1 f (by simp)
          · rw [if_neg h3] at he
            obtain rfl : c = e := by simpa using he
            exact hlt
    · rw [if_neg hlt]
      by_cases h0 : zM d c = 0
      · rw [if_pos h0]; exact h
      · rw [if_neg h0]
        refine rise_cons hc h fun e he => ?_
        obtain rfl : d = e := by simpa using he
        exact clt_flip (by have := xJ (a := d) (b := c); omega)
structure Ends (l : List Cu) : Prop where
  rise : nC l
  head : l.head? = some (y5 (-1))
  last : l.getLast? = some (y5 1)
theorem ends_two : Ends [y5 (-1), y5 1] := ⟨⟨mU, by decide, wE⟩, rfl, rfl⟩
theorem putL_head_min {c : Cu} (hc : c.may = true) {l : List Cu} (h : l.head? = some (y5 (-1))) : (g0 c l).head? = some (y5 (-1)) := by
  cases l with
  | nil => cases h
  | cons d r =>
    obtain rfl : d = y5 (-1) := by simpa using h
    have h1 := hJ hc
    unfold g0
    by_cases h2 : zM (y5 (-1)) c < 0
    · rw [if_pos h2]; rfl
    · rw [if_neg h2, if_pos (by omega)]; rfl
theorem putL_last_max {c : Cu} (hc : c.may = true) : ∀ {l : List Cu}, l.getLast? = some (y5 1) → (g0 c l).getLast? = some (y5 1) := by
  intro l
  induction l with
  | nil => intro h; cases h
  | cons d r ih =>
    intro h
    unfold g0
    cases r with
    | nil =>
      obtain rfl : d = y5 1 := by simpa using h
      have h1 := le_last hc
      have := xJ (a := c) (b := y5 1)
      rw [if_neg (by omega)]
      by_cases h0 : zM (y5 1) c = 0
      · rw [if_pos h0]; rfl
      · rw [if_neg h0]; rfl
    | cons e r =>
      have h2 : (e :: r).getLast? = some (y5 1) := by rw [List.getLast?_cons_cons] at h; exact h
      by_cases h3 : zM d c < 0
      · rw [if_pos h3]
        have := ih h2
        cases hp : g0 c (e :: r) with
        | nil => rw [hp] at this; cases this
        | cons f q => rw [hp] at this; rw [List.getLast?_cons_cons]; exact this
      · rw [if_neg h3]
        by_cases h0 : zM d c = 0
        · rw [if_pos h0]; exact h
        · rw [if_neg h0, List.getLast?_cons_cons]; exact h
theorem putL_ends {c : Cu} (hc : c.may = true) {l : List Cu} (h : Ends l) : Ends (g0 c l) := ⟨putL_rise hc l h.rise, putL_head_min hc h.head, putL_last_max hc h.last⟩
theorem cuts_go : ∀ (l : List Sp) (out : List Cu), (∀ s ∈ l, s.may = true) → Ends out →
    Ends (l.foldl (fun out s => g0 s.hi (g0 s.lo out)) out) ∧ (∀ x ∈ out, x ∈ l.foldl (fun out s => g0 s.hi (g0 s.lo out)) out) ∧ ∀ s ∈ l, s.lo ∈ l.foldl (fun out s => g0 s.hi (g0 s.lo out)) out ∧ s.hi ∈ l.foldl (fun out s => g0 s.hi (g0 s.lo out)) out := by
  intro l
  induction l with
  | nil => intro out _ h; exact ⟨h, fun x hx => hx, by simp⟩
  | cons s l ih =>
    intro out hm h
    have ms := y6 (hm s (by simp))
    have e1 := putL_ends ms.1 h
    have e2 := putL_ends ms.2 e1
    obtain ⟨i1, i2, i3⟩ := ih (g0 s.hi (g0 s.lo out)) (fun t ht => hm t (by simp [ht])) e2
    rw [List.foldl_cons]
    refine ⟨i1, fun x hx => i2 x (putL_old _ _ _ (putL_old _ _ _ hx)), fun t ht => ?_⟩
    rcases List.mem_cons.1 ht with rfl | ht
    · exact ⟨i2 _ (putL_old _ _ _ (putL_new ms.1 out (bV h.rise))), i2 _ (putL_new ms.2 _ (bV e1.rise))⟩
    · exact i3 t ht
theorem jZ {l : List Sp} (h : ∀ s ∈ l, s.may = true) : Ends (g6 l) := (cuts_go l _ h ends_two).1
theorem cuts_have {l : List Sp} (h : ∀ s ∈ l, s.may = true) : ∀ s ∈ l, s.lo ∈ g6 l ∧ s.hi ∈ g6 l := (cuts_go l _ h ends_two).2.2
def inL (l : List Sp) (c d : Cu) : Bool := l.any fun s => decide (zM s.lo c ≤ 0) && decide (zM d s.hi ≤ 0)
theorem nS {c : Cu} : ∀ {l : List Cu}, nC (c :: l) → ∀ x ∈ l, zM c x < 0 := by
  intro l
  induction l generalizing c with
  | nil => intro _ x hx; cases hx
  | cons d r ih =>
    intro h x hx
    have hcd := (bW h).2 d (by simp)
    rcases List.mem_cons.1 hx with rfl | hx
    · exact hcd
    · have hr := gQ h
      exact xT (bW h).1 (bW hr).1 (bV (gQ hr) x hx) hcd (ih hr x hx)
theorem pick_eq {p : Cu → Cu → Bool} {q : Cu → Bool} : ∀ (cs : List Cu), nC cs → (∀ c d x, (∃ A B, cs = A ++ c :: d :: B) → x.may = true → zM c x ≤ 0 → zM x d < 0 → p c d = q x) →
    ∀ x : Cu, x.may = true → (∀ c ∈ cs.head?, zM c x ≤ 0) → (∀ d ∈ cs.getLast?, zM x d < 0) → cs ≠ [] → pick p x cs = q x := by
  intro cs
  induction cs with
  | nil => intro _ _ x _ _ _ h; exact absurd rfl h
  | cons c r ih =>
    intro hr hp x hx h1 h2 _
    have hc := h1 c (by simp)
    cases r with
    | nil => have := h2 c (by simp); have := xJ (a := c) (b := x); omega
    | cons d r =>
      unfold pick
      by_cases hd : zM x d < 0
      · have e : g8 ⟨c, d⟩ x = true := by unfold g8; rw [decide_eq_true hc, decide_eq_true hd]; rfl
        rw [e, Bool.and_true, hp c d x ⟨[], r, rfl⟩ hx hc hd]
        cases hq : q x with
        | true => rfl
        | false =>
          rw [Bool.false_or]
          have low : ∀ (cs : List Cu), nC cs → (∀ y ∈ cs, zM x y < 0) → pick p x cs = false := by
            intro cs
            induction cs with
            | nil => intro _ _; rfl
            | cons c r ih =>
              intro hr hy
              cases r with
              | nil => rfl
              | cons d r =>
                unfold pick
                have : g8 ⟨c, d⟩ x = false := by unfold g8; rw [decide_eq_false (clt_not (hy c (by simp)))]; rfl
                rw [this, Bool.and_false, Bool.false_or]
                exact ih (gQ hr) (fun y hy' => hy y (by simp [hy']))
          refine low _ (gQ hr) (fun y hy => ?_)
          rcases List.mem_cons.1 hy with rfl | hy
          · exact hd
          · exact xT hx (bW (gQ hr)).1 (bV (gQ (gQ hr)) y hy) hd (nS (gQ hr) y hy)
      · have e : g8 ⟨c, d⟩ x = false := by unfold g8; rw [decide_eq_false hd, Bool.and_false]
        rw [e, Bool.and_false, Bool.false_or]
        refine ih (gQ hr) (fun c' d' x' ⟨A, B, hAB⟩ => hp c' d' x' ⟨c :: A, B, by rw [hAB]; rfl⟩) x hx (fun c' hc' => ?_) (fun d' hd' => h2 d' (by rw [List.getLast?_cons_cons]; exact hd')) (by simp)
        obtain rfl : d = c' := by simpa using hc'
        exact jN hd
theorem rise_gap {A B : List Cu} {c d : Cu} (h : nC (A ++ c :: d :: B)) : ∀ y ∈ A ++ c :: d :: B, zM y c ≤ 0 ∨ zM d y ≤ 0 := by
  induction A with
  | nil =>
    intro y hy
    rcases List.mem_cons.1 hy with rfl | hy
    · exact .inl (by rw [g7]; omega)
    · rcases List.mem_cons.1 hy with rfl | hy
      · exact .inr (by rw [g7]; omega)
      · exact .inr (by have := nS (gQ h) y hy; omega)
  | cons a A ih =>
    intro y hy
    rcases List.mem_cons.1 hy with rfl | hy
    · exact .inl (by have := nS h c (by simp); omega)
    · exact ih (gQ h) y hy
theorem in_den {l : List Sp} (hl : ∀ s ∈ l, s.may = true) {cs : List Cu} (hr : nC cs) (hcs : ∀ s ∈ l, s.lo ∈ cs ∧ s.hi ∈ cs) {A B : List Cu} {c d x : Cu} (e : cs = A ++ c :: d :: B) (hx : x.may = true) (h1 : zM c x ≤ 0) (h2 : zM x d < 0) : inL l c d = den l x := by
  have hm := bV hr
  have mc := hm c (by rw [e]; simp)
  have md := hm d (by rw [e]; simp)
  have gap : ∀ y ∈ cs, zM y c ≤ 0 ∨ zM d y ≤ 0 := by rw [e] at hr ⊢; exact rise_gap hr
  unfold inL den
  have key : ∀ s ∈ l, (decide (zM s.lo c ≤ 0) && decide (zM d s.hi ≤ 0)) = g8 s x := by
    intro s hs
    obtain ⟨g1, g2⟩ := hcs s hs
    have ms := y6 (hl s hs)
    unfold g8
    have a1 : (zM s.lo c ≤ 0) ↔ (zM s.lo x ≤ 0) := by
      constructor
      · intro h; exact qW ms.1 mc hx h h1
      · intro h
        rcases gap s.lo g1 with g | g
        · exact g
        · have := pM ms.1 hx md h h2
          have := xJ (a := s.lo) (b := d); omega
    have a2 : (zM d s.hi ≤ 0) ↔ (zM x s.hi < 0) := by
      constructor
      · intro h; exact wM hx md ms.2 h2 h
      · intro h
        rcases gap s.hi g2 with g | g
        · have := pM mc hx ms.2 h1 h
          have := xJ (a := s.hi) (b := c); omega
        · exact g
    rw [decide_eq_decide.2 a1, decide_eq_decide.2 a2]
  clear hcs gap hl
  induction l with
  | nil => rfl
  | cons s l ih =>
    rw [List.any_cons, List.any_cons, key s (by simp), ih (fun t ht => key t (by simp [ht]))]
def vU (l : List Sp) : List Sp := kV (inL l) [] (g6 l)
def orL (a b : List Sp) : List Sp := vU (a ++ b)
def wP (a b : List Sp) : List Sp := kV (fun c d => inL a c d && inL b c d) [] (g6 (a ++ b))
def jD (a : List Sp) : List Sp := kV (fun c d => !inL a c d) [] (g6 a)
theorem build_den {p : Cu → Cu → Bool} {q : Cu → Bool} {cs : List Cu} (h : Ends cs) (hp : ∀ c d x, (∃ A B, cs = A ++ c :: d :: B) → x.may = true → zM c x ≤ 0 → zM x d < 0 → p c d = q x) :
    zK (kV p [] cs) = true ∧ ∀ x : Cu, x.may = true → zM x (y5 1) < 0 → den (kV p [] cs) x = q x := by
  obtain ⟨h1, h2⟩ := build_ok p cs [] h.rise rfl (by simp)
  refine ⟨h1, fun x hx hl => ?_⟩
  rw [h2 x hx]
  show (false || pick p x cs) = q x
  rw [Bool.false_or]
  refine pick_eq cs h.rise hp x hx (fun c hc => ?_) (fun d hd => ?_) (fun e => by rw [e] at h; cases h.head)
  · rw [h.head] at hc; obtain rfl : y5 (-1) = c := by simpa using hc
    exact hJ hx
  · rw [h.last] at hd; obtain rfl : y5 1 = d := by simpa using hd
    exact hl
theorem uR {l : List Sp} (hl : ∀ s ∈ l, s.may = true) : zK (vU l) = true ∧ ∀ x : Cu, x.may = true → zM x (y5 1) < 0 → den (vU l) x = den l x :=
  build_den (jZ hl) fun c d x ⟨A, B, e⟩ hx h1 h2 => in_den hl (jZ hl).rise (cuts_have hl) e hx h1 h2
theorem wN {a b : List Sp} (ha : zK a = true) (hb : zK b = true) : ∀ s ∈ a ++ b, s.may = true := fun s hs => by
  rcases List.mem_append.1 hs with h | h
  · exact x9 ha s h
  · exact x9 hb s h
theorem or_ok {a b : List Sp} (ha : zK a = true) (hb : zK b = true) : zK (orL a b) = true ∧ ∀ x : Cu, x.may = true → zM x (y5 1) < 0 → den (orL a b) x = (den a x || den b x) := by
  obtain ⟨h1, h2⟩ := uR (wN ha hb)
  exact ⟨h1, fun x hx hl => by rw [← bD]; exact h2 x hx hl⟩
theorem and_ok {a b : List Sp} (ha : zK a = true) (hb : zK b = true) : zK (wP a b) = true ∧ ∀ x : Cu, x.may = true → zM x (y5 1) < 0 → den (wP a b) x = (den a x && den b x) := by
  have hm := wN ha hb
  have hc := cuts_have hm
  refine build_den (jZ hm) fun c d x ⟨A, B, e⟩ hx h1 h2 => ?_
  rw [in_den (x9 ha) (jZ hm).rise (fun s hs => hc s (by simp [hs])) e hx h1 h2, in_den (x9 hb) (jZ hm).rise (fun s hs => hc s (by simp [hs])) e hx h1 h2]
theorem bF {a : List Sp} (ha : zK a = true) : zK (jD a) = true ∧ ∀ x : Cu, x.may = true → zM x (y5 1) < 0 → den (jD a) x = !den a x := by
  have hm := x9 ha
  refine build_den (jZ hm) fun c d x ⟨A, B, e⟩ hx h1 h2 => ?_
  rw [in_den hm (jZ hm).rise (cuts_have hm) e hx h1 h2]
theorem make_self {l : List Sp} (h : zK l = true) : vU l = l := wY _ _ (uR (x9 h)).1 h (uR (x9 h)).2
end
section
def yW (s : Sp) : List Value := (yK s).cells.toList
theorem zX (s : Sp) : (yW s).length = 14 := rfl
def yY (l : List Sp) : Prop := ∀ s ∈ l, s.short
theorem inL_drop (l : List Sp) (c d : Cu) (k : Nat) (hk : k < l.length) : inL (l.drop k) c d = ((decide (zM l[k].lo c ≤ 0) && decide (zM d l[k].hi ≤ 0)) || inL (l.drop (k + 1)) c d) := by
  rw [List.drop_eq_getElem_cons hk]; unfold inL; rw [List.any_cons]
theorem in_any (A : Option Addr) (cap : Nat) (l : List Sp) (c d : Cu) (W : World) (hv : Reads yW W W.heap.size A l) (hn : l.length ≤ 1000000) (hl : yY l) (hc : c.short) (hd : d.short) :
    Calls Tryz.prog 101 #[.slice A l.length cap, zD c, zD d] W fun e w' => e = .returned (.bool (inL l c d)) ∧ Below W.heap.size W w' := by
  refine zP (n := 32) Tryz.func101 rfl (by kernel_rfl) (by kernel_rfl) (ZO (Zb (zD c) (fun b1 => Zb (zD d) (fun b2 => Zv (.bool false) (ZN (z6 (ZO (Zv (.int .i64 0) ?_))))))))
  refine ZN (zL (yP (fun L f m => ∃ (k : Nat) (j : Nat → Value), (k ≤ l.length ∧ inL l c d = inL (l.drop k) c d) ∧ L = [⟨b2, (zD d).cells, 78⟩, ⟨b1, (zD c).cells, 78⟩] ∧ f = kG j [(0, .slice A l.length cap), (4, .pointer (some ⟨b1, 0, none⟩)), (5, .pointer (some ⟨b2, 0, none⟩)), (7, .int .i64 (k : Int))] ∧ m = l.length - k) (l.length - 0) ⟨0, _, ⟨Nat.zero_le _, by rw [List.drop_zero]⟩, rfl, ZU, rfl⟩ ?_))
  rintro L f m ⟨k, j, hrel, rfl, rfl, rfl⟩
  have hkl := hrel.1
  refine z6 (ZO (Zv (.int .i64 (k : Int)) (Zv (.slice A l.length cap) (Zv (.int .i64 (l.length : Int)) ?_))))
  by_cases h1 : (k : Int) < (l.length : Int)
  · have hk : k < l.length := by omega
    obtain ⟨b, off, hA, hlt, hcell⟩ := hv (by omega)
    obtain ⟨s, hs⟩ : ∃ s, l[k] = s := ⟨_, rfl⟩
    have hsk : s.short := hs ▸ hl l[k] (List.getElem_mem hk)
    refine Zd (p := (k : Int) < (l.length : Int)) true (decide_eq_true (h1)) (ZY (ZB (z6 (zL (z6 (qY (by kernel_rfl) (by kernel_rfl) (Zw (.slice A l.length cap) (Zw (.int .i64 (k : Int)) ?_))))))))
    refine kX (.pointer (some ⟨b, off + k * 14, none⟩)) (by kernel_rfl) (ZA (b := b) (off := off) (c := cap) (n := l.length) (k := .i64) (j := (k : Int)) (e := 80) (sz := 14) hA) (Zw (.pointer (some ⟨b, off + k * 14 + 0, none⟩)) (nG (zD s.lo) (a := ⟨b, off + k * 14 + 0, none⟩) (by kernel_rfl) rfl (by kernel_rfl) (fun w hO => y9 zX (fun j u h => (hO.below.cell (p := ⟨b, off + j, none⟩) hlt).trans (hcell j u h)) k 0 hk (by omega) _ (by rw [hs]; kernel_rfl)) (Zm 1 ⟨b1, (zD c).cells, 78⟩ (off := 0) (zD c) (Zq (k := 94) (args := #[zD s.lo, zD c]) (.int .i64 (zM s.lo c)) (fun w _ => jV s.lo c w hsk.1 hc) ?_))))
    by_cases h2 : (zM s.lo c : Int) ≤ 0
    · refine nH (p := (zM s.lo c : Int) ≤ 0) true (by kernel_rfl) (fun _ => by kernel_rfl) (decide_eq_true (h2)) ?_
      refine Zw (.bool true) (Zm 0 ⟨b2, (zD d).cells, 78⟩ (off := 0) (zD d) (Zw (.slice A l.length cap) (Zw (.int .i64 (k : Int)) (kX (.pointer (some ⟨b, off + k * 14, none⟩)) (by kernel_rfl) (ZA (b := b) (off := off) (c := cap) (n := l.length) (k := .i64) (j := (k : Int)) (e := 80) (sz := 14) hA) (Zw (.pointer (some ⟨b, off + k * 14 + 7, none⟩)) (nG (zD s.hi) (a := ⟨b, off + k * 14 + 7, none⟩) (by kernel_rfl) rfl (by kernel_rfl) (fun w hO => y9 zX (fun j u h => (hO.below.cell (p := ⟨b, off + j, none⟩) hlt).trans (hcell j u h)) k 7 hk (by omega) _ (by rw [hs]; kernel_rfl)) (Zq (k := 94) (args := #[zD d, zD s.hi]) (.int .i64 (zM d s.hi)) (fun w _ => jV d s.hi w hd hsk.2) ?_)))))))
      by_cases h3 : (zM d s.hi : Int) ≤ 0
      · refine nH (p := (zM d s.hi : Int) ≤ 0) true (by kernel_rfl) (fun _ => by kernel_rfl) (decide_eq_true (h3)) ?_
        refine Zw (.bool true) (kZ (zA (Zt (ZO (Zv (.bool true) (ZN (zB (zG (z8 ?_)))))))))
        exact yB (zG (z8 (ZF (.bool true) Tryz.results101 (fun w hO => ⟨by rw [hrel.2, inL_drop l c d k hk, hs]; simp [h2, h3], hO.below⟩))))
      refine Ze (p := (zM d s.hi : Int) ≤ 0) false (decide_eq_false (h3)) (Zw (.bool false) (kZ (zA (Zf (x5 (zT (zA (z7 (Zv (.int .i64 (k : Int)) (Zu (k := .i64) (((k + 1 : Nat) : Int)) (IntWalk.i64_in _ (by omega)) (Zv (.int .i64 ((k + 1 : Nat) : Int)) ?_)))))))))))
      refine zR ?_
      have hnext : inL l c d = inL (l.drop (k + 1)) c d := by rw [hrel.2, inL_drop l c d k hk, hs]; simp [h2, h3]
      exact zU (m' := l.length - (k + 1)) (by omega) ⟨k + 1, _, ⟨by omega, hnext⟩, rfl, ZU, rfl⟩
    refine Ze (p := (zM s.lo c : Int) ≤ 0) false (decide_eq_false (h2)) (Zw (.bool false) (Zj (Zj (Zj (Zj (Zj (Zj (Zj (Zj (Zw (.bool false) (kZ ?_)))))))))))
    refine zA (Zf (x5 (zT (zA (z7 (Zv (.int .i64 (k : Int)) (Zu (k := .i64) (((k + 1 : Nat) : Int)) (IntWalk.i64_in _ (by omega)) (Zv (.int .i64 ((k + 1 : Nat) : Int)) (zR ?_)))))))))
    have hnext : inL l c d = inL (l.drop (k + 1)) c d := by rw [hrel.2, inL_drop l c d k hk, hs]; simp [h2]
    exact zU (m' := l.length - (k + 1)) (by omega) ⟨k + 1, _, ⟨by omega, hnext⟩, rfl, ZU, rfl⟩
  refine Zd (p := (k : Int) < (l.length : Int)) false (decide_eq_false (h1)) (ZX (y8 (zC (zN (zI (zA (ZO (Zv (.bool false) ?_))))))))
  exact ZN (zB (ZF (.bool false) Tryz.results101 (fun w hO => ⟨by rw [hrel.2, List.drop_of_length_le (by omega)]; rfl, hO.below⟩)))
end
end Go.Proofs.YtkljdpiaghepfaaGreatDoor
