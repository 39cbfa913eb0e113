/-
  What the statement's proof leans on: the ways of walking, plain mathematics, and what the program's functions return; each theorem says on what conditions.
-/
import Derived.Laws.Slices
import Derived.Laws.MakeOwn
import Derived.Lib.BufferWrite
import Derived.Lib.UnsafeStr
import Derived.Deep.RegionHeld3
import Derived.IntWalk
import Derived.Outline
import Derived.StillTailTactics
import Derived.Laws.StructEq
import Derived.WalkLawsBesides
import Derived.Tactics
import Derived.Lib.AppendZerosOnto
import Derived.Test.YtiekhkapgjdblaaGreatDoorTS1
set_option maxRecDepth 1000000
set_option maxHeartbeats 8000000
set_option linter.unusedVariables false
set_option linter.unusedSimpArgs false
namespace Go.Proofs.YtiekhkapgjdblaaGreatDoor
open Go.RowKit

section
section
variable {M : List Nat} {P : Program} {n : Nat} {ops : Array Oper} {W : World} {Q : Exit → Act → World → Prop} {L0 L : List Blk} {f : Nat → Value} {fuel : Nat} {listed : Array Bool} {rest : List Oper} {o : Oper}
theorem xM {L' : List Blk} (e : L = L') (h : Seg M P n ops W Q rest L' f) : Seg M P n ops W Q rest L f := by subst e; exact h
theorem kJ {L' : List Blk} {c : Code} (e : L = L') (h : Ok M P n W Q c L' f) : Ok M P n W Q c L f := by subst e; exact h
theorem fin_cast {L' : List Blk} {x : Exit} (e : L = L') (h : Fin M n W Q x L' f) : Fin M n W Q x L f := by subst e; exact h
theorem ok_take {L' : List Blk} {c : Code} (hs : ∀ w, Own M W w L → Own M W w L') (h : Ok M P n W Q c L' f) : Ok M P n W Q c L f := ⟨fun w hO => h.go w (hs w hO)⟩
theorem yQ {L' : List Blk} (hs : ∀ w, Own M W w L → Own M W w L') (h : Seg M P n ops W Q rest L' f) : Seg M P n ops W Q rest L f := ⟨fun w hO => h.go w (hs w hO)⟩
theorem yZ {L' : List Blk} {x : Exit} (hs : ∀ w, Own M W w L → Own M W w L') (h : Fin M n W Q x L' f) : Fin M n W Q x L f := ⟨fun w hO => h.go w (hs w hO)⟩
theorem dL {L' : List Blk} (e : L = L') (h : j3 M P n ops W L0 Q fuel listed L' f) : j3 M P n ops W L0 Q fuel listed L f := by subst e; exact h
theorem gI {id : Nat} {l : List Oper} (L0 : List Blk) (hm : P.follows .mixedOrders = true) (hsub : ∀ w, Own M W w L → Own M W w L0) (h : j3 M P n l.toArray W L0 Q l.length (Array.replicate l.length false) L f) : Ok M P n W Q (.region id l.toArray true) L f := ⟨fun w hO =>
  wp_region_held (id := id) (S := fun w => Own M W w L0) hm (ops := l.toArray) (Q := Q) (a := Fr n f) (w := w) (by simpa using h.go _ hO.drew)⟩
theorem hl_take (i : Nat) (oi : Oper) (v : Value) (hi : ops[i]? = some oi) (hs : Region.noSelect ops = true) (hf : Region.free .any ops listed i = true) (hr : (Region.ready .any ops listed).contains i = true)
    (hQ : PQ Q) (hsub : ∀ w, Own M W w L → Own M W w L0) (hw : xP ops n f oi = true) (hv : ∀ w, Own M W w L0 → (execOp (ev n f) oi).run P w = .ok (.value v) w)
    (h : j3 M P n ops W L0 Q fuel (listed.setIfInBounds i true) L (upd f oi.dst v)) : j3 M P n ops W L0 Q (fuel + 1) listed L f := ⟨fun w hO => by
  refine wpAnyH_take hi hs hf hr (fun c a w h => hQ c a _ _ w h) (Or.inl ⟨by rw [wI]; exact hw, fun w hw' => by rw [j6]; exact hv w hw'⟩) (hsub w hO) ?_
  rw [b8]
  exact h.go w hO⟩
theorem hl_old (i : Nat) (oi : Oper) {ty : TypeId} {p : Operand} {a : Addr} (v : Value) (hi : ops[i]? = some oi) (hs : Region.noSelect ops = true) (hf : Region.free .any ops listed i = true) (hr : (Region.ready .any ops listed).contains i = true)
    (hQ : PQ Q) (hsub : ∀ w, Own M W w L → Own M W w L0) (hw : xP ops n f oi = true) (ho : oi.op = .load ty p) (hp : ev n f p = .pointer (some a)) (hv : ∀ w, Own M W w L0 → (loadVar ty a).run P w = .ok v w)
    (h : j3 M P n ops W L0 Q fuel (listed.setIfInBounds i true) L (upd f oi.dst v)) : j3 M P n ops W L0 Q (fuel + 1) listed L f :=
  hl_take i oi v hi hs hf hr hQ hsub hw (fun w hO => qG ho hp (hv w hO)) h
theorem vK {i : Nat} (oi : Oper) {k : FuncId} {args : Array Value} (R : Value → List Blk → Prop) (hi : ops[i]? = some oi) (hw : xP ops n f oi = true) (he : ∀ w, (execOp (ev n f) oi).run P w = .ok (.enter k args) w)
    (hc : ∀ w, Own M W w L → Calls P k args w fun e w' => ∃ v L', e = .returned v ∧ R v L' ∧ Own M W w' L') (hsub : ∀ v L', R v L' → ∀ w, Own M W w L' → Own M W w L0)
    (h : ∀ v L', R v L' → j3 M P n ops W L0 Q fuel (listed.setIfInBounds i true) L' (upd f oi.dst v)) : jM M P n ops W L0 Q fuel listed i L f :=
  hs_step hi hw fun w hO => nY (he w) ((hc w hO).mono fun e w' ⟨v, L', e1, e2, e3⟩ => ⟨v, e1, hsub v L' e2 w' e3, (h v L' e2).go w' e3⟩)
theorem Own.join {ob ob' R : List Blk} {w w' : World} (h : Own M W w (ob ++ R)) (hc : Own (ob.map Blk.b) w w' ob') : Own M W w' (ob' ++ R) := by
  have hap := h.apart
  rw [List.map_append, List.nodup_append] at hap
  have notob : ∀ x ∈ R, x.b ∉ ob.map Blk.b := fun x hx hm => hap.2.2 x.b hm x.b (List.mem_map.2 ⟨x, hx, rfl⟩) rfl
  have ltR : ∀ x ∈ R, x.b < w.heap.size := fun x hx => h.lt (List.mem_append_right ob hx)
  have newob : ∀ x ∈ ob', x.b ∉ R.map Blk.b := fun x hx hm => by
    obtain ⟨y, hy, e⟩ := List.mem_map.1 hm
    rcases hc.base x hx with h1 | h1
    · have := ltR y hy; omega
    · exact notob y hy (e ▸ h1)
  refine ⟨hc.os.trans h.os, hc.tape.trans h.tape, hc.output.trans h.output, Nat.le_trans h.size hc.size, Nat.le_trans h.drawn hc.drawn, fun k hk hm => ?_, fun x hx => ?_, fun x hx => ?_, ?_⟩
  · rw [hc.kept k (Nat.lt_of_lt_of_le hk h.size) (fun hmem => by
      obtain ⟨y, hy, e⟩ := List.mem_map.1 hmem
      rcases h.base y (List.mem_append_left R hy) with h1 | h1
      · omega
      · exact hm (e ▸ h1))]
    exact h.kept k hk hm
  · rcases List.mem_append.1 hx with hx | hx
    · exact hc.held x hx
    · rw [hc.kept x.b (ltR x hx) (notob x hx)]
      exact h.held x (List.mem_append_right ob hx)
  · rcases List.mem_append.1 hx with hx | hx
    · rcases hc.base x hx with h1 | h1
      · exact .inl (Nat.le_trans h.size h1)
      · obtain ⟨y, hy, e⟩ := List.mem_map.1 h1
        rw [← e]; exact h.base y (List.mem_append_left R hy)
    · exact h.base x (List.mem_append_right ob hx)
  · rw [List.map_append, List.nodup_append]
    refine ⟨hc.apart, hap.2.1, fun a ha b hb e => ?_⟩
    obtain ⟨x, hx, rfl⟩ := List.mem_map.1 ha
    exact newob x hx (e ▸ hb)
theorem Own.joinN {ob' R : List Blk} {w w' : World} (h : Own M W w R) (hc : Own [] w w' ob') : Own M W w' (ob' ++ R) := Own.join (ob := []) h hc
end
section
variable {P : Program} {n : Nat} {W : World} {f : Nat → Value} {Q : Exit → Act → World → Prop} {M : List Nat} {ops : Array Oper} {rest : List Oper} {o : Oper} {L : List Blk}
theorem vZ {k : FuncId} {fn : Func} {c : Code} {args : Array Value} {R : Ending → World → Prop} (hO : Own M W W L) (hf : P.funcs[k]? = some fn) (hb : fn.body = some c) (hn : fn.ntmps = n) (hle : Nat.ble args.size n = true)
    (h : Ok M P n W (bodyPost P fn R) c L (fun t => args.getD t undef)) : Calls P k args W R := by
  have h2 : Ok M P n W (bodyPost P fn R) c [] (fun t => args.getD t undef) → Calls P k args W R := calls_okM M hf hb hn hle
  refine calls_of_wp hf hb ?_
  have hle' : args.size ≤ n := Nat.le_of_ble_eq_true hle
  have e : ({ tmps := args ++ Array.replicate (fn.ntmps - args.size) undef, defers := [] } : Act) = Fr n (fun t => args.getD t undef) := by
    unfold Fr
    congr 1
    rw [hn]
    apply Array.ext_getElem?
    intro i
    rw [Array.getElem?_ofFn, Array.getElem?_append, Array.getElem?_replicate]
    by_cases hi : i < args.size
    · rw [if_pos hi, dif_pos (by omega), Array.getElem?_eq_getElem hi]
      simp [Array.getD, hi]
    · rw [if_neg hi]
      by_cases hin : i < n
      · rw [if_pos (by omega), dif_pos hin]
        simp [Array.getD, hi]
      · rw [if_neg (by omega), dif_neg hin]
  rw [e]
  exact h.go W hO
theorem Sl.block {T sz m : Nat} {A : Option Addr} {cap : Nat} {xs : List Value} {ob : List Blk} (h : Sl T sz (.slice A m cap) m xs ob) (h0 : 0 < m) : ∃ g cur, A = some ⟨g, 0, none⟩ ∧ ob = [⟨g, cur, T⟩] ∧ m ≤ cap ∧ cap ≤ maxLen ∧ cur.size = cap * sz ∧ cur.toList.take (m * sz) = xs := by
  rcases h.2 with ⟨_, h2, _⟩ | ⟨g, c, cur, e, e2, h3, h4, h5, h6⟩
  · omega
  · simp only [Value.slice.injEq] at e
    obtain ⟨rfl, _, rfl⟩ := e
    exact ⟨g, cur, rfl, e2, h3, h4, h5, h6⟩
theorem kX {α : Type} {g : α → List Value} {sz : Nat} (hg : ∀ x, (g x).length = sz) {ty : TypeId} {cur : Array Value} {l : List α} (ht : cur.toList.take (l.length * sz) = l.flatMap g) (k fo : Nat) (hk : k < l.length) (hfo : fo ≤ sz) (v : Value)
    (hr : kQ P ty ((g l[k]).drop fo).toArray 0 = some v) : kQ P ty cur (k * sz + fo) = some v := by
  have hcur : l.length * sz ≤ cur.size := by
    have := congrArg List.length ht
    rw [List.length_take, jG hg] at this
    simp at this; omega
  have hks : k * sz + sz ≤ l.length * sz := by rw [← Nat.succ_mul]; exact Nat.mul_le_mul_right _ hk
  have hat : ∀ j u, ((g l[k]).drop fo)[j]? = some u → cur.toList[k * sz + fo + j]? = some u := fun j u hj => by
    rw [List.getElem?_drop] at hj
    have h1 : fo + j < sz := by
      have := (List.getElem?_eq_some_iff.1 hj).1
      rw [hg] at this; exact this
    have h2 : (l.flatMap g)[k * sz + (fo + j)]? = some u := by
      have := flat_at hg l k hk
      rw [← this, List.getElem?_take, if_pos h1, List.getElem?_drop] at hj
      exact hj
    rw [← ht, List.getElem?_take, if_pos (by omega)] at h2
    rw [show k * sz + fo + j = k * sz + (fo + j) from by omega]; exact h2
  unfold kQ at hr ⊢
  cases hu : P.underlying ty with
  | none => rw [hu] at hr; simp at hr
  | some d =>
    cases hi : P.info? ty with
    | none => rw [hu, hi] at hr; cases d <;> simp at hr
    | some i =>
      rw [hu, hi] at hr
      by_cases hd : mP d = true
      · have h2 : (if 0 + i.size ≤ ((g l[k]).drop fo).toArray.size then some (Value.agg (((g l[k]).drop fo).toArray.toList.drop 0 |>.take i.size).toArray) else none) = some v := by
          cases d <;> first | exact hr | (simp [mP] at hd)
        have h3 : (if (k * sz + fo) + i.size ≤ cur.size then some (Value.agg (cur.toList.drop (k * sz + fo) |>.take i.size).toArray) else none) = some v := by
          split at h2
          · rename_i hle
            simp only [List.size_toArray, List.length_drop, hg] at hle
            rw [if_pos (by omega), ← h2]
            congr 2
            congr 1
            apply List.ext_getElem?
            intro j
            rw [List.getElem?_take, List.getElem?_take]
            split
            · rename_i hj
              rw [List.getElem?_drop]
              simp only [List.drop_zero]
              have : ∃ u, ((g l[k]).drop fo)[j]? = some u := ⟨_, List.getElem?_eq_getElem (by rw [List.length_drop, hg]; omega)⟩
              obtain ⟨u, hu⟩ := this
              rw [hat j u hu, hu]
            · rfl
          · cases h2
        cases d <;> first | exact h3 | (simp [mP] at hd)
      · have h2 : ((g l[k]).drop fo).toArray[0]? = some v := by cases d <;> first | exact hr | (simp [mP] at hd)
        have h3 : cur[k * sz + fo]? = some v := by
          have := hat 0 v (by simpa using h2)
          simpa using this
        cases d <;> first | exact h3 | (simp [mP] at hd)
end
section
variable {P : Program} {n : Nat} {W : World} {f : Nat → Value} {Q : Exit → Act → World → Prop} {M : List Nat} {ops : Array Oper} {rest : List Oper} {o : Oper} {L : List Blk}
theorem s_storeS (i : Nat) (x : Blk) {T : TypeId} {p q : Operand} {off : Nat} (v : Value) (sz : Nat) (hw : xP ops n f o = true) (ho : o.op = .store T p q) (hd : o.dst = none) (hL : L[i]? = some x)
    (hp : ev n f p = .pointer (some ⟨x.b, off, none⟩)) (hq : ev n f q = v) (hz : (P.info? T).map (·.size) = some sz) (hs : v.cells.size = sz) (hle : off + sz ≤ x.cs.size) (h1 : (v.cells.toList.all fun u => u.oneCell') = true)
    (h : Seg M P n ops W Q rest (L.set i ⟨x.b, xU x.cs off v.cells, x.ty⟩) f) : Seg M P n ops W Q (o :: rest) L f := by
  cases ht : P.info? T with
  | none => rw [ht] at hz; cases hz
  | some t =>
    rw [ht] at hz
    have e : t.size = sz := Option.some.inj hz
    exact s_store i x v hw ho hd hL hp hq ht (by rw [hs, e]) (by rw [e]; exact hle) (List.all_eq_true.1 h1) h
theorem n5 {α : Type} {g : α → List Value} {sz : Nat} (hg : ∀ x, (g x).length = sz) {cur : Array Value} {l : List α} (ht : cur.toList.take (l.length * sz) = l.flatMap g) (k fo : Nat) (hk : k < l.length) (vs : Array Value) (y : α) (hfit : fo + vs.size ≤ sz)
    (hy : g y = (g l[k]).take fo ++ vs.toList ++ (g l[k]).drop (fo + vs.size)) : (xU cur (k * sz + fo) vs).toList.take (l.length * sz) = (l.set k y).flatMap g ∧ (xU cur (k * sz + fo) vs).size = cur.size := by
  obtain ⟨R, hR⟩ : ∃ R, cur.toList = l.flatMap g ++ R := ⟨cur.toList.drop (l.length * sz), by rw [← ht]; exact (List.take_append_drop _ _).symm⟩
  have hsplit : l.flatMap g = (l.take k).flatMap g ++ (g l[k] ++ (l.drop (k + 1)).flatMap g) := by
    rw [← List.flatMap_cons, ← List.drop_eq_getElem_cons hk, ← List.flatMap_append, List.take_append_drop]
  obtain ⟨A, hA⟩ : ∃ A, (l.take k).flatMap g = A := ⟨_, rfl⟩
  obtain ⟨B, hB⟩ : ∃ B, (l.drop (k + 1)).flatMap g = B := ⟨_, rfl⟩
  obtain ⟨G, hG⟩ : ∃ G, g l[k] = G := ⟨_, rfl⟩
  have lA : A.length = k * sz := by rw [← hA, jG hg, List.length_take, Nat.min_eq_left (by omega)]
  have lG : G.length = sz := by rw [← hG]; exact hg _
  have lB : B.length = (l.length - (k + 1)) * sz := by rw [← hB, jG hg, List.length_drop]
  have tot : k * sz + sz + (l.length - (k + 1)) * sz = l.length * sz := by
    rw [← Nat.succ_mul, ← Nat.add_mul]; congr 1; omega
  rw [hA, hB, hG] at hsplit
  rw [hG] at hy
  have hset : (l.set k y).flatMap g = A ++ (g y ++ B) := by
    rw [List.set_eq_take_append_cons_drop, if_pos hk, List.flatMap_append, List.flatMap_cons, hA, hB]
  have hcur : cur.toList = A ++ (G ++ (B ++ R)) := by rw [hR, hsplit]; simp only [List.append_assoc]
  have e1 : cur.toList.take (k * sz + fo) = A ++ G.take fo := by
    rw [hcur, ← lA, List.take_length_add_append, List.take_append_of_le_length (by omega)]
  have e2 : cur.toList.drop (k * sz + fo + vs.size) = G.drop (fo + vs.size) ++ (B ++ R) := by
    rw [hcur, ← lA, Nat.add_assoc, List.drop_length_add_append, List.drop_append_of_le_length (by omega)]
  have e3 : (xU cur (k * sz + fo) vs).toList = A ++ (g y ++ (B ++ R)) := by
    unfold xU
    rw [e1, e2, hy]; simp only [List.append_assoc]
  constructor
  · rw [e3, hset]
    have : A ++ (g y ++ (B ++ R)) = (A ++ (g y ++ B)) ++ R := by simp only [List.append_assoc]
    rw [this]
    exact List.take_left' (by rw [List.length_append, List.length_append, lA, lB, hg]; omega)
  · have h1 := congrArg List.length e3
    have h2 := congrArg List.length hcur
    simp only [List.length_append, Array.length_toList, hg, lG] at h1 h2
    omega
end
end
section
section
variable {P : Program}
theorem run_slhi {ρ : Operand → Value} {o : Oper} {t e : TypeId} {x y : Operand} {b off n c sz : Nat} {k : IntKind} {j : Int} (ho : o.op = .slice t x none (some y) none) (hx : ρ x = .slice (some ⟨b, off, none⟩) n c) (hy : ρ y = .int k j)
    (hu : P.underlying t = some (.slice e)) (hs : (P.info? e).map (·.size) = some sz) (h0 : 0 ≤ j) (h1 : j ≤ c) (w : World) : (execOp ρ o).run P w = .ok (.value (.slice (some ⟨b, off, none⟩) j.toNat c)) w := by
  cases he : P.info? e with
  | none => rw [he] at hs; cases hs
  | some i =>
    unfold execOp
    simp [ho, hx, hy, Instr.sliceAt, Instr.slice, Instr.sliceBounds, Instr.sliceBound, Sem.run_bind, asIntOf, run_underlying hu, h0, h1, sizeOf, typeInfo, he, xV]
theorem run_sllo {ρ : Operand → Value} {o : Oper} {t e : TypeId} {x y : Operand} {b off n c sz : Nat} {k : IntKind} {j : Int} (ho : o.op = .slice t x (some y) none none) (hx : ρ x = .slice (some ⟨b, off, none⟩) n c) (hy : ρ y = .int k j)
    (hu : P.underlying t = some (.slice e)) (hs : (P.info? e).map (·.size) = some sz) (h0 : 0 ≤ j) (h1 : j ≤ n) (w : World) : (execOp ρ o).run P w = .ok (.value (.slice (some ⟨b, off + (if c = j.toNat then 0 else j.toNat * sz), none⟩) (n - j.toNat) (c - j.toNat))) w := by
  cases he : P.info? e with
  | none => rw [he] at hs; cases hs
  | some i =>
    rw [he] at hs
    obtain rfl := Option.some.inj hs
    unfold execOp
    by_cases hc : c = j.toNat
    · simp [ho, hx, hy, Instr.sliceAt, Instr.slice, Instr.sliceBounds, Instr.sliceBound, Sem.run_bind, asIntOf, run_underlying hu, h0, h1, sizeOf, typeInfo, he, xV, hc]
    · simp [ho, hx, hy, Instr.sliceAt, Instr.slice, Instr.sliceBounds, Instr.sliceBound, Sem.run_bind, asIntOf, run_underlying hu, h0, h1, sizeOf, typeInfo, he, xV, hc]
end
end
section
section
variable {P : Program} {w : World} {ob : List Blk}
theorem own_append_nilc {t ty T : TypeId} {i : TypeInfo} (ht : P.underlying t = some (.slice T)) (hi : P.info? T = some i) {sz : Nat} {v : Value} {n : Nat} {xs : List Value} (hv : Sl T sz v n xs ob) (c : Nat) :
    (Builtin.append_ #[t, t] ty #[v, .slice none 0 c]).run P w = .ok v w := by
  rcases hv.2 with ⟨rfl, rfl, rfl⟩ | ⟨g, cap, cur, rfl, rfl, hnc, hcm, hcs, htake⟩
  · simp [Builtin.append_, run_underlying ht, sizeOf, typeInfo, hi, Builtin.lenOf, Builtin.firstCells]
  · simp [Builtin.append_, run_underlying ht, sizeOf, typeInfo, hi, Builtin.lenOf, Builtin.firstCells, hnc, storeCells]
end
section
variable {M : List Nat} {P : Program} {n0 : Nat} {ops : Array Oper} {W : World} {Q : Exit → Act → World → Prop} {rest : List Oper} {o : Oper} {E ob L0 : List Blk} {f : Nat → Value}
theorem tJ {α : Type} {g : α → List Value} {t T : TypeId} {s x : Operand} {i : TypeInfo} {z : Value} {sz : Nat} (hg : ∀ y, (g y).length = sz) (hw : xP ops n0 f o = true) (ho : o.op = .call { callee := .builtin .append, args := #[s, x], argTypes := #[t, t] })
    (ht : P.underlying t = some (.slice T)) (hi : P.info? T = some i) (hz : i.zero = some z) (hsz : i.size = sz) (hzs : z.cells.size = sz)
    {v : Value} {n : Nat} {xs : List Value} (hs : ev n0 f s = v) (hv : Sl T sz v n xs ob) {A : Option Addr} {c : Nat} {l : List α} (hx : ev n0 f x = .slice A l.length c)
    (hR : ∀ w, Own M W w (E ++ ob ++ L0) → Reads g w w.heap.size A l) (h1 : ∀ y, ∀ u ∈ g y, u.oneCell' = true)
    (h63 : n + l.length ≤ maxLen) (hbytes : (n + l.length) * i.bytes ≤ 140737488355328)
    (h : ∀ v' ob', Sl T sz v' (n + l.length) (xs ++ l.flatMap g) ob' → Seg M P n0 ops W Q rest (E ++ ob' ++ L0) (upd f o.dst v')) : Seg M P n0 ops W Q (o :: rest) (E ++ ob ++ L0) f :=
  qZ hw fun w hO => by
    have hone : ∀ u ∈ l.flatMap g, u.oneCell' = true := fun u hu => by
      obtain ⟨y, _, hy⟩ := List.mem_flatMap.1 hu
      exact h1 y u hy
    cases A with
    | none =>
      have h0 : l = [] := by
        cases l with
        | nil => rfl
        | cons y l => obtain ⟨b, off, e, _⟩ := hR w hO (by simp); cases e
      subst h0
      have hv' : Sl T sz v (n + ([] : List α).length) (xs ++ ([] : List α).flatMap g) ob := by simpa using hv
      refine vE v (w' := w) ?_ ((h v ob hv').go w hO)
      have hx' : ev n0 f x = .slice none 0 c := hx
      unfold execOp
      simp only [ho, resolve, invoke, builtin, Sem.run_bind, Sem.run_pure, Result.andThen_ok, List.map_toArray, List.map_cons, List.map_nil, hs, hx', own_append_nilc ht hi hv c]
    | some a =>
      have hnews : ∀ j u, (l.flatMap g)[j]? = some u → w.cell? (a.add j) = some u := fun j u hj => by
        have h0 : 0 < l.length := by
          cases l with
          | nil => simp at hj
          | cons y l => simp
        obtain ⟨b, off, e, _, hc⟩ := hR w hO h0
        obtain rfl := Option.some.inj e
        rw [xV]
        exact hc j u hj
      obtain ⟨v', w', ob', hr, h2, h3⟩ := own_append (P := P) (ty := o.type) (c := c) ht hi hz hsz hzs hv hO (jG hg l) hnews hone h63 hbytes
      refine vE v' (w' := w') ?_ ((h v' ob' h2).go w' h3)
      unfold execOp
      simp only [ho, resolve, invoke, builtin, Sem.run_bind, Sem.run_pure, Result.andThen_ok, List.map_toArray, List.map_cons, List.map_nil, hs, hx, hr]
end
end
section
theorem freeze_drawn (w : World) (a : Addr) (m : Nat) : (w.freeze a m).drawn = w.drawn := by unfold World.freeze; split <;> rfl
theorem Own.freeze {M : List Nat} {W w : World} {x : Blk} {L : List Blk} (h : Own M W w (x :: L)) (m : Nat) : Own M W (w.freeze ⟨x.b, 0, none⟩ m) L := by
  have hne : ∀ k, k ≠ x.b → (w.freeze ⟨x.b, 0, none⟩ m).heap[k]? = w.heap[k]? := fun k hk => by
    unfold World.freeze
    split
    · rfl
    · simp only [Array.getElem?_modify]; rw [if_neg (Ne.symm hk)]
  have hsz : (w.freeze ⟨x.b, 0, none⟩ m).heap.size = w.heap.size := by unfold World.freeze; split <;> simp
  have ho : (w.freeze ⟨x.b, 0, none⟩ m).os = w.os ∧ (w.freeze ⟨x.b, 0, none⟩ m).tape = w.tape ∧ (w.freeze ⟨x.b, 0, none⟩ m).output = w.output := by unfold World.freeze; split <;> exact ⟨rfl, rfl, rfl⟩
  have hap := h.apart
  rw [List.map_cons, List.nodup_cons] at hap
  refine ⟨ho.1.trans h.os, ho.2.1.trans h.tape, ho.2.2.trans h.output, by rw [hsz]; exact h.size, by rw [freeze_drawn]; exact h.drawn, fun k hk hm => ?_, fun y hy => ?_, fun y hy => h.base y (List.mem_cons_of_mem _ hy), hap.2⟩
  · rw [hne k (fun e => by
      rcases h.base x List.mem_cons_self with h1 | h1
      · omega
      · exact hm (e ▸ h1))]
    exact h.kept k hk hm
  · rw [hne y.b (fun e => hap.1 (e ▸ List.mem_map_of_mem hy))]
    exact h.held y (List.mem_cons_of_mem _ hy)
section
variable {M : List Nat} {P : Program} {n0 : Nat} {ops : Array Oper} {W : World} {Q : Exit → Act → World → Prop} {rest : List Oper} {o : Oper} {L : List Blk} {f : Nat → Value}
theorem s_make {t e : TypeId} {x y : Operand} {i : TypeInfo} {z : Value} {kl kc : IntKind} {l c : Int} (hw : xP ops n0 f o = true) (ho : o.op = .makeSlice t x y) (hx : ev n0 f x = .int kl l) (hy : ev n0 f y = .int kc c)
    (ht : P.underlying t = some (.slice e)) (hi : P.info? e = some i) (hz : i.zero = some z) (h0 : 0 ≤ l) (hlc : l ≤ c) (hbytes : (i.bytes : Int) * c ≤ 281474976710656) (h63 : c ≤ 9223372036854775807)
    (h : ∀ b, Seg M P n0 ops W Q rest (⟨b, madeCells z.cells (c.toNat * i.size), e⟩ :: L) (upd f o.dst (.slice (some ⟨b, 0, none⟩) l.toNat c.toNat))) : Seg M P n0 ops W Q (o :: rest) L f :=
  qZ hw fun w hO => by
    refine vE _ (w' := w.alloc (.cells (madeCells z.cells (c.toNat * i.size)) e)) ?_ ((h w.heap.size).go _ (hO.alloc _ _))
    have hr := run_make (P := P) w t e i z ht hi hz kl kc l c h0 hlc hbytes h63
    unfold execOp
    simp only [ho, hx, hy, Sem.run_bind, Sem.run_pure, Result.andThen_ok, hr]
theorem s_copyS {t u e : TypeId} {x y : Operand} {b cap : Nat} {cs : Array Value} {T : TypeId} {s : ByteArray} (hw : xP ops n0 f o = true) (ho : o.op = .call { callee := .builtin .copy, args := #[x, y], argTypes := #[t, u] })
    (hx : ev n0 f x = .slice (some ⟨b, 0, none⟩) s.size cap) (hy : ev n0 f y = .string s) (ht : P.underlying t = some (.slice e)) (hs : (P.info? e).map (·.size) = some 1) (hc : cs.size = s.size)
    (h : Seg M P n0 ops W Q rest (⟨b, (Lib.byteCells s.data.toList).toArray, T⟩ :: L) (upd f o.dst (goInt s.size))) : Seg M P n0 ops W Q (o :: rest) (⟨b, cs, T⟩ :: L) f :=
  qZ hw fun w hO => by
    have hr := Lib.run_copy_row_string (P := P) w t u o.type e b 0 s.size cap s cs T ht hs (hO.held _ List.mem_cons_self) (Nat.le_refl _) (by omega)
    have hcs : (cs.toList.take 0 ++ Lib.byteCells s.data.toList ++ cs.toList.drop (0 + s.size)).toArray = (Lib.byteCells s.data.toList).toArray := by
      rw [List.take_zero, List.nil_append, List.drop_of_length_le (by rw [Array.length_toList]; omega), List.append_nil]
    rw [hcs] at hr
    refine vE _ (w' := w.setRow b (Lib.byteCells s.data.toList).toArray) ?_ (h.go _ (hO.put (i := 0) (x := ⟨b, cs, T⟩) rfl _))
    unfold execOp
    simp only [ho, resolve, invoke, builtin, Sem.run_bind, Sem.run_pure, Result.andThen_ok, List.map_toArray, List.map_cons, List.map_nil, hx, hy, hr]
theorem s_ustr {t u e : TypeId} {x y : Operand} {b : Nat} {s : ByteArray} (hw : xP ops n0 f o = true) (ho : o.op = .call { callee := .builtin .unsafeString, args := #[x, y], argTypes := #[t, u] })
    (hx : ev n0 f x = .pointer (some ⟨b, 0, none⟩)) (hy : ev n0 f y = .int .i64 s.size) (ht : P.underlying t = some (.pointer e)) (hc : P.cellsOf e = 1) (hne : s.size ≠ 0) (h63 : s.size ≤ 9223372036854775807)
    (h : Seg M P n0 ops W Q rest L (upd f o.dst (.string s))) : Seg M P n0 ops W Q (o :: rest) (⟨b, (Lib.byteCells s.data.toList).toArray, e⟩ :: L) f :=
  qZ hw fun w hO => by
    have hg := hO.held _ List.mem_cons_self
    have hl : s.data.toList.length = s.size := by rw [← Lib.size_eq]
    have hr := Lib.run_unsafeString_row (P := P) w t u o.type e ht hc b s.size (by unfold World.shape?; simp only at hg; rw [hg]; simp [Lib.byteCells_length, hl]) s.data.toList (fun e => hne (by rw [← hl, e]; rfl)) (by omega) (by omega)
      (fun j x hx => by
        rw [xV, cell_of_row w b (0 + j) _ e _ hg]
        simp [Lib.byteCells, hx])
    rw [hl] at hr
    refine vE _ (w' := w.freeze ⟨b, 0, none⟩ s.size) ?_ (h.go _ (hO.freeze s.size))
    unfold execOp
    simp only [ho, resolve, invoke, builtin, Sem.run_bind, Sem.run_pure, Result.andThen_ok, List.map_toArray, List.map_cons, List.map_nil, hx, hy, hr]
end
end
section
theorem infoByte9 : (Tryz.prog.info? 5).map (fun i => (i.zero.map (·.cells.size), i.size, i.bytes)) = some (some 1, 1, 1) := by kernel_rfl
theorem byte_info : ∃ i z, Tryz.prog.info? 5 = some i ∧ i.zero = some z ∧ i.size = 1 ∧ z.cells.size = 1 ∧ i.bytes = 1 := by
  have h := infoByte9
  cases hi : Tryz.prog.info? 5 with
  | none => rw [hi] at h; cases h
  | some i =>
    rw [hi] at h
    simp only [Option.map_some, Option.some.injEq, Prod.mk.injEq] at h
    cases hz : i.zero with
    | none => rw [hz] at h; simp at h
    | some z => rw [hz] at h; simp at h; exact ⟨i, z, rfl, hz, h.2.1, h.1, h.2.2⟩
theorem empty_of {s : ByteArray} (h : (s.size : Int) = 0) : s = ⟨#[]⟩ := by
  have h2 : s.data.size = 0 := Int.ofNat.inj h
  exact ByteArray.ext (Array.eq_empty_of_size_eq_zero h2)
theorem sclone_any (s : ByteArray) (w : World) (hs : s.size ≤ 281474976710656) :
    Calls Tryz.prog 142 #[.string s] w fun e w' => e = .returned (.string s) ∧ Below w.heap.size w w' := by
  refine zR (n := 18) Tryz.func142 rfl (by kernel_rfl) (by kernel_rfl) (ZO (Zv (.string ⟨#[]⟩) (ZN (z6 (ZO (Zv (.string s) (Zv (.int .i64 ((s).size)) ?_)))))))
  by_cases h1 : ((s).size : Int) = 0
  · refine yS (p := ((s).size : Int) = 0) true (by kernel_rfl) (fun _ => by kernel_rfl) (decide_eq_true (h1)) ?_
    exact ZY (ZO (Zv (.string ⟨#[]⟩) (ZN (zF (zA (ZF (.string ⟨#[]⟩) Tryz.results142 (fun w hO => ⟨by rw [empty_of (s := s) (by assumption)], hO.below⟩)))))))
  refine Zd (p := ((s).size : Int) = 0) false (decide_eq_false (h1)) (ZX (ZB (ZO (Zv (.string s) (Zv (.int .i64 ((s).size)) ?_)))))
  obtain ⟨i, z, e1, e2, e3, e4, e5⟩ := byte_info
  refine s_make (kl := .i64) (kc := .i64) (l := (s.size : Int)) (c := (s.size : Int)) (by kernel_rfl) rfl (by kernel_rfl) (by kernel_rfl) Tryz.underlying35 e1 e2 (by omega) (by omega) (by rw [e5]; omega) (by omega) (fun b => ?_)
  rw [show ((s.size : Nat) : Int).toNat = s.size from rfl]
  obtain ⟨cs, hcs⟩ : ∃ cs, cs = madeCells z.cells (s.size * i.size) := ⟨_, rfl⟩
  have hcz : cs.size = s.size := by rw [hcs, size_madeCells, e3]; simp
  rw [← hcs]
  refine Zv (.slice (some ⟨b, 0, none⟩) s.size s.size) (ZR (Zv (.slice (some ⟨b, 0, none⟩) s.size s.size) (Zv (.string s) (s_copyS (b := b) (cap := s.size) (s := s) (cs := cs) (by kernel_rfl) rfl (by kernel_rfl) (by kernel_rfl) Tryz.underlying35 (by kernel_rfl) hcz (ZN (z6 (z7 ?_)))))))
  exact Zv (.slice (some ⟨b, 0, none⟩) s.size s.size) (zW (.pointer (some ⟨b, 0, none⟩)) (by kernel_rfl) (ZV (b := b) (off := 0) (n := s.size) (c := s.size) (k := .i64) (j := 0) (e := 5) (sz := 1)) (Zv (.slice (some ⟨b, 0, none⟩) s.size s.size) (Zv (.int .i64 (s.size : Int)) (s_ustr (s := s) (by kernel_rfl) rfl (by kernel_rfl) (by kernel_rfl) Tryz.underlying81 (by unfold Program.cellsOf; simp [e1, e3]) (by omega) (by omega) (Zv (.string s) (ZN (zF (ZF (.string s) Tryz.results142 (fun w hO => ⟨rfl, hO.below⟩)))))))))
theorem qP (s : ByteArray) (w : World) (hs : s.size ≤ 281474976710656) :
    Calls Tryz.prog 93 #[.string s] w fun e w' => e = .returned (.string s) ∧ Below w.heap.size w w' := by
  refine zR (n := 5) Tryz.func93 rfl (by kernel_rfl) (by kernel_rfl) (ZO (Zv (.string ⟨#[]⟩) (ZR (Zv (.string s) (Zc (k := 142) (args := #[.string s]) (.string s) (fun w _ => sclone_any s w hs) (Zv (.string s) (zT ?_)))))))
  exact zB (zF (ZF (.string s) Tryz.results93 (fun w hO => ⟨rfl, hO.below⟩)))
end
section
def fN (a b c : Int) : List (List UInt8) := [Lib.itoa a, Lib.itoa b, Lib.itoa c]
theorem digs_snoc (a b c : Int) (k : Nat) (hk : k < 3) : (fN a b c).take (k + 1) = (fN a b c).take k ++ [Lib.itoa (x5 a b c k)] := by
  match k, hk with
  | 0, _ => rfl
  | 1, _ => rfl
  | 2, _ => rfl
theorem jU (a b c : Int) : y5 46 (fN a b c) = Lib.itoa a ++ 46 :: (Lib.itoa b ++ 46 :: Lib.itoa c) := rfl
theorem digits_mk (n : Int) (h0 : -9223372036854775808 ≤ n) (h1 : n ≤ 9223372036854775807) (w : World) (ht : HasTab w) :
    Calls Tryz.prog 140 #[.int .i64 n] w fun e w' => e = .returned (.string (mkS (Lib.itoa n))) ∧ Below w.heap.size w w' := digits_any n h0 h1 w ht
theorem dec_len (n : Nat) (h : n ≤ 9999) : (Lib.decDigits n).length ≤ 4 := by
  rw [Lib.decDigits_length]
  unfold Lib.nDigits
  split
  · omega
  · unfold Lib.nDigits
    split
    · omega
    · unfold Lib.nDigits
      split
      · omega
      · rw [Lib.nDigits_small (by omega)]; omega
theorem pQ {n : Int} (h : yF n = true) : (Lib.itoa n).length ≤ 4 := by
  rw [fJ h]
  apply dec_len
  unfold yF at h; simp at h; omega
theorem nums_len {a b c : Int} (h1 : yF a = true) (h2 : yF b = true) (h3 : yF c = true) : (y5 46 (fN a b c)).length ≤ 14 := by
  rw [jU]
  have := pQ h1; have := pQ h2; have := pQ h3
  simp; omega
theorem print_good (v : Ver) (w : World) (hp : v.pre.length ≤ 1000000) (hq : v.build.length ≤ 1000000) (hm : v.may = true) (ht : HasTab w) :
    Calls Tryz.prog 114 #[yK v] w fun e w' => e = .returned (.string (mkS v.text)) ∧ Below w.heap.size w w' := by
  obtain ⟨i0, hi, hz0, hz1, hz2⟩ := info_parts infoStr
  have cM := fun w' => qN v w' (by omega) (by omega)
  have cN := fun w' => wQ v w'
  obtain ⟨n1, n2, n3⟩ := gJ hm
  have hT : v.text = y5 46 (fN v.maj v.min v.pat) ++ kI 45 v.pre ++ kI 43 v.build := rfl
  obtain ⟨a, b, c, p, q⟩ := v
  rw [hm] at cM
  unfold yK at cN cM ⊢
  dsimp only at cN cM hp hq n1 n2 n3 hT ⊢
  have hjl := nums_len n1 n2 n3
  have HT := Lib.hid hT
  have H1 := Lib.hid n1
  have H2 := Lib.hid n2
  have H3 := Lib.hid n3
  clear hT hm n1 n2 n3
  go_enter Tryz.func114, Tryz.ntmps114
  go_wp2_with (first
    | (go_at_call 147; refine (cM _).mono ?_; rintro e w1 ⟨rfl, hb1⟩; have hg1 := Lib.hid ((hb1.block w.heap.size (by simp)).trans (kN w _)))
    | (refine wpList_load_row rfl 70 _ rfl w.heap.size rfl _ _ _ _ hg1.out Tryz.underlying70 rfl (by kernel_rfl) ?_)
    | (go_at_call 159; refine (cN _).mono ?_; rintro e w2 ⟨rfl, hb2⟩))
  have hbw1 : Below w.heap.size w w1 := ((Below.refl _ _).alloc (Nat.le_refl _) _).trans (hb1.mono (by simp))
  have hsw : w.heap.size < w1.heap.size := by have := hb1.size; rw [zY] at this; omega
  have hsw2 : w.heap.size < w2.heap.size := Nat.lt_of_lt_of_le hsw hb2.size
  have hg2 := Lib.hid ((hb2.block w.heap.size hsw).trans hg1.out)
  have ht2 : HasTab w2 := (ht.on hbw1).on hb2
  go_loopw [3, 12] (fun v x wr => ∃ k : Nat, k ≤ 3 ∧ x = .int .i64 k ∧ wr.ownsRow w2.heap.size 9 1 v k (vT ((fN a b c).take k)) ∧ Below w2.heap.size w2 wr) (fun _ x _ => 3 - (intOf x).toNat)
  case atStart => exact ⟨0, by omega, rfl, ⟨rfl, Or.inl ⟨rfl, rfl⟩⟩, Below.refl _ _⟩
  case round =>
    obtain ⟨k, hk, rfl, hown, hbel⟩ := hrel
    have hsz := hbel.size
    by_cases hk3 : k < 3
    · have hki : (k : Int) < 3 := by omega
      have hix : ∀ w, (Instr.index 128 (.agg #[.int .i64 a, .int .i64 b, .int .i64 c]) (.int .i64 k)).run Tryz.prog w = .ok (.int .i64 (x5 a b c k)) w := ix_num a b c k hk3
      have hnb : 0 ≤ x5 a b c k ∧ x5 a b c k ≤ 9999 := by
        have h1 := H1.out; have h2 := H2.out; have h3 := H3.out
        unfold yF at h1 h2 h3; simp at h1 h2 h3
        unfold x5; split
        · exact h1
        · split
          · exact h2
          · exact h3
      obtain ⟨hn0, hn9⟩ := hnb
      go_wp2_with (first
        | (go_at_call 140; refine (digits_mk _ (by omega) (by omega) _ (ht2.on hbel)).mono ?_; rintro e w3 ⟨rfl, hb3⟩; have hown3 := ownsRow_below hown hb3; have hsz3 := hb3.size)
        | (at_builtin; refine wH _ rfl _ _ 83 rfl w2.heap.size 9 i0 (.string ByteArray.empty) 1 16 Tryz.underlying83 hi hz0 hz1 hz2 rfl (by decide) _ _ _ rfl (hown3.alloc _) ⟨w3.heap.size, 0, none⟩ 1 1 [.string (mkS (Lib.itoa (x5 a b c k)))] rfl rfl ?c1 ?c2 ?c3 ?c4 ?c5 ?_))
      case c1 =>
        intro j u hj
        match j, hj with
        | 0, hj => simp at hj; subst hj; simp [Addr.add]
      case c2 => intro u hu; simp at hu; subst hu; rfl
      case c3 => unfold maxLen; omega
      case c4 => omega
      case c5 => simp; omega
      intro v' w5 hown' hgrow _
      go_wp2
      go_roundw
      case rel =>
        refine ⟨k + 1, by omega, by go_num, ?_, ((hbel.trans (hb3.mono hsz)).alloc (by omega) _).grown hgrow (by simp; omega) (fun k hk => (hown3.lt k hk).1)⟩
        rw [digs_snoc a b c k hk3, strV_snoc]; exact hown'
      case measure => simp [intOf]; omega
    · obtain rfl : k = 3 := by omega
      have hki : ¬ (((3 : Nat) : Int) < 3) := by omega
      have hrd := ReadsT.of_own (l := fN a b c) hown
      have hg3 := Lib.hid ((hbel.block w.heap.size hsw2).trans hg2.out)
      have hbww : Below w.heap.size w w2 := hbw1.trans (hb2.mono (by omega))
      have hj0 : (mkS (y5 46 (fN a b c))).size ≤ 14 := by rw [x6]; exact hjl
      have hp0 : (mkS p).size ≤ 1000000 := by rw [x6]; exact hp
      have hq0 : (mkS q).size ≤ 1000000 := by rw [x6]; exact hq
      have hp1 : ((⟨#[45]⟩ : ByteArray) ++ mkS p).size ≤ 1000001 := by rw [ByteArray.size_append]; show 1 + _ ≤ _; omega
      have hq1 : ((⟨#[43]⟩ : ByteArray) ++ mkS q).size ≤ 1000001 := by rw [ByteArray.size_append]; show 1 + _ ≤ _; omega
      have hjp : (mkS (y5 46 (fN a b c)) ++ ((⟨#[45]⟩ : ByteArray) ++ mkS p)).size ≤ 1000015 := by rw [ByteArray.size_append]; omega
      by_cases hpe : p = []
      · have hpb : (mkS p).toList.isEmpty = true := by rw [Lib.toList_data, mk_data, hpe]; rfl
        have HPT := Lib.hid (show kI 45 p = [] by rw [hpe]; rfl)
        clear hpe
        by_cases hqe : q = []
        · have hqb : (mkS q).toList.isEmpty = true := by rw [Lib.toList_data, mk_data, hqe]; rfl
          have HQT := Lib.hid (show kI 43 q = [] by rw [hqe]; rfl)
          clear hqe
          go_wp2_with (go_at_call 141; refine (bT _ (fN a b c) 46 _ hrd (by omega) (by simp [fN]) (by rw [jU]; simp)).mono ?_; rintro e w4 ⟨rfl, hb4⟩; obtain ⟨c3, f3⟩ := xE (j := 3) ((hb4.block w.heap.size (by omega)).trans hg3.out) (by simp); obtain ⟨c4, f4⟩ := xE (j := 4) ((hb4.block w.heap.size (by omega)).trans hg3.out) (by simp); simp only [List.getElem_toArray, List.getElem_cons_succ, List.getElem_cons_zero] at c3 c4)
          go_ret
          exact ⟨pG (by rw [HT.out, HPT.out, HQT.out]; simp), (hbww.trans (hbel.mono (by omega))).trans (hb4.mono (by omega))⟩
        · have hqb : (mkS q).toList.isEmpty = false := by rw [Lib.toList_data, mk_data]; exact List.isEmpty_eq_false_iff.2 hqe
          have HQT := Lib.hid (show kI 43 q = 43 :: q by unfold kI; rw [if_neg (by simpa using hqe)])
          clear hqe
          go_wp2_with (go_at_call 141; refine (bT _ (fN a b c) 46 _ hrd (by omega) (by simp [fN]) (by rw [jU]; simp)).mono ?_; rintro e w4 ⟨rfl, hb4⟩; obtain ⟨c3, f3⟩ := xE (j := 3) ((hb4.block w.heap.size (by omega)).trans hg3.out) (by simp); obtain ⟨c4, f4⟩ := xE (j := 4) ((hb4.block w.heap.size (by omega)).trans hg3.out) (by simp); simp only [List.getElem_toArray, List.getElem_cons_succ, List.getElem_cons_zero] at c3 c4)
          go_ret
          exact ⟨pG (by rw [HT.out, HPT.out, HQT.out, show (⟨#[43]⟩ : ByteArray) = mkS [43] from rfl, q6, q6]; simp), (hbww.trans (hbel.mono (by omega))).trans (hb4.mono (by omega))⟩
      · have hpb : (mkS p).toList.isEmpty = false := by rw [Lib.toList_data, mk_data]; exact List.isEmpty_eq_false_iff.2 hpe
        have HPT := Lib.hid (show kI 45 p = 45 :: p by unfold kI; rw [if_neg (by simpa using hpe)])
        clear hpe
        by_cases hqe : q = []
        · have hqb : (mkS q).toList.isEmpty = true := by rw [Lib.toList_data, mk_data, hqe]; rfl
          have HQT := Lib.hid (show kI 43 q = [] by rw [hqe]; rfl)
          clear hqe
          go_wp2_with (go_at_call 141; refine (bT _ (fN a b c) 46 _ hrd (by omega) (by simp [fN]) (by rw [jU]; simp)).mono ?_; rintro e w4 ⟨rfl, hb4⟩; obtain ⟨c3, f3⟩ := xE (j := 3) ((hb4.block w.heap.size (by omega)).trans hg3.out) (by simp); obtain ⟨c4, f4⟩ := xE (j := 4) ((hb4.block w.heap.size (by omega)).trans hg3.out) (by simp); simp only [List.getElem_toArray, List.getElem_cons_succ, List.getElem_cons_zero] at c3 c4)
          go_ret
          exact ⟨pG (by rw [HT.out, HPT.out, HQT.out, show (⟨#[45]⟩ : ByteArray) = mkS [45] from rfl, q6, q6]; simp), (hbww.trans (hbel.mono (by omega))).trans (hb4.mono (by omega))⟩
        · have hqb : (mkS q).toList.isEmpty = false := by rw [Lib.toList_data, mk_data]; exact List.isEmpty_eq_false_iff.2 hqe
          have HQT := Lib.hid (show kI 43 q = 43 :: q by unfold kI; rw [if_neg (by simpa using hqe)])
          clear hqe
          go_wp2_with (go_at_call 141; refine (bT _ (fN a b c) 46 _ hrd (by omega) (by simp [fN]) (by rw [jU]; simp)).mono ?_; rintro e w4 ⟨rfl, hb4⟩; obtain ⟨c3, f3⟩ := xE (j := 3) ((hb4.block w.heap.size (by omega)).trans hg3.out) (by simp); obtain ⟨c4, f4⟩ := xE (j := 4) ((hb4.block w.heap.size (by omega)).trans hg3.out) (by simp); simp only [List.getElem_toArray, List.getElem_cons_succ, List.getElem_cons_zero] at c3 c4)
          go_ret
          exact ⟨pG (by rw [HT.out, HPT.out, HQT.out, show (⟨#[45]⟩ : ByteArray) = mkS [45] from rfl, show (⟨#[43]⟩ : ByteArray) = mkS [43] from rfl, q6, q6, q6, q6]; simp), (hbww.trans (hbel.mono (by omega))).trans (hb4.mono (by omega))⟩
theorem print_none (v : Ver) (w : World) (hp : v.pre.length ≤ 1000000) (hq : v.build.length ≤ 1000000) (hm : v.may = false) :
    Calls Tryz.prog 114 #[yK v] w fun e w' => e = .returned (.string (mkS [])) ∧ Below w.heap.size w w' := by
  have cM := fun w' => qN v w' (by omega) (by omega)
  rw [hm] at cM
  obtain ⟨a, b, c, p, q⟩ := v
  unfold yK at cM ⊢
  dsimp only at cM ⊢
  clear hm
  go_enter Tryz.func114, Tryz.ntmps114
  go_wp2_with (go_at_call 147; refine (cM _).mono ?_; rintro e w1 ⟨rfl, hb1⟩)
  go_ret
  exact ⟨rfl, ((Below.refl _ _).alloc (Nat.le_refl _) _).trans (hb1.mono (by simp))⟩
theorem mW (v : Ver) (w : World) (hp : v.pre.length ≤ 1000000) (hq : v.build.length ≤ 1000000) (ht : HasTab w) :
    Calls Tryz.prog 114 #[yK v] w fun e w' => e = .returned (.string (mkS v.print)) ∧ Below w.heap.size w w' := by
  cases hm : v.may with
  | true => rw [vF hm]; exact print_good v w hp hq hm ht
  | false => rw [print_bad hm]; exact print_none v w hp hq hm
end
section
def parV (s : List UInt8) : Ver := (g5 s).getD Ver.zero
def parE (s : List UInt8) : Int := if (g5 s).isSome then 0 else 5
theorem mkS_ne {a b : List UInt8} (h : a ≠ b) : ((mkS a).toList == (mkS b).toList) = false := by
  rw [Lib.toList_data, Lib.toList_data, mk_data, mk_data]; simpa using h
theorem mkS_eq {a b : List UInt8} (h : a = b) : ((mkS a).toList == (mkS b).toList) = true := by
  subst h; simp
theorem par_hit {s : List UInt8} (h : (bU s).print = s) : parV s = bU s ∧ parE s = 0 := by
  have := parse_eq s
  unfold parseI at this
  rw [if_pos h] at this
  unfold parV parE
  rw [← this]; exact ⟨rfl, rfl⟩
theorem par_miss {s : List UInt8} (h : ¬ (bU s).print = s) : parV s = Ver.zero ∧ parE s = 5 := by
  have := parse_eq s
  unfold parseI at this
  rw [if_neg h] at this
  unfold parV parE
  rw [← this]; exact ⟨rfl, rfl⟩
def PEnd (s : List UInt8) (w : World) (e : Ending) (w' : World) : Prop := e = .returned (.tuple #[yK (parV s), .int .i64 (parE s)]) ∧ Below w.heap.size w w'
theorem gF (a b c : Int) (p q : ByteArray) : (#[.int .i64 a, .int .i64 b, .int .i64 c, .string p, .string q] : Array Value).all (·.oneCell') = true := by simp [Value.oneCell']
theorem parse_done {s : List UInt8} {w wr : World} {v : Ver} {n : Int} {tmps : Array Value} {old : Array Value} (h2 : tmps.getD 2 undef = .pointer (some ⟨w.heap.size, 0, none⟩)) (h3 : tmps.getD 3 undef = .int .i64 n)
    (hg : wr.heap[w.heap.size]? = some (.cells old 70)) (hbel : Below w.heap.size w wr) (hv : parV s = v) (hn : parE s = n) :
    bodyPost Tryz.prog Tryz.f77 (PEnd s w) .ret ⟨tmps, []⟩ (wr.setRow w.heap.size #[.int .i64 v.maj, .int .i64 v.min, .int .i64 v.pat, .string (mkS v.pre), .string (mkS v.build)]) := by
  have hrow := setRow_heap wr w.heap.size _ #[.int .i64 v.maj, .int .i64 v.min, .int .i64 v.pat, .string (mkS v.pre), .string (mkS v.build)] _ _ hg
  have hr := run_loadVar_row (P := Tryz.prog) _ w.heap.size 70 70 _ _ _ hrow Tryz.underlying70 rfl (by kernel_rfl)
  have h2' : tmps[2]?.getD undef = .pointer (some ⟨w.heap.size, 0, none⟩) := by simpa using h2
  have h3' : tmps[3]?.getD undef = .int .i64 n := by simpa using h3
  refine bodyPost_ret (v := .tuple #[yK v, .int .i64 n]) (by simp [results, Tryz.results77, asAddr, h2', h3', hr, yK]) rfl ⟨by rw [hv, hn], kT hbel (Nat.le_refl _) _⟩
theorem parse_any0 (s : List UInt8) (w : World) (hs : s.length ≤ 1000000) (ht : HasTab w) :
    Calls Tryz.prog 77 #[.string (mkS s)] w (PEnd s w) := by
  obtain ⟨s1, bl, f1, h1⟩ : ∃ a b c, zS 43 s = (a, b, c) := ⟨_, _, _, rfl⟩
  obtain ⟨s2, pr, f2, h2⟩ : ∃ a b c, zS 45 s1 = (a, b, c) := ⟨_, _, _, rfl⟩
  obtain ⟨ma, s3, f3, h3⟩ : ∃ a b c, zS 46 s2 = (a, b, c) := ⟨_, _, _, rfl⟩
  obtain ⟨mi, pa, f4, h4⟩ : ∃ a b c, zS 46 s3 = (a, b, c) := ⟨_, _, _, rfl⟩
  have l1 := wF 43 s
  have l2 := wF 45 s1
  have l3 := wF 46 s2
  have l4 := wF 46 s3
  rw [h1] at l1
  rw [h2] at l2
  rw [h3] at l3
  rw [h4] at l4
  dsimp only at l1 l2 l3 l4
  have hG : bU s = ⟨zI ma, zI mi, zI pa, pr, bl⟩ := by
    unfold bU; simp only [h1, h2, h3, h4]
  have c1 := fun w' => d5 s 43 w' (by omega)
  have c2 := fun w' => d5 s1 45 w' (by omega)
  have c3 := fun w' => d5 s2 46 w' (by omega)
  have c4 := fun w' => d5 s3 46 w' (by omega)
  rw [h1] at c1
  rw [h2] at c2
  rw [h3] at c3
  rw [h4] at c4
  dsimp only at c1 c2 c3 c4
  have cP := fun w' (h : HasTab w') => mW (bU s) w' (by rw [hG]; show pr.length ≤ _; omega) (by rw [hG]; show bl.length ≤ _; omega) h
  obtain ⟨P, hP⟩ : ∃ P, (bU s).print = P := ⟨_, rfl⟩
  rw [hP, hG] at cP
  unfold yK at cP
  dsimp only at cP
  have HG := Lib.hid hG
  have HP := Lib.hid hP
  clear hG hP h1 h2 h3 h4
  have la : ma.length ≤ maxLen := by unfold maxLen; omega
  have lb : mi.length ≤ maxLen := by unfold maxLen; omega
  have lc : pa.length ≤ maxLen := by unfold maxLen; omega
  obtain ⟨na, hna⟩ : ∃ n, zI ma = n := ⟨_, rfl⟩
  obtain ⟨nb, hnb⟩ : ∃ n, zI mi = n := ⟨_, rfl⟩
  obtain ⟨nc, hnc⟩ : ∃ n, zI pa = n := ⟨_, rfl⟩
  have n1 := fun w' => f8 ma w' la
  have n2 := fun w' => f8 mi w' lb
  have n3 := fun w' => f8 pa w' lc
  rw [hna] at n1
  rw [hnb] at n2
  rw [hnc] at n3
  rw [hna, hnb, hnc] at cP HG
  clear hna hnb hnc
  have cR := fun w' => jC na nb nc w'
  unfold yK Ver.rel at cR
  dsimp only at cR
  go_enter Tryz.func77, Tryz.ntmps77
  go_wp2_with fail
  refine (c1 _).mono ?_
  rintro e w1 ⟨rfl, hb1⟩
  go_wp2_with fail
  refine (c2 _).mono ?_
  rintro e w2 ⟨rfl, hb2⟩
  go_wp2_with fail
  refine (c3 _).mono ?_
  rintro e w3 ⟨rfl, hb3⟩
  go_wp2_with fail
  refine (c4 _).mono ?_
  rintro e w4 ⟨rfl, hb4⟩
  go_wp2_with fail
  refine (n1 _).mono ?_
  rintro e w5 ⟨rfl, hb5⟩
  go_wp2_with fail
  refine (n2 _).mono ?_
  rintro e w6 ⟨rfl, hb6⟩
  go_wp2_with fail
  refine (n3 _).mono ?_
  rintro e w7 ⟨rfl, hb7⟩
  go_wp2_with fail
  refine (cR _).mono ?_
  rintro e w8 ⟨rfl, hb8⟩
  have hz1 := hb1.size
  have hz2 := hb2.size
  have hz3 := hb3.size
  have hz4 := hb4.size
  have hz5 := hb5.size
  have hz6 := hb6.size
  have hz7 := hb7.size
  have hz8 := hb8.size
  rw [zY] at hz1
  have hbv : Below (w.heap.size + 1) (w.alloc (.cells #[.int .i64 0, .int .i64 0, .int .i64 0, .string ⟨#[]⟩, .string ⟨#[]⟩] 70)) w8 :=
    (((((((hb1.mono (by rw [zY]; omega)).trans (hb2.mono (by omega))).trans (hb3.mono (by omega))).trans (hb4.mono (by omega))).trans (hb5.mono (by omega))).trans (hb6.mono (by omega))).trans (hb7.mono (by omega))).trans (hb8.mono (by omega))
  have hbw : Below w.heap.size w w8 := ((Below.refl _ _).alloc (Nat.le_refl _) _).trans (hbv.mono (by omega))
  have hg8 := Lib.hid ((hbv.block w.heap.size (by omega)).trans (kN w _))
  have hsw : w.heap.size < w8.heap.size := by omega
  clear hz1 hz2 hz3 hz4 hz5 hz6 hz7 hz8 hbv
  go_wp2_with fail
  refine (cP _ (ht.on (hbw.alloc (by omega) _))).mono ?_
  rintro e w9 ⟨rfl, hb9⟩
  have hz9 := hb9.size
  rw [zY] at hz9
  have hg9 := Lib.hid (((hb9.block w.heap.size (by rw [zY]; omega)).trans (xT w8 _ hsw)).trans hg8.out)
  have hgv := Lib.hid ((hb9.block w8.heap.size (by rw [zY]; omega)).trans (kN w8 _))
  have hbw9 : Below w.heap.size w w9 := (hbw.alloc (by omega) _).trans (hb9.mono (by rw [zY]; omega))
  by_cases hPs : P = s
  · have hne := mkS_eq hPs
    have hne2 : ((mkS P).toList != (mkS s).toList) = false := by rw [bne, hne]; rfl
    have HPS := Lib.hid hPs
    clear hPs
    go_wp2_with fail
    refine (qP (mkS pr) _ (by rw [x6]; omega)).mono ?_
    rintro e w10 ⟨rfl, hb10⟩
    go_wp2_with fail
    refine (qP (mkS bl) _ (by rw [x6]; omega)).mono ?_
    rintro e w11 ⟨rfl, hb11⟩
    have hz10 := hb10.size
    have hz11 := hb11.size
    have hg11 := Lib.hid ((hb11.block w.heap.size (by omega)).trans ((hb10.block w.heap.size (by omega)).trans hg9.out))
    have hgv11 := Lib.hid ((hb11.block w8.heap.size (by omega)).trans ((hb10.block w8.heap.size (by omega)).trans hgv.out))
    have hbw11 : Below w.heap.size w w11 := (hbw9.trans (hb10.mono (by omega))).trans (hb11.mono (by omega))
    obtain ⟨c3, f3⟩ := xE (j := 3) hgv11.out (by simp)
    obtain ⟨c4, f4⟩ := xE (j := 4) hgv11.out (by simp)
    have e3 := setCell_eq_setRow w11 w8.heap.size 3 _ _ _ (.string (mkS pr)) hgv11.out
    have hq3 := setRow_heap w11 w8.heap.size _ #[.int .i64 na, .int .i64 nb, .int .i64 nc, .string (mkS pr), .string (mkS bl)] _ _ hgv11.out
    have e4 := setCell_eq_setRow _ w8.heap.size 4 _ _ _ (.string (mkS bl)) hq3
    have hwv : (w11.setCell ⟨w8.heap.size, 3, none⟩ (.string (mkS pr))).setCell ⟨w8.heap.size, 4, none⟩ (.string (mkS bl)) = (w11.setRow w8.heap.size #[.int .i64 na, .int .i64 nb, .int .i64 nc, .string (mkS pr), .string (mkS bl)]).setRow w8.heap.size #[.int .i64 na, .int .i64 nb, .int .i64 nc, .string (mkS pr), .string (mkS bl)] := by rw [e3]; exact e4
    have hL : ((w11.setCell ⟨w8.heap.size, 3, none⟩ (.string (mkS pr))).setCell ⟨w8.heap.size, 4, none⟩ (.string (mkS bl))).heap[w8.heap.size]? = some (.cells #[.int .i64 na, .int .i64 nb, .int .i64 nc, .string (mkS pr), .string (mkS bl)] 70) := by
      rw [hwv]; exact setRow_heap _ _ _ _ _ _ hq3
    have hL0 : ((w11.setCell ⟨w8.heap.size, 3, none⟩ (.string (mkS pr))).setCell ⟨w8.heap.size, 4, none⟩ (.string (mkS bl))).heap[w.heap.size]? = some (.cells #[.int .i64 0, .int .i64 0, .int .i64 0, .string ⟨#[]⟩, .string ⟨#[]⟩] 70) := by
      rw [hwv, gG _ _ _ _ (by omega), gG _ _ _ _ (by omega)]; exact hg11.out
    have hbL : Below w.heap.size w ((w11.setCell ⟨w8.heap.size, 3, none⟩ (.string (mkS pr))).setCell ⟨w8.heap.size, 4, none⟩ (.string (mkS bl))) := (hbw11.setCell (by simp; omega) _).setCell (by simp; omega) _
    have HL := Lib.hid hL
    have HL0 := Lib.hid hL0
    clear e3 hq3 e4 hwv hL hL0
    go_wp2_with (first
      | (refine wpList_load_row rfl 70 _ rfl w8.heap.size rfl _ _ _ _ HL.out Tryz.underlying70 rfl (by kernel_rfl) ?_)
      | (refine wpList_store_row rfl 70 _ _ rfl w.heap.size #[.int .i64 na, .int .i64 nb, .int .i64 nc, .string (mkS pr), .string (mkS bl)] rfl rfl _ _ HL0.out (by kernel_rfl) rfl (gF _ _ _ _ _) ?_))
    have hit := par_hit (HP.out.trans HPS.out)
    exact parse_done (v := ⟨na, nb, nc, pr, bl⟩) rfl rfl HL0.out hbL (hit.1.trans HG.out) hit.2
  · have hne := mkS_ne hPs
    have hne2 : ((mkS P).toList != (mkS s).toList) = true := by rw [bne, hne]; rfl
    go_wp2_with (refine wpList_store_row rfl 70 _ _ rfl w.heap.size #[.int .i64 0, .int .i64 0, .int .i64 0, .string ⟨#[]⟩, .string ⟨#[]⟩] rfl rfl _ _ hg9.out (by kernel_rfl) rfl (gF _ _ _ _ _) ?_)
    exact parse_done (v := Ver.zero) rfl rfl hg9.out hbw9 (par_miss (fun e => hPs (HP.out.symm.trans e))).1 (par_miss (fun e => hPs (HP.out.symm.trans e))).2
theorem parse_any (s : List UInt8) (w : World) (hs : s.length ≤ 1000000) (ht : HasTab w) :
    Calls Tryz.prog 77 #[.string (mkS s)] w fun e w' => e = .returned (.tuple #[yK (parV s), .int .i64 (parE s)]) ∧ Below w.heap.size w w' := parse_any0 s w hs ht
theorem set34 {w1 : World} {B : Nat} {a b c x0 y0 : Value} (x y : Value) (hg : w1.heap[B]? = some (.cells #[a, b, c, x0, y0] 70)) :
    ((w1.setCell ⟨B, 3, none⟩ x).setCell ⟨B, 4, none⟩ y).heap[B]? = some (.cells #[a, b, c, x, y] 70) ∧ ∀ k, B ≠ k → ((w1.setCell ⟨B, 3, none⟩ x).setCell ⟨B, 4, none⟩ y).heap[k]? = w1.heap[k]? := by
  have e3 := setCell_eq_setRow w1 B 3 _ _ _ x hg
  have hq3 := setRow_heap w1 B _ #[a, b, c, x, y0] _ _ hg
  have e4 := setCell_eq_setRow _ B 4 _ _ _ y hq3
  have hwv : (w1.setCell ⟨B, 3, none⟩ x).setCell ⟨B, 4, none⟩ y = (w1.setRow B #[a, b, c, x, y0]).setRow B #[a, b, c, x, y] := by rw [e3]; exact e4
  rw [hwv]
  exact ⟨setRow_heap _ _ _ _ _ _ hq3, fun k hk => by rw [gG _ _ _ _ hk, gG _ _ _ _ hk]⟩
theorem pX (v : Ver) (w : World) (hp : v.pre.length ≤ 1000000) :
    Calls Tryz.prog 191 #[yK v] w fun e w' => e = .returned (yK { v with build := [] }) ∧ Below w.heap.size w w' := by
  obtain ⟨a, b, c, p, q⟩ := v
  unfold yK
  dsimp only at hp ⊢
  go_enter Tryz.func191, Tryz.ntmps191
  go_wp2_with fail
  refine (qP (mkS p) _ (by rw [x6]; omega)).mono ?_
  rintro e w1 ⟨rfl, hb1⟩
  have hz1 := hb1.size
  simp only [zY] at hz1
  have hgB := Lib.hid ((hb1.block w.heap.size (by simp only [zY]; omega)).trans ((xT _ _ (by simp only [zY]; omega)).trans (kN w _)))
  have hgR := Lib.hid ((hb1.block (w.heap.size + 1) (by simp only [zY]; omega)).trans (dK _ _ _ (by simp only [zY])))
  have hbw : Below w.heap.size w w1 := (((Below.refl _ _).alloc (Nat.le_refl _) _).alloc (by simp only [zY]; omega) _).trans (hb1.mono (by simp only [zY]; omega))
  obtain ⟨c3, f3⟩ := xE (j := 3) hgB.out (by simp)
  obtain ⟨c4, f4⟩ := xE (j := 4) hgB.out (by simp)
  obtain ⟨hL, hO⟩ := set34 (.string (mkS p)) (.string ⟨#[]⟩) hgB.out
  have HL := Lib.hid hL
  have HL0 := Lib.hid ((hO (w.heap.size + 1) (by omega)).trans hgR.out)
  have hbL : Below w.heap.size w ((w1.setCell ⟨w.heap.size, 3, none⟩ (.string (mkS p))).setCell ⟨w.heap.size, 4, none⟩ (.string ⟨#[]⟩)) := (hbw.setCell (by simp) _).setCell (by simp) _
  clear hL hO
  go_wp2_with (first
    | (refine wpList_load_row rfl 70 _ rfl w.heap.size rfl _ _ _ _ HL.out Tryz.underlying70 rfl (by kernel_rfl) ?_)
    | (refine wpList_store_row rfl 70 _ _ rfl (w.heap.size + 1) #[.int .i64 a, .int .i64 b, .int .i64 c, .string (mkS p), .string ⟨#[]⟩] rfl rfl _ _ HL0.out (by kernel_rfl) rfl (gF _ _ _ _ _) ?_))
  have hr := results_cell_row (P := Tryz.prog) (fn := Tryz.f191) Tryz.results191
  refine bodyPost_ret (v := .agg #[.int .i64 a, .int .i64 b, .int .i64 c, .string (mkS p), .string ⟨#[]⟩]) (hr _ _ (w.heap.size + 1) _ _ _ _ rfl (setRow_heap _ _ _ _ _ _ HL0.out) Tryz.underlying70 rfl (by kernel_rfl)) rfl ⟨rfl, kT hbL (by omega) _⟩
end
section
def ReadsI (w : World) (B : Nat) (v : Value) (l : List Int) : Prop :=
  ∃ A cap, v = .slice A l.length cap ∧ (0 < l.length → ∃ ad : Addr, A = some ad ∧ ad.block < B ∧ ∀ j (h : j < l.length), w.cell? (ad.add j) = some (.int .i64 l[j]))
def atL (l : List Int) (i : Nat) : Int := (l[i]?).getD 0
def plc (v n : Int) : Int := if v.tmod n < 0 then v.tmod n + n else v.tmod n
def i64in (n : Int) : Prop := -9223372036854775808 ≤ n ∧ n ≤ 9223372036854775807
def numT (k : Nat) : Int := (([0, 1, 2, 3, 0, 1, 10, 9999] : List Int)[k]?).getD 0
def preT14 (k : Nat) : List UInt8 := (([[], [], [], [], [48], [49], [50], [49, 49], [97], [97, 46, 49], [97, 46, 98], [98], [48, 46, 48], [114, 99, 46, 49]] : List (List UInt8))[k]?).getD []
def bldT (k : Nat) : List UInt8 := (([[], [], [], [], [48, 48, 55], [120, 46, 49]] : List (List UInt8))[k]?).getD []
def genV (l : List Int) (i : Nat) : Ver := ⟨numT (plc (atL l i) 8).toNat, numT (plc (atL l (i + 1)) 8).toNat, numT (plc (atL l (i + 2)) 8).toNat, preT14 (plc (atL l (i + 3)) 14).toNat, bldT (plc (atL l (i + 4)) 6).toNat⟩
def GEnd (u : Ver) (w : World) (e : Ending) (w' : World) : Prop := e = .returned (yK u) ∧ Below w.heap.size w w'
end
section
end
section
end
section
end
section
end
section
structure Cu where
  e : Int
  v : Ver
  aft : Bool
deriving DecidableEq
def Cu.may (c : Cu) : Bool := if c.e = 0 then c.v.may && c.v.build.isEmpty else decide (c.e = -1 ∨ c.e = 1) && decide (c.v = Ver.zero) && !c.aft
def b01 (b : Bool) : Int := if b then 1 else 0
def lex (x y : Int) : Int := if x = 0 then y else x
def zN (a b : Cu) : Int := if a.may && b.may then lex (Lib.compareInt a.e b.e) (lex (gW a.v b.v) (Lib.compareInt (b01 a.aft) (b01 b.aft))) else 0
theorem zero_may : Ver.zero.may = true := by decide
theorem wA {c : Cu} (h : c.may = true) : c.v.may = true := by
  unfold Cu.may at h
  split at h
  · rw [Bool.and_eq_true] at h; exact h.1
  · simp only [Bool.and_eq_true, decide_eq_true_eq] at h; rw [h.1.2]; exact zero_may
theorem may_e {c : Cu} (h : c.may = true) : (c.e = 0 ∧ c.v.build = []) ∨ ((c.e = -1 ∨ c.e = 1) ∧ c.v = Ver.zero ∧ c.aft = false) := by
  unfold Cu.may at h
  split at h
  · rename_i h0; rw [Bool.and_eq_true] at h; exact .inl ⟨h0, List.isEmpty_iff.1 h.2⟩
  · simp only [Bool.and_eq_true, decide_eq_true_eq, Bool.not_eq_true'] at h; exact .inr ⟨h.1.1, h.1.2, h.2⟩
theorem qB {c : Cu} (h : c.may = true) : c.v.build = [] := by
  rcases may_e h with h | h
  · exact h.2
  · rw [h.2.1]; rfl
theorem dO {v w : Ver} : gW v w = -1 ∨ gW v w = 0 ∨ gW v w = 1 := by
  by_cases hv : v.may = true
  · by_cases hw : w.may = true
    · rw [jI hv hw]; exact cmpL_range _ _
    · exact .inr (.inl (pY (.inr (by simpa using hw))))
  · exact .inr (.inl (pY (.inl (by simpa using hv))))
theorem ci_range (x y : Int) : Lib.compareInt x y = -1 ∨ Lib.compareInt x y = 0 ∨ Lib.compareInt x y = 1 := by
  unfold Lib.compareInt
  by_cases h : x < y
  · rw [if_pos h]; simp
  · rw [if_neg h]
    by_cases h2 : y < x
    · rw [if_pos h2]; simp
    · rw [if_neg h2]; simp
theorem qC {a b : Cu} (ha : a.may = true) (hb : b.may = true) : zN a b = lex (Lib.compareInt a.e b.e) (lex (gW a.v b.v) (Lib.compareInt (b01 a.aft) (b01 b.aft))) := by
  unfold zN; rw [ha, hb]; rfl
theorem dQ (a b : Cu) : zN a b = -1 ∨ zN a b = 0 ∨ zN a b = 1 := by
  unfold zN lex
  have h1 := ci_range a.e b.e
  have h2 := dO (v := a.v) (w := b.v)
  have h3 := ci_range (b01 a.aft) (b01 b.aft)
  split
  · split
    · split
      · exact h3
      · exact h2
    · exact h1
  · simp
structure Ord3 {α : Type} (c : α → α → Int) : Prop where
  anti : ∀ x y, c y x = - c x y
  on : ∀ x y z, c x y ≤ 0 → c y z ≤ 0 → c x z ≤ 0 ∧ (c x z = 0 → c x y = 0 ∧ c y z = 0)
  same : ∀ x y z, c x y = 0 → c y z = 0 → c x z = 0
theorem lex_ord {α : Type} {c d : α → α → Int} (hc : Ord3 c) (hd : Ord3 d) : Ord3 (fun x y => lex (c x y) (d x y)) := by
  refine ⟨fun x y => ?_, fun x y z h1 h2 => ?_, fun x y z h1 h2 => ?_⟩
  · have a := hc.anti x y; have b := hd.anti x y
    show lex (c y x) (d y x) = - lex (c x y) (d x y)
    unfold lex
    by_cases h : c x y = 0
    · rw [if_pos h, if_pos (by omega)]; exact b
    · rw [if_neg h, if_neg (by omega)]; exact a
  · have a := hc.on x y z; have b := hd.on x y z; have s := hc.same x y z
    show lex _ _ ≤ 0 ∧ (lex _ _ = 0 → lex _ _ = 0 ∧ lex _ _ = 0)
    replace h1 : lex (c x y) (d x y) ≤ 0 := h1
    replace h2 : lex (c y z) (d y z) ≤ 0 := h2
    unfold lex at h1 h2 ⊢
    by_cases p : c x y = 0
    · by_cases q : c y z = 0
      · rw [if_pos p] at h1 ⊢; rw [if_pos q] at h2 ⊢; rw [if_pos (s p q)]; exact b h1 h2
      · rw [if_pos p] at h1 ⊢; rw [if_neg q] at h2 ⊢
        obtain ⟨a1, a2⟩ := a (by omega) h2
        have : c x z ≠ 0 := fun e => q (a2 e).2
        rw [if_neg this]; exact ⟨a1, fun e => absurd e this⟩
    · rw [if_neg p] at h1 ⊢
      have h2' : c y z ≤ 0 := by
        by_cases q : c y z = 0
        · omega
        · rw [if_neg q] at h2; exact h2
      obtain ⟨a1, a2⟩ := a h1 h2'
      have : c x z ≠ 0 := fun e => p (a2 e).1
      rw [if_neg this]; exact ⟨a1, fun e => absurd e this⟩
  · have s := hc.same x y z; have t := hd.same x y z
    show lex _ _ = 0
    replace h1 : lex (c x y) (d x y) = 0 := h1
    replace h2 : lex (c y z) (d y z) = 0 := h2
    unfold lex at h1 h2 ⊢
    by_cases p : c x y = 0
    · by_cases q : c y z = 0
      · rw [if_pos p] at h1; rw [if_pos q] at h2; rw [if_pos (s p q)]; exact t h1 h2
      · rw [if_neg q] at h2; exact absurd h2 q
    · rw [if_neg p] at h1; exact absurd h1 p
theorem ci_ord {α : Type} (f : α → Int) : Ord3 (fun x y => Lib.compareInt (f x) (f y)) := by
  refine ⟨fun x y => ?_, fun x y z => ?_, fun x y z => ?_⟩ <;> unfold Lib.compareInt <;> (repeat' split) <;> omega
theorem cmpL_ord {α : Type} (f : α → List Nat) : Ord3 (fun x y => kB (f x) (f y)) := by
  refine ⟨fun x y => cmpL_anti _ _, fun x y z => cmpL_trans _ _ _, fun x y z h1 h2 => ?_⟩
  show kB (f x) (f z) = 0
  rw [cmpL_zero _ _ h1, cmpL_zero _ _ h2]; exact cmpL_self _
def cmpK (a b : Cu) : Int := lex (Lib.compareInt a.e b.e) (lex (kB a.v.key b.v.key) (Lib.compareInt (b01 a.aft) (b01 b.aft)))
theorem cmpK_ord : Ord3 cmpK := lex_ord (ci_ord (fun c : Cu => c.e)) (lex_ord (cmpL_ord (fun c : Cu => c.v.key)) (ci_ord (fun c : Cu => b01 c.aft)))
theorem cmpC_K {a b : Cu} (ha : a.may = true) (hb : b.may = true) : zN a b = cmpK a b := by
  rw [qC ha hb, jI (wA ha) (wA hb)]; rfl
theorem kP {a b : Cu} (h : a.may = false ∨ b.may = false) : zN a b = 0 := by
  unfold zN
  rcases h with h | h <;> rw [h] <;> simp
theorem xH {a b : Cu} : zN b a = - zN a b := by
  cases ha : a.may with
  | true =>
    cases hb : b.may with
    | true => rw [cmpC_K ha hb, cmpC_K hb ha]; exact cmpK_ord.anti _ _
    | false => rw [kP (.inl hb), kP (.inr hb)]; rfl
  | false => rw [kP (a := a) (.inl ha), kP (b := a) (.inr ha)]; rfl
theorem cut_on {a b c : Cu} (ha : a.may = true) (hb : b.may = true) (hc : c.may = true) (h1 : zN a b ≤ 0) (h2 : zN b c ≤ 0) : zN a c ≤ 0 ∧ (zN a c = 0 → zN a b = 0 ∧ zN b c = 0) := by
  rw [cmpC_K ha hb] at h1 ⊢; rw [cmpC_K hb hc] at h2 ⊢; rw [cmpC_K ha hc]; exact cmpK_ord.on _ _ _ h1 h2
theorem pP (x : Int) : lex (-1) x = -1 := rfl
theorem lex_pos (x : Int) : lex 1 x = 1 := rfl
theorem lex_0 (x : Int) : lex 0 x = x := rfl
theorem lex_zero {x y : Int} : lex x y = 0 ↔ x = 0 ∧ y = 0 := by
  unfold lex
  split
  · rename_i h; exact ⟨fun e => ⟨h, e⟩, fun e => e.2⟩
  · rename_i h; exact ⟨fun e => absurd e h, fun e => absurd e.1 h⟩
theorem b01_eq {a b : Bool} (h : b01 a = b01 b) : a = b := by cases a <;> cases b <;> simp [b01] at h ⊢
theorem cut_eq {a b : Cu} (ha : a.may = true) (hb : b.may = true) : zN a b = 0 ↔ a = b := by
  constructor
  · intro h
    rw [qC ha hb, lex_zero, lex_zero] at h
    obtain ⟨h1, h2, h3⟩ := h
    have e2 := cmpR_zero (wA ha) (wA hb) h2
    have e1 := xQ h1
    have e3 := b01_eq (xQ h3)
    have ba := qB ha
    have bb := qB hb
    obtain ⟨ae, ⟨a1, a2, a3, a4, a5⟩, aa⟩ := a
    obtain ⟨be, ⟨b1, b2, b3, b4, b5⟩, ba'⟩ := b
    unfold xY at e2
    dsimp only at *
    simp only [Ver.mk.injEq] at e2
    obtain ⟨rfl, rfl, rfl, rfl, _⟩ := e2
    subst ba bb e1 e3
    rfl
  · rintro rfl
    have := xH (a := a) (b := a)
    omega
def zZ (e : Int) : Cu := ⟨e, Ver.zero, false⟩
def posC (v : Ver) : Cu := ⟨0, xY v, false⟩
theorem mF : (zZ (-1)).may = true := by decide
theorem bS : (zZ 1).may = true := by decide
theorem posC_may {v : Ver} (h : v.may = true) : (posC v).may = true := by
  unfold posC Cu.may
  rw [if_pos rfl, fO h]; rfl
theorem fL {a : Cu} (ha : a.may = true) : zN (zZ (-1)) a ≤ 0 := by
  rw [qC mF ha]
  rcases may_e ha with ⟨h, _⟩ | ⟨h | h, h2, h3⟩
  · have : Lib.compareInt (zZ (-1)).e a.e = -1 := fR (by show (-1 : Int) < a.e; omega)
    rw [this, pP]; decide
  · rw [show (zZ (-1)).e = a.e from h.symm, yM, h2, h3]; decide
  · have : Lib.compareInt (zZ (-1)).e a.e = -1 := fR (by show (-1 : Int) < a.e; omega)
    rw [this, pP]; decide
theorem le_last {a : Cu} (ha : a.may = true) : zN a (zZ 1) ≤ 0 := by
  rw [qC ha bS]
  rcases may_e ha with ⟨h, _⟩ | ⟨h | h, h2, h3⟩
  · have : Lib.compareInt a.e (zZ 1).e = -1 := fR (by show a.e < (1 : Int); omega)
    rw [this, pP]; decide
  · have : Lib.compareInt a.e (zZ 1).e = -1 := fR (by show a.e < (1 : Int); omega)
    rw [this, pP]; decide
  · rw [show (zZ 1).e = a.e from h.symm, yM, h2, h3]; decide
def dU (c : Cu) (v : Ver) : Bool := c.may && v.may && (if c.e = 0 then decide (gW c.v v < 0 ∨ (gW c.v v = 0 ∧ c.aft = false)) else decide (c.e < 0))
theorem cmpR_coreR {a v : Ver} (ha : a.may = true) (hv : v.may = true) : gW a (xY v) = gW a v := by
  rw [jI ha (fO hv), jI ha hv]; rfl
theorem ahead_pos {c : Cu} {v : Ver} (hc : c.may = true) (hv : v.may = true) : dU c v = decide (zN c (posC v) ≤ 0) := by
  rw [qC hc (posC_may hv)]
  unfold dU
  rw [hc, hv]
  show (true && true && _) = decide (lex (Lib.compareInt c.e 0) (lex (gW c.v (xY v)) (Lib.compareInt (b01 c.aft) (b01 false))) ≤ 0)
  rw [cmpR_coreR (wA hc) hv]
  rcases may_e hc with ⟨h, _⟩ | ⟨h, h2, h3⟩
  · rw [if_pos h, h, yM]
    unfold lex
    rw [if_pos rfl]
    rcases dO (v := c.v) (w := v) with e | e | e <;> rw [e] <;> cases c.aft <;> decide
  · rw [if_neg (by omega)]
    rcases h with h | h <;> rw [h]
    · rw [show Lib.compareInt (-1) 0 = -1 from by decide]; unfold lex; simp
    · rw [show Lib.compareInt 1 0 = 1 from by decide]; unfold lex; simp
theorem ahead_on {a b : Cu} {v : Ver} (ha : a.may = true) (hb : b.may = true) (hv : v.may = true) (h : zN a b ≤ 0) (h2 : dU b v = true) : dU a v = true := by
  rw [ahead_pos hb hv, decide_eq_true_eq] at h2
  rw [ahead_pos ha hv, decide_eq_true_eq]
  exact (cut_on ha hb (posC_may hv) h h2).1
def gX (a b : Cu) : Bool := if a.e = b.e then (if gW a.v b.v = -1 then true else if gW a.v b.v = 1 then false else !a.aft && b.aft) else decide (a.e < b.e)
theorem bR {a b : Cu} (ha : a.may = true) (hb : b.may = true) : zN a b = if gX a b then -1 else if gX b a then 1 else 0 := by
  rw [qC ha hb]
  have hanti := order_anti (wA ha) (wA hb)
  by_cases he : a.e = b.e
  · unfold gX
    rw [if_pos he, if_pos he.symm, he, yM, hanti, lex_0]
    rcases dO (v := a.v) (w := b.v) with e | e | e <;> rw [e] <;> cases a.aft <;> cases b.aft <;> rfl
  · have l1 : gX a b = decide (a.e < b.e) := by unfold gX; rw [if_neg he]
    have l2 : gX b a = decide (b.e < a.e) := by unfold gX; rw [if_neg (fun h => he h.symm)]
    rw [l1, l2]
    rcases Int.lt_or_gt_of_ne he with h | h
    · rw [fR h, pP, decide_eq_true h]; rfl
    · rw [ci_gt h, lex_pos, decide_eq_true h, decide_eq_false (by omega)]; rfl
structure Sp where
  lo : Cu
  hi : Cu
def Sp.may (s : Sp) : Bool := decide (zN s.lo s.hi = -1)
def holdsC (s : Sp) (v : Ver) : Bool := s.may && dU s.lo v && !dU s.hi v
theorem zU {s : Sp} (h : s.may = true) : s.lo.may = true ∧ s.hi.may = true := by
  unfold Sp.may at h
  rw [decide_eq_true_eq] at h
  constructor
  · cases e : s.lo.may with
    | true => rfl
    | false => rw [kP (.inl e)] at h; omega
  · cases e : s.hi.may with
    | true => rfl
    | false => rw [kP (.inr e)] at h; omega
theorem beside {v w : Ver} (hv : v.may = true) (hw : w.may = true) : (Sp.mk ⟨0, xY v, false⟩ ⟨0, xY v, true⟩).may = true ∧ holdsC ⟨⟨0, xY v, false⟩, ⟨0, xY v, true⟩⟩ w = decide (gW v w = 0) := by
  have m1 : (Cu.mk 0 (xY v) false).may = true := posC_may hv
  have m2 : (Cu.mk 0 (xY v) true).may = true := by unfold Cu.may; rw [if_pos rfl, fO hv]; rfl
  have hs : (Sp.mk ⟨0, xY v, false⟩ ⟨0, xY v, true⟩).may = true := by
    unfold Sp.may
    rw [qC m1 m2]
    dsimp only
    rw [order_self]; rfl
  refine ⟨hs, ?_⟩
  unfold holdsC dU
  rw [hs, m1, m2, hw]
  dsimp only
  rw [if_pos rfl, if_pos rfl, order_core hv hw]
  rcases dO (v := v) (w := w) with e | e | e <;> rw [e] <;> rfl
theorem between {a b : Cu} {v : Ver} (ha : a.may = true) (hb : b.may = true) (hv : v.may = true) (h1 : dU a v = true) (h2 : dU b v = false) : zN a b = -1 := by
  have h3 : ¬ zN b a ≤ 0 := fun h => by rw [ahead_on hb ha hv h h1] at h2; cases h2
  have := xH (a := a) (b := b)
  rcases dQ a b with e | e | e <;> omega
def genC (l : List Int) (i : Nat) : Cu :=
  if plc (atL l (i + 5)) 9 < 2 then zZ (2 * plc (atL l (i + 5)) 9 - 1) else ⟨0, xY (genV l i), decide (plc (atL l (i + 5)) 2 = 1)⟩
end
section
def EqOk (P : Program) (d : Nat) (xs ys : Array Value) : List Field → List Bool → Prop
  | [], [] => True
  | f :: fs, b :: bs => f.name ≠ "_" ∧ (∃ u v, ∀ w, (part f.type xs f.offset).run P w = .ok u w ∧ (part f.type ys f.offset).run P w = .ok v w ∧ (Op.equalIn d f.type u v).run P w = .ok b w) ∧ EqOk P d xs ys fs bs
  | _, _ => False
theorem eqF {P : Program} {d : Nat} {xs ys : Array Value} : ∀ (fs : List Field) (bs : List Bool), EqOk P d xs ys fs bs → ∀ w, (Op.eqFields d xs ys fs).run P w = .ok (bs.all id) w
  | [], [], _, w => rfl
  | f :: fs, b :: bs, h, w => by
    obtain ⟨h1, ⟨u, v, h2⟩, h3⟩ := h
    obtain ⟨e1, e2, e3⟩ := h2 w
    have ih := eqF fs bs h3 w
    unfold Op.eqFields
    rw [if_pos h1]
    simp only [Sem.run_bind, e1, e2, e3, Result.andThen_ok]
    cases b with
    | false => simp
    | true => simp [ih]
  | [], _ :: _, h, _ => h.elim
  | _ :: _, [], h, _ => h.elim
theorem eq_agg {P : Program} {d : Nat} {t : TypeId} {xs ys : Array Value} {fs : List Field} {bs : List Bool} (hu : P.underlying t = some (.struct fs.toArray)) (hp : P.stoodInHeld t = false) (h : EqOk P d xs ys fs bs) (w : World) :
    (Op.equalIn (d + 1) t (.agg xs) (.agg ys)).run P w = .ok (bs.all id) w := by
  have hf : P.fieldsOf t = fs.toArray := by unfold Program.fieldsOf; rw [hu]
  rw [run_equalIn_struct w d t xs ys (by rw [hf]; exact hu) hp, hf]
  have : fs.toArray.toList = fs := by simp
  rw [this]
  exact eqF fs bs h w
theorem run_eq_op {P : Program} {ρ : Operand → Value} {o : Oper} {t t' : TypeId} {x y : Operand} {xs ys : Array Value} {b : Bool} (ho : o.op = .binOp .eql t x y t') (hx : ρ x = .agg xs) (hy : ρ y = .agg ys) (hm : P.eqGuardType P.depth t = false)
    (h : ∀ w, (Op.equalIn 10000 t (.agg xs) (.agg ys)).run P w = .ok b w) (w : World) : (execOp ρ o).run P w = .ok (.value (.bool b)) w := by
  have h1 := run_eqGuard_agg (P := P) w .eql t x y xs ys hm
  have h2 : (binOp .eql t (.agg xs) (.agg ys)).run P w = .ok (.bool b) w := by rw [run_eql_struct, h w]; rfl
  unfold execOp
  simp only [ho, hx, hy, Sem.run_bind, h1, Result.andThen_ok, h2, Sem.run_pure]
theorem str_beq (a b : List UInt8) : ((mkS a).toList == (mkS b).toList) = decide (a = b) := by
  rw [Lib.toList_data, Lib.toList_data, mk_data, mk_data]
  by_cases h : a = b
  · subst h; simp
  · rw [decide_eq_false h]; simpa using h
theorem guard_str {P : Program} {op : BinOp} {t : TypeId} {x y : Operand} {a b : ByteArray} (w : World) : (eqGuard op t x y (.string a) (.string b)).run P w = .ok () w := by cases op <;> simp [eqGuard]
theorem yE {P : Program} {ρ : Operand → Value} {o : Oper} {t t' : TypeId} {x y : Operand} {a b : List UInt8} {r : Bool} (ho : o.op = .binOp .eql t x y t') (hx : ρ x = .string (mkS a)) (hy : ρ y = .string (mkS b)) (h : decide (a = b) = r) (w : World) : (execOp ρ o).run P w = .ok (.value (.bool r)) w := by
  unfold execOp
  simp only [ho, hx, hy, Sem.run_bind, guard_str, Result.andThen_ok, binOp_string_eql, Sem.run_pure, str_beq, h]
theorem t8 (t : TypeId) (a b : ByteArray) : binOp .neq t (.string a) (.string b) = pure (.bool (!(a.toList == b.toList))) := by simp [binOp, Op.stringOp]
theorem xC {P : Program} {ρ : Operand → Value} {o : Oper} {t t' : TypeId} {x y : Operand} {a b : List UInt8} {r : Bool} (ho : o.op = .binOp .neq t x y t') (hx : ρ x = .string (mkS a)) (hy : ρ y = .string (mkS b)) (h : decide (a = b) = r) (w : World) : (execOp ρ o).run P w = .ok (.value (.bool (!r))) w := by
  unfold execOp
  simp only [ho, hx, hy, Sem.run_bind, guard_str, Result.andThen_ok, t8, Sem.run_pure, str_beq, h]
theorem all5 (a b c d e : Bool) : ([a, b, c, d, e].all id) = (a && (b && (c && (d && e)))) := by simp
theorem all3 (a b c : Bool) : ([a, b, c].all id) = (a && (b && c)) := by simp
theorem ver_dec (u v : Ver) : decide (u = v) = (decide (u.maj = v.maj) && (decide (u.min = v.min) && (decide (u.pat = v.pat) && (decide (u.pre = v.pre) && decide (u.build = v.build))))) := by
  obtain ⟨a, b, c, d, e⟩ := u
  obtain ⟨a', b', c', d', e'⟩ := v
  simp only [Ver.mk.injEq, Bool.decide_and]
theorem int_beq (a b : Int) : (a == b) = decide (a = b) := rfl
theorem eq_ver (u v : Ver) (d : Nat) (w : World) : (Op.equalIn (d + 1 + 1) 70 (yK u) (yK v)).run Tryz.prog w = .ok (decide (u = v)) w := by
  have h := eq_agg (P := Tryz.prog) (d := d + 1) (t := 70) (xs := (yK u).cells) (ys := (yK v).cells) (bs := [u.maj == v.maj, u.min == v.min, u.pat == v.pat, (mkS u.pre).toList == (mkS v.pre).toList, (mkS u.build).toList == (mkS v.build).toList]) Tryz.underlying70 (by kernel_rfl)
    ⟨by decide, ⟨.int .i64 u.maj, .int .i64 v.maj, fun w => ⟨by kernel_rfl, by kernel_rfl, run_equalIn_int w d _ _ _ _ _ Tryz.underlying3⟩⟩,
     by decide, ⟨.int .i64 u.min, .int .i64 v.min, fun w => ⟨by kernel_rfl, by kernel_rfl, run_equalIn_int w d _ _ _ _ _ Tryz.underlying3⟩⟩,
     by decide, ⟨.int .i64 u.pat, .int .i64 v.pat, fun w => ⟨by kernel_rfl, by kernel_rfl, run_equalIn_int w d _ _ _ _ _ Tryz.underlying3⟩⟩,
     by decide, ⟨.string (mkS u.pre), .string (mkS v.pre), fun w => ⟨by kernel_rfl, by kernel_rfl, run_equalIn_string w d _ _ _ Tryz.underlying9⟩⟩,
     by decide, ⟨.string (mkS u.build), .string (mkS v.build), fun w => ⟨by kernel_rfl, by kernel_rfl, run_equalIn_string w d _ _ _ Tryz.underlying9⟩⟩, trivial⟩ w
  rw [all5, str_beq, str_beq, int_beq, int_beq, int_beq, ← ver_dec] at h
  exact h
def zC (c : Cu) : Value := .agg #[.int .i64 c.e, .int .i64 c.v.maj, .int .i64 c.v.min, .int .i64 c.v.pat, .string (mkS c.v.pre), .string (mkS c.v.build), .bool c.aft]
def zM (s : Sp) : Value := .agg #[.int .i64 s.lo.e, .int .i64 s.lo.v.maj, .int .i64 s.lo.v.min, .int .i64 s.lo.v.pat, .string (mkS s.lo.v.pre), .string (mkS s.lo.v.build), .bool s.lo.aft, .int .i64 s.hi.e, .int .i64 s.hi.v.maj, .int .i64 s.hi.v.min, .int .i64 s.hi.v.pat, .string (mkS s.hi.v.pre), .string (mkS s.hi.v.build), .bool s.hi.aft]
theorem cut_dec (u v : Cu) : decide (u = v) = (decide (u.e = v.e) && (decide (u.v = v.v) && (u.aft == v.aft))) := by
  obtain ⟨a, b, c⟩ := u
  obtain ⟨a', b', c'⟩ := v
  simp only [Cu.mk.injEq, Bool.decide_and]
  cases c <;> cases c' <;> simp
theorem eq_cut (u v : Cu) (d : Nat) (w : World) : (Op.equalIn (d + 1 + 1 + 1) 72 (zC u) (zC v)).run Tryz.prog w = .ok (decide (u = v)) w := by
  have h := eq_agg (P := Tryz.prog) (d := d + 1 + 1) (t := 72) (xs := (zC u).cells) (ys := (zC v).cells) (bs := [u.e == v.e, decide (u.v = v.v), u.aft == v.aft]) Tryz.underlying72 (by kernel_rfl)
    ⟨by decide, ⟨.int .i64 u.e, .int .i64 v.e, fun w => ⟨by kernel_rfl, by kernel_rfl, run_equalIn_int w (d + 1) _ _ _ _ _ Tryz.underlying3⟩⟩,
     by decide, ⟨yK u.v, yK v.v, fun w => ⟨by kernel_rfl, by kernel_rfl, eq_ver u.v v.v d w⟩⟩,
     by decide, ⟨.bool u.aft, .bool v.aft, fun w => ⟨by kernel_rfl, by kernel_rfl, run_equalIn_bool' w (d + 1) _ _ _ Tryz.underlying4⟩⟩, trivial⟩ w
  rw [all3, int_beq, ← cut_dec] at h
  exact h
theorem guard_ver : Tryz.prog.eqGuardType Tryz.prog.depth 70 = false := by kernel_rfl
theorem guard_cut : Tryz.prog.eqGuardType Tryz.prog.depth 72 = false := by kernel_rfl
theorem m9 {ρ : Operand → Value} {o : Oper} {t' : TypeId} {x y : Operand} {u v : Ver} {b : Bool} (ho : o.op = .binOp .eql 70 x y t') (hx : ρ x = yK u) (hy : ρ y = yK v) (hb : decide (u = v) = b) (w : World) : (execOp ρ o).run Tryz.prog w = .ok (.value (.bool b)) w :=
  run_eq_op ho hx hy guard_ver (fun w => hb ▸ eq_ver u v 9998 w) w
theorem v8 {ρ : Operand → Value} {o : Oper} {t' : TypeId} {x y : Operand} {u v : Cu} {b : Bool} (ho : o.op = .binOp .eql 72 x y t') (hx : ρ x = zC u) (hy : ρ y = zC v) (hb : decide (u = v) = b) (w : World) : (execOp ρ o).run Tryz.prog w = .ok (.value (.bool b)) w :=
  run_eq_op ho hx hy guard_cut (fun w => hb ▸ eq_cut u v 9997 w) w
end
section
theorem dC {a b : Int} (h : a = b) : Ending.returned (.int .i64 a) = .returned (.int .i64 b) := by rw [h]
theorem nU {B : Nat} {a w : World} (h : Below B a w) : Below B a w.drew := h.drew
theorem wC (b : List UInt8) : (mkS b).toList.isEmpty = b.isEmpty := by rw [Lib.toList_data, mk_data]
theorem compareTag_any (a b : List UInt8) (w : World) (ha : a.length ≤ 1000000) (hb : b.length ≤ 1000000) :
    Calls Tryz.prog 211 #[.string (mkS a), .string (mkS b)] w fun e w' => e = .returned (.int .i64 (nD a b)) ∧ Below w.heap.size w w' := by
  have la : a.length ≤ maxLen := by unfold maxLen; omega
  have lb : b.length ≤ maxLen := by unfold maxLen; omega
  have HO : Hid (nD a b = if gA a && gA b then Lib.compareInt (zI a) (zI b) else if gA a && !b.isEmpty then -1 else if gA b && !a.isEmpty then 1 else Lib.compareBytes a b) := rfl
  have ea := wC a
  have eb := wC b
  obtain ⟨na, hna⟩ : ∃ n, zI a = n := ⟨_, rfl⟩
  obtain ⟨nb, hnb⟩ : ∃ n, zI b = n := ⟨_, rfl⟩
  have cC := fun w' => Tryz.strings_Compare (mkS a) (mkS b) w'
  rw [mk_data, mk_data] at cC
  obtain ⟨x, hx⟩ : ∃ n, Lib.compareBytes a b = n := ⟨_, rfl⟩
  have cI := fun w' => Tryz.cmp_Compare_int na nb w'
  obtain ⟨y, hy⟩ : ∃ n, Lib.compareInt na nb = n := ⟨_, rfl⟩
  rw [hx] at cC HO
  rw [hna, hnb, hy] at HO
  rw [hy] at cI
  clear hx hy
  cases hi : gA a <;> cases hj : gA b <;> cases ga : a.isEmpty <;> cases gb : b.isEmpty
  all_goals
    rw [hi, hj, ga, gb] at HO
    have cA := fun w' => qM a _ hi w' la
    have cB := fun w' => qM b _ hj w' lb
    rw [hna] at cA
    rw [hnb] at cB
    rw [ga] at ea
    rw [gb] at eb
    clear hi hj ga gb
    go_enter Tryz.func211, Tryz.ntmps211
    go_wp2_with fail
    refine (cA _).mono ?_
    rintro e w1 ⟨rfl, hb1⟩
    go_wp2_with fail
    refine (cB _).mono ?_
    rintro e w2 ⟨rfl, hb2⟩
    have hbw : Below w.heap.size w w2 := hb1.trans (hb2.mono hb1.size)
    go_wp2_with (first
      | (go_at_call 193; refine (cI _).mono ?_; rintro e w3 ⟨rfl, rfl⟩)
      | (go_at_call 225; refine (cC _).mono ?_; rintro e w3 ⟨rfl, rfl⟩))
    go_ret
    exact ⟨dC (by rw [HO.out]; simp), hbw⟩
theorem lcell_get (l : List (List UInt8)) (k : Nat) (hk : k < 4) : (xZ l)[k]? = some (.string (mkS (tg l k))) := by
  match k, hk with
  | 0, _ => rfl
  | 1, _ => rfl
  | 2, _ => rfl
  | 3, _ => rfl
theorem tag_cell {w : World} {B : Nat} {l : List (List UInt8)} {T : TypeId} (h : w.heap[B]? = some (.cells (xZ l) T)) (k : Nat) (hk : k < 4) : w.cell? ⟨B, k, none⟩ = some (.string (mkS (tg l k))) := by
  rw [cell_of_row w B k _ _ _ h]; exact lcell_get l k hk
theorem seqP_on (n : Nat) (l m : List (List UInt8)) (h : nD (tg l 0) (tg m 0) = 0) : fD (n + 1) l m = fD n l.tail m.tail := by
  rw [fD, if_neg (by simpa using h)]
theorem seqP_off (n : Nat) (l m : List (List UInt8)) (h : ¬ nD (tg l 0) (tg m 0) = 0) : fD (n + 1) l m = nD (tg l 0) (tg m 0) := by
  rw [fD, if_pos h]
theorem fW (l : List (List UInt8)) (k : Nat) : tg (l.drop k) 0 = tg l k := by unfold tg; simp
theorem cfunc_any (bx by_ : Nat) (l m : List (List UInt8)) (w : World) (hx : w.heap[bx]? = some (.cells (xZ l) 193)) (hy : w.heap[by_]? = some (.cells (xZ m) 193)) (hl : ∀ i, (tg l i).length ≤ 8) (hm : ∀ i, (tg m i).length ≤ 8) :
    Calls Tryz.prog 210 #[.slice (some ⟨bx, 0, none⟩) 4 4, .slice (some ⟨by_, 0, none⟩) 4 4, .func (.func 211) #[] #[]] w fun e w' => e = .returned (.int .i64 (fD 4 l m)) ∧ Below w.heap.size w w' := by
  have hbx := (Array.getElem?_eq_some_iff.1 hx).1
  have hby := (Array.getElem?_eq_some_iff.1 hy).1
  have HX := Lib.hid hx
  have HY := Lib.hid hy
  have HL := Lib.hid hl
  have HM := Lib.hid hm
  clear hx hy hl hm
  go_enter Tryz.func210, Tryz.ntmps210
  go_wp2
  go_loopw [13] (fun v wr => ∃ k : Nat, k ≤ 4 ∧ v = .int .i64 k ∧ Below w.heap.size w wr ∧ Hid (fD (4 - k) (l.drop k) (m.drop k) = fD 4 l m)) (fun v _ => 4 - (intOf v).toNat)
  case atStart => exact ⟨0, by omega, rfl, Below.refl _ _, rfl⟩
  case round =>
    obtain ⟨k, hk, rfl, hbel, HR⟩ := hrel
    by_cases hk4 : k < 4
    · have hki : (k : Int) < 4 := by omega
      have hkn : ¬ (4 : Int) ≤ k := by omega
      have cx := tag_cell ((hbel.block bx hbx).trans HX.out) k hk4
      have cy := tag_cell ((hbel.block by_ hby).trans HY.out) k hk4
      have lx := HL.out k
      have ly := HM.out k
      obtain ⟨n, hn⟩ : ∃ n, 4 - k = n + 1 := ⟨3 - k, by omega⟩
      have cT := fun w' => compareTag_any (tg l k) (tg m k) w' (by omega) (by omega)
      obtain ⟨o, ho⟩ : ∃ o, nD (tg l k) (tg m k) = o := ⟨_, rfl⟩
      rw [ho] at cT
      by_cases h0 : o = 0
      · have hq : fD n (l.drop (k + 1)) (m.drop (k + 1)) = fD 4 l m := by
          rw [← HR.out, hn, seqP_on _ _ _ (by rw [fW, fW, ho, h0])]; simp [List.tail_drop]
        have HQ := Lib.hid hq
        have HN := Lib.hid hn
        subst h0
        clear hq hn ho
        go_wp2_with fail
        refine (cT _).mono ?_
        rintro e w1 ⟨rfl, hb1⟩
        go_wp2
        go_roundw
        case rel => exact ⟨k + 1, by omega, by go_num, hbel.trans (hb1.mono hbel.size), by have := HN.out; rw [show 4 - (k + 1) = n from by omega]; exact HQ.out⟩
        case measure => simp [intOf]; omega
      · have hq : o = fD 4 l m := by
          rw [← HR.out, hn, seqP_off _ _ _ (by rw [fW, fW, ho]; exact h0), fW, fW, ho]
        have HQ := Lib.hid hq
        have h0b : (o != 0) = true := by simpa using h0
        clear hq hn ho
        go_wp2_with fail
        refine (cT _).mono ?_
        rintro e w1 ⟨rfl, hb1⟩
        go_wp2
        go_ret
        exact ⟨dC HQ.out, hbel.trans (hb1.mono hbel.size)⟩
    · have hki : ¬ (k : Int) < 4 := by omega
      obtain rfl : k = 4 := by omega
      go_wp2
      go_ret
      exact ⟨dC HR.out, hbel⟩
theorem comparePre_go (a b : List UInt8) (w : World) (ha : a.length ≤ 1000000) (hb : b.length ≤ 1000000) (na : a ≠ []) (nb : b ≠ []) :
    Calls Tryz.prog 194 #[.string (mkS a), .string (mkS b)] w fun e w' => e = .returned (.int .i64 (fD 4 (lst a).1 (lst b).1)) ∧ Below w.heap.size w w' := by
  have ea := wC a
  have eb := wC b
  rw [List.isEmpty_eq_false_iff.2 na] at ea
  rw [List.isEmpty_eq_false_iff.2 nb] at eb
  have cA := fun w' => pO a w' (by omega)
  have cB := fun w' => pO b w' (by omega)
  obtain ⟨L, hL⟩ : ∃ L, (lst a).1 = L := ⟨_, rfl⟩
  obtain ⟨M, hM⟩ : ∃ L, (lst b).1 = L := ⟨_, rfl⟩
  rw [hL] at cA
  rw [hM] at cB
  rw [hL, hM]
  have H8 := Lib.hid (tg_len a)
  have H9 := Lib.hid (tg_len b)
  rw [hL] at H8
  rw [hM] at H9
  clear hL hM na nb
  go_enter Tryz.func194, Tryz.ntmps194
  go_wp2_with fail
  refine (cA _).mono ?_
  rintro e w1 ⟨rfl, hb1⟩
  go_wp2_with fail
  refine (cB _).mono ?_
  rintro e w2 ⟨rfl, hb2⟩
  have hz1 := hb1.size
  have hz2 := hb2.size
  rw [zY] at hz2
  have hbw : Below w.heap.size w w2 := (hb1.alloc hb1.size _).trans (hb2.mono (by rw [zY]; omega))
  have hx := (hb2.block w1.heap.size (by rw [zY]; omega)).trans (kN w1 _)
  have hy := kN w2 (.cells #[.string (mkS (tg M 0)), .string (mkS (tg M 1)), .string (mkS (tg M 2)), .string (mkS (tg M 3))] 193)
  have hx2 := (xT w2 (.cells #[.string (mkS (tg M 0)), .string (mkS (tg M 1)), .string (mkS (tg M 2)), .string (mkS (tg M 3))] 193) (by omega : w1.heap.size < w2.heap.size)).trans hx
  have cF := cfunc_any w1.heap.size w2.heap.size L M ((w2.alloc (.cells #[.string (mkS (tg M 0)), .string (mkS (tg M 1)), .string (mkS (tg M 2)), .string (mkS (tg M 3))] 193)).drew) hx2 hy H8.out H9.out
  clear hx hy hx2
  go_wp2_with fail
  go_region_with (refine cF.mono ?_; rintro e w3 ⟨rfl, hb3⟩)
  all_goals
    go_wp2
    go_ret
    exact ⟨rfl, (nU (hbw.alloc (by omega) _)).trans (hb3.mono (by show _ ≤ (w2.alloc _).heap.size; rw [zY]; omega))⟩
theorem comparePre_any (a b : List UInt8) (w : World) (ha : a.length ≤ 1000000) (hb : b.length ≤ 1000000) :
    Calls Tryz.prog 194 #[.string (mkS a), .string (mkS b)] w fun e w' => e = .returned (.int .i64 (cpre a b)) ∧ Below w.heap.size w w' := by
  by_cases h1 : a = []
  · have ea := wC a
    rw [List.isEmpty_iff.2 h1] at ea
    have HC : Hid (cpre a b = 1) := by show _ = _; unfold cpre; rw [if_pos h1]
    clear h1
    go_enter Tryz.func194, Tryz.ntmps194
    go_wp2
    go_ret
    exact ⟨dC HC.out.symm, Below.refl _ _⟩
  · by_cases h2 : b = []
    · have ea := wC a
      rw [List.isEmpty_eq_false_iff.2 h1] at ea
      have eb := wC b
      rw [List.isEmpty_iff.2 h2] at eb
      have HC : Hid (cpre a b = -1) := by show _ = _; unfold cpre; rw [if_neg h1, if_pos h2]
      clear h1 h2
      go_enter Tryz.func194, Tryz.ntmps194
      go_wp2
      go_ret
      exact ⟨dC HC.out.symm, Below.refl _ _⟩
    · have hc : cpre a b = fD 4 (lst a).1 (lst b).1 := by unfold cpre; rw [if_neg h1, if_neg h2]
      rw [hc]
      exact comparePre_go a b w ha hb h1 h2
def or3 (x y z : Int) : Int := if x ≠ 0 then x else if y ≠ 0 then y else z
def nthI (x y z : Int) (k : Nat) : Int := if k = 0 then x else if k = 1 then y else z
theorem or_any (B : Nat) (x y z : Int) (w : World) (h : w.heap[B]? = some (.cells #[.int .i64 x, .int .i64 y, .int .i64 z] 3)) :
    Calls Tryz.prog 192 #[.slice (some ⟨B, 0, none⟩) 3 3] w fun e w' => e = .returned (.int .i64 (or3 x y z)) ∧ w = w' := by
  obtain ⟨c0, _⟩ := xE (j := 0) h (by simp)
  obtain ⟨c1, _⟩ := xE (j := 1) h (by simp)
  obtain ⟨c2, _⟩ := xE (j := 2) h (by simp)
  simp only [List.getElem_toArray, List.getElem_cons_succ, List.getElem_cons_zero] at c0 c1 c2
  have HC : Hid (∀ k, k < 3 → w.cell? ⟨B, k, none⟩ = some (.int .i64 (nthI x y z k))) := by
    intro k hk
    match k, hk with
    | 0, _ => exact c0
    | 1, _ => exact c1
    | 2, _ => exact c2
  clear c0 c1 c2 h
  go_enter Tryz.func192, Tryz.ntmps192
  go_wp2
  go_loop [8] (fun v => ∃ k : Nat, k ≤ 3 ∧ v = .int .i64 k ∧ Hid (∀ j, j < k → nthI x y z j = 0)) (fun v => 3 - (intOf v).toNat)
  case atStart => exact ⟨0, by omega, rfl, fun j hj => by omega⟩
  case round =>
    obtain ⟨k, hk, rfl, HR⟩ := hrel
    by_cases hk3 : k < 3
    · have hki : (k : Int) < 3 := by omega
      have hc := HC.out k hk3
      obtain ⟨o, ho⟩ : ∃ o, nthI x y z k = o := ⟨_, rfl⟩
      rw [ho] at hc
      by_cases h0 : o = 0
      · subst h0
        have HO := Lib.hid ho
        clear ho
        go_wp2
        go_round
        case rel => exact ⟨k + 1, by omega, by go_num, fun j hj => by
          by_cases hjk : j < k
          · exact HR.out j hjk
          · obtain rfl : j = k := by omega
            exact HO.out⟩
        case measure => simp [intOf]; omega
      · have h0b : (o != 0) = true := by simpa using h0
        have HO := Lib.hid ho
        clear ho
        go_wp2
        go_ret
        refine ⟨dC ?_, rfl⟩
        have h1 := HR.out
        have h2 := HO.out
        unfold or3
        match k, hk3 with
        | 0, _ => rw [show x = o from h2, if_pos h0]
        | 1, _ => rw [show x = 0 from h1 0 (by omega), show y = o from h2, if_neg (by simp), if_pos h0]
        | 2, _ => rw [show x = 0 from h1 0 (by omega), show y = 0 from h1 1 (by omega), show z = o from h2]; simp
    · have hki : ¬ (k : Int) < 3 := by omega
      obtain rfl : k = 3 := by omega
      go_wp2
      go_ret
      refine ⟨dC ?_, rfl⟩
      have h1 := HR.out
      unfold or3
      rw [show x = 0 from h1 0 (by omega), show y = 0 from h1 1 (by omega), show z = 0 from h1 2 (by omega)]; simp
end
section
theorem bA {w w' w2 : World} {A B : Nat} {v1 v2 v3 v4 v5 u1 u2 u3 u4 u5 : Value} (hS : (w'.cell? ⟨A, 0, none⟩ = some v1 ∧ w'.cell? ⟨A, 1, none⟩ = some v2 ∧ w'.cell? ⟨A, 2, none⟩ = some v3 ∧ w'.cell? ⟨A, 3, none⟩ = some v4 ∧ w'.cell? ⟨A, 4, none⟩ = some v5) ∧ (w'.cell? ⟨B, 0, none⟩ = some u1 ∧ w'.cell? ⟨B, 1, none⟩ = some u2 ∧ w'.cell? ⟨B, 2, none⟩ = some u3 ∧ w'.cell? ⟨B, 3, none⟩ = some u4 ∧ w'.cell? ⟨B, 4, none⟩ = some u5) ∧ Below w.heap.size w w' ∧ A < w'.heap.size ∧ B < w'.heap.size) (hb : Below w'.heap.size w' w2) :
    (w2.cell? ⟨A, 0, none⟩ = some v1 ∧ w2.cell? ⟨A, 1, none⟩ = some v2 ∧ w2.cell? ⟨A, 2, none⟩ = some v3 ∧ w2.cell? ⟨A, 3, none⟩ = some v4 ∧ w2.cell? ⟨A, 4, none⟩ = some v5) ∧ (w2.cell? ⟨B, 0, none⟩ = some u1 ∧ w2.cell? ⟨B, 1, none⟩ = some u2 ∧ w2.cell? ⟨B, 2, none⟩ = some u3 ∧ w2.cell? ⟨B, 3, none⟩ = some u4 ∧ w2.cell? ⟨B, 4, none⟩ = some u5) ∧ Below w.heap.size w w2 ∧ A < w2.heap.size ∧ B < w2.heap.size := by
  obtain ⟨⟨a0, a1, a2, a3, a4⟩, ⟨b0, b1, b2, b3, b4⟩, h, hA, hB⟩ := hS
  have k : ∀ C i v, C < w'.heap.size → w'.cell? ⟨C, i, none⟩ = some v → w2.cell? ⟨C, i, none⟩ = some v := fun C i v hC e => (hb.cell (p := ⟨C, i, none⟩) hC).trans e
  exact ⟨⟨k _ _ _ hA a0, k _ _ _ hA a1, k _ _ _ hA a2, k _ _ _ hA a3, k _ _ _ hA a4⟩, ⟨k _ _ _ hB b0, k _ _ _ hB b1, k _ _ _ hB b2, k _ _ _ hB b3, k _ _ _ hB b4⟩, h.trans (hb.mono h.size), Nat.lt_of_lt_of_le hA hb.size, Nat.lt_of_lt_of_le hB hb.size⟩
theorem heap_new_drew (w : World) (o : Obj) : (w.alloc o).drew.heap[w.heap.size]? = some o := kN w o
theorem fU (w : World) (v1 v2 v3 v4 v5 u1 u2 u3 u4 u5 : Value) (T : TypeId) :
    (((w.alloc (.cells #[v1, v2, v3, v4, v5] T)).alloc (.cells #[u1, u2, u3, u4, u5] T)).drew.cell? ⟨w.heap.size, 0, none⟩ = some v1 ∧ ((w.alloc (.cells #[v1, v2, v3, v4, v5] T)).alloc (.cells #[u1, u2, u3, u4, u5] T)).drew.cell? ⟨w.heap.size, 1, none⟩ = some v2 ∧ ((w.alloc (.cells #[v1, v2, v3, v4, v5] T)).alloc (.cells #[u1, u2, u3, u4, u5] T)).drew.cell? ⟨w.heap.size, 2, none⟩ = some v3 ∧ ((w.alloc (.cells #[v1, v2, v3, v4, v5] T)).alloc (.cells #[u1, u2, u3, u4, u5] T)).drew.cell? ⟨w.heap.size, 3, none⟩ = some v4 ∧ ((w.alloc (.cells #[v1, v2, v3, v4, v5] T)).alloc (.cells #[u1, u2, u3, u4, u5] T)).drew.cell? ⟨w.heap.size, 4, none⟩ = some v5) ∧ (((w.alloc (.cells #[v1, v2, v3, v4, v5] T)).alloc (.cells #[u1, u2, u3, u4, u5] T)).drew.cell? ⟨(w.heap.size + 1), 0, none⟩ = some u1 ∧ ((w.alloc (.cells #[v1, v2, v3, v4, v5] T)).alloc (.cells #[u1, u2, u3, u4, u5] T)).drew.cell? ⟨(w.heap.size + 1), 1, none⟩ = some u2 ∧ ((w.alloc (.cells #[v1, v2, v3, v4, v5] T)).alloc (.cells #[u1, u2, u3, u4, u5] T)).drew.cell? ⟨(w.heap.size + 1), 2, none⟩ = some u3 ∧ ((w.alloc (.cells #[v1, v2, v3, v4, v5] T)).alloc (.cells #[u1, u2, u3, u4, u5] T)).drew.cell? ⟨(w.heap.size + 1), 3, none⟩ = some u4 ∧ ((w.alloc (.cells #[v1, v2, v3, v4, v5] T)).alloc (.cells #[u1, u2, u3, u4, u5] T)).drew.cell? ⟨(w.heap.size + 1), 4, none⟩ = some u5) ∧ Below w.heap.size w ((w.alloc (.cells #[v1, v2, v3, v4, v5] T)).alloc (.cells #[u1, u2, u3, u4, u5] T)).drew ∧ w.heap.size < ((w.alloc (.cells #[v1, v2, v3, v4, v5] T)).alloc (.cells #[u1, u2, u3, u4, u5] T)).drew.heap.size ∧ (w.heap.size + 1) < ((w.alloc (.cells #[v1, v2, v3, v4, v5] T)).alloc (.cells #[u1, u2, u3, u4, u5] T)).drew.heap.size := by
  have h0 : ((w.alloc (.cells #[v1, v2, v3, v4, v5] T)).alloc (.cells #[u1, u2, u3, u4, u5] T)).drew.heap[w.heap.size]? = some (.cells #[v1, v2, v3, v4, v5] T) := (xT _ _ (by rw [zY]; omega)).trans (kN w _)
  have h1 : ((w.alloc (.cells #[v1, v2, v3, v4, v5] T)).alloc (.cells #[u1, u2, u3, u4, u5] T)).drew.heap[w.heap.size + 1]? = some (.cells #[u1, u2, u3, u4, u5] T) := dK _ _ _ (by rw [zY])
  have k0 : ∀ i v, (#[v1, v2, v3, v4, v5] : Array Value)[i]? = some v → ((w.alloc (.cells #[v1, v2, v3, v4, v5] T)).alloc (.cells #[u1, u2, u3, u4, u5] T)).drew.cell? ⟨w.heap.size, i, none⟩ = some v := fun i v e => (cell_of_row _ _ i _ _ _ h0).trans e
  have k1 : ∀ i v, (#[u1, u2, u3, u4, u5] : Array Value)[i]? = some v → ((w.alloc (.cells #[v1, v2, v3, v4, v5] T)).alloc (.cells #[u1, u2, u3, u4, u5] T)).drew.cell? ⟨w.heap.size + 1, i, none⟩ = some v := fun i v e => (cell_of_row _ _ i _ _ _ h1).trans e
  have hs : ((w.alloc (.cells #[v1, v2, v3, v4, v5] T)).alloc (.cells #[u1, u2, u3, u4, u5] T)).drew.heap.size = w.heap.size + 2 := by show ((w.alloc _).alloc _).heap.size = _; rw [zY, zY]
  exact ⟨⟨k0 0 _ rfl, k0 1 _ rfl, k0 2 _ rfl, k0 3 _ rfl, k0 4 _ rfl⟩, ⟨k1 0 _ rfl, k1 1 _ rfl, k1 2 _ rfl, k1 3 _ rfl, k1 4 _ rfl⟩, nU (((Below.refl _ _).alloc (Nat.le_refl _) _).alloc (by rw [zY]; omega) _), by omega, by omega⟩
theorem compare_same (a1 a2 a3 : Int) (p q q' : List UInt8) (w : World) (h1 : p.length ≤ 1000000) (h2 : q.length ≤ 1000000) (h4 : q'.length ≤ 1000000) (hm : (Ver.mk a1 a2 a3 p q).may = true) (hn : (Ver.mk a1 a2 a3 p q').may = true) :
    Calls Tryz.prog 161 #[yK ⟨a1, a2, a3, p, q⟩, yK ⟨a1, a2, a3, p, q'⟩] w fun e w' => e = .returned (.int .i64 0) ∧ Below w.heap.size w w' := by
  have cM := fun w' => qN (Ver.mk a1 a2 a3 p q) w' (by show p.length < _; omega) (by show q.length < _; omega)
  have cN := fun w' => qN (Ver.mk a1 a2 a3 p q') w' (by show p.length < _; omega) (by show q'.length < _; omega)
  have cO := fun w' => pX (Ver.mk a1 a2 a3 p q) w' (by show p.length ≤ _; omega)
  have cP := fun w' => pX (Ver.mk a1 a2 a3 p q') w' (by show p.length ≤ _; omega)
  rw [hm] at cM
  rw [hn] at cN
  unfold yK at cM cN cO cP ⊢
  dsimp only at cM cN cO cP ⊢
  clear hm hn
  go_enter Tryz.func161, Tryz.ntmps161
  go_wp2_with fail
  go_region_held3 (fun w' => (w'.cell? ⟨w.heap.size, 0, none⟩ = some (.int .i64 a1) ∧ w'.cell? ⟨w.heap.size, 1, none⟩ = some (.int .i64 a2) ∧ w'.cell? ⟨w.heap.size, 2, none⟩ = some (.int .i64 a3) ∧ w'.cell? ⟨w.heap.size, 3, none⟩ = some (.string (mkS p)) ∧ w'.cell? ⟨w.heap.size, 4, none⟩ = some (.string (mkS q))) ∧ (w'.cell? ⟨(w.heap.size + 1), 0, none⟩ = some (.int .i64 a1) ∧ w'.cell? ⟨(w.heap.size + 1), 1, none⟩ = some (.int .i64 a2) ∧ w'.cell? ⟨(w.heap.size + 1), 2, none⟩ = some (.int .i64 a3) ∧ w'.cell? ⟨(w.heap.size + 1), 3, none⟩ = some (.string (mkS p)) ∧ w'.cell? ⟨(w.heap.size + 1), 4, none⟩ = some (.string (mkS q'))) ∧ Below w.heap.size w w' ∧ w.heap.size < w'.heap.size ∧ (w.heap.size + 1) < w'.heap.size)
    ((first | exact fU w _ _ _ _ _ _ _ _ _ _ _ | exact bA ‹_› ‹_›))
    (first
      | (go_at_call 147; with_reducible refine (cM _).mono ?_; rintro e w1 ⟨rfl, hb1⟩)
      | (go_at_call 147; with_reducible refine (cN _).mono ?_; rintro e w2 ⟨rfl, hb2⟩)
      | (go_at_call 191; with_reducible refine (cO _).mono ?_; rintro e w3 ⟨rfl, hb3⟩)
      | (go_at_call 191; with_reducible refine (cP _).mono ?_; rintro e w4 ⟨rfl, hb4⟩))
  all_goals
    go_wp2
    go_ret
    rename_i hH
    exact ⟨rfl, hH.2.2.1⟩
theorem compare_diff (a1 a2 a3 b1 b2 b3 : Int) (p q p' q' : List UInt8) (w : World) (h1 : p.length ≤ 1000000) (h2 : q.length ≤ 1000000) (h3 : p'.length ≤ 1000000) (h4 : q'.length ≤ 1000000) (hm : (Ver.mk a1 a2 a3 p q).may = true) (hn : (Ver.mk b1 b2 b3 p' q').may = true)
    (hd : (a1 == b1) = false ∨ ((a1 == b1) = true ∧ (a2 == b2) = false) ∨ ((a1 == b1) = true ∧ (a2 == b2) = true ∧ (a3 == b3) = false) ∨ ((a1 == b1) = true ∧ (a2 == b2) = true ∧ (a3 == b3) = true ∧ ((mkS p).toList == (mkS p').toList) = false))
    (n : Int) (hn2 : or3 (Lib.compareInt a1 b1) (Lib.compareInt a2 b2) (Lib.compareInt a3 b3) = n) :
    Calls Tryz.prog 161 #[yK ⟨a1, a2, a3, p, q⟩, yK ⟨b1, b2, b3, p', q'⟩] w fun e w' => e = .returned (.int .i64 (if n ≠ 0 then n else cpre p p')) ∧ Below w.heap.size w w' := by
  have cM := fun w' => qN (Ver.mk a1 a2 a3 p q) w' (by show p.length < _; omega) (by show q.length < _; omega)
  have cN := fun w' => qN (Ver.mk b1 b2 b3 p' q') w' (by show p'.length < _; omega) (by show q'.length < _; omega)
  have cO := fun w' => pX (Ver.mk a1 a2 a3 p q) w' (by show p.length ≤ _; omega)
  have cP := fun w' => pX (Ver.mk b1 b2 b3 p' q') w' (by show p'.length ≤ _; omega)
  have i1 := fun w' => Tryz.cmp_Compare_int a1 b1 w'
  have i2 := fun w' => Tryz.cmp_Compare_int a2 b2 w'
  have i3 := fun w' => Tryz.cmp_Compare_int a3 b3 w'
  obtain ⟨o1, ho1⟩ : ∃ o, Lib.compareInt a1 b1 = o := ⟨_, rfl⟩
  obtain ⟨o2, ho2⟩ : ∃ o, Lib.compareInt a2 b2 = o := ⟨_, rfl⟩
  obtain ⟨o3, ho3⟩ : ∃ o, Lib.compareInt a3 b3 = o := ⟨_, rfl⟩
  rw [ho1] at i1 hn2
  rw [ho2] at i2 hn2
  rw [ho3] at i3 hn2
  have cR := fun B w' h => or_any B o1 o2 o3 w' h
  rw [hn2] at cR
  rw [hm] at cM
  rw [hn] at cN
  unfold yK at cM cN cO cP ⊢
  dsimp only at cM cN cO cP ⊢
  clear hm hn ho1 ho2 ho3 hn2
  have cQ := fun w' => comparePre_any p p' w' h1 h3
  obtain ⟨x, hx⟩ : ∃ x, cpre p p' = x := ⟨_, rfl⟩
  rw [hx] at cQ ⊢
  clear hx
  rcases hd with d1 | ⟨d1, d2⟩ | ⟨d1, d2, d3⟩ | ⟨d1, d2, d3, d4⟩
  all_goals
    go_enter Tryz.func161, Tryz.ntmps161
    go_wp2_with fail
    go_region_held3 (fun w' => (w'.cell? ⟨w.heap.size, 0, none⟩ = some (.int .i64 a1) ∧ w'.cell? ⟨w.heap.size, 1, none⟩ = some (.int .i64 a2) ∧ w'.cell? ⟨w.heap.size, 2, none⟩ = some (.int .i64 a3) ∧ w'.cell? ⟨w.heap.size, 3, none⟩ = some (.string (mkS p)) ∧ w'.cell? ⟨w.heap.size, 4, none⟩ = some (.string (mkS q))) ∧ (w'.cell? ⟨(w.heap.size + 1), 0, none⟩ = some (.int .i64 b1) ∧ w'.cell? ⟨(w.heap.size + 1), 1, none⟩ = some (.int .i64 b2) ∧ w'.cell? ⟨(w.heap.size + 1), 2, none⟩ = some (.int .i64 b3) ∧ w'.cell? ⟨(w.heap.size + 1), 3, none⟩ = some (.string (mkS p')) ∧ w'.cell? ⟨(w.heap.size + 1), 4, none⟩ = some (.string (mkS q'))) ∧ Below w.heap.size w w' ∧ w.heap.size < w'.heap.size ∧ (w.heap.size + 1) < w'.heap.size)
      ((first | exact fU w _ _ _ _ _ _ _ _ _ _ _ | exact bA ‹_› ‹_›))
      (first
        | (go_at_call 147; with_reducible refine (cM _).mono ?_; rintro e w1 ⟨rfl, hb1⟩)
        | (go_at_call 147; with_reducible refine (cN _).mono ?_; rintro e w2 ⟨rfl, hb2⟩)
        | (go_at_call 191; with_reducible refine (cO _).mono ?_; rintro e w3 ⟨rfl, hb3⟩)
        | (go_at_call 191; with_reducible refine (cP _).mono ?_; rintro e w4 ⟨rfl, hb4⟩))
    all_goals
      rename_i hH
      go_wp2_with fail
      go_region_held3 (fun w' => (w'.cell? ⟨w.heap.size, 0, none⟩ = some (.int .i64 a1) ∧ w'.cell? ⟨w.heap.size, 1, none⟩ = some (.int .i64 a2) ∧ w'.cell? ⟨w.heap.size, 2, none⟩ = some (.int .i64 a3) ∧ w'.cell? ⟨w.heap.size, 3, none⟩ = some (.string (mkS p)) ∧ w'.cell? ⟨w.heap.size, 4, none⟩ = some (.string (mkS q))) ∧ (w'.cell? ⟨(w.heap.size + 1), 0, none⟩ = some (.int .i64 b1) ∧ w'.cell? ⟨(w.heap.size + 1), 1, none⟩ = some (.int .i64 b2) ∧ w'.cell? ⟨(w.heap.size + 1), 2, none⟩ = some (.int .i64 b3) ∧ w'.cell? ⟨(w.heap.size + 1), 3, none⟩ = some (.string (mkS p')) ∧ w'.cell? ⟨(w.heap.size + 1), 4, none⟩ = some (.string (mkS q'))) ∧ Below w.heap.size w w' ∧ w.heap.size < w'.heap.size ∧ (w.heap.size + 1) < w'.heap.size)
        ((first | exact hH | exact bA hH (nU (Below.refl _ _)) | assumption | exact bA ‹_› ((Below.refl _ _).alloc (Nat.le_refl _) _)))
        (first
          | (go_at_call 193; with_reducible refine (i1 _).mono ?_; rintro e w5 ⟨rfl, rfl⟩)
          | (go_at_call 193; with_reducible refine (i2 _).mono ?_; rintro e w6 ⟨rfl, rfl⟩)
          | (go_at_call 193; with_reducible refine (i3 _).mono ?_; rintro e w7 ⟨rfl, rfl⟩)
          | (go_at_call 192; refine (cR _ _ (heap_new_drew _ _)).mono ?_; rintro e w8 ⟨rfl, rfl⟩))
      all_goals
        rename_i hK
        obtain ⟨⟨_, _, _, k4, _⟩, ⟨_, _, _, m4, _⟩, hbk, _, _⟩ := hK
        by_cases h0 : n = 0
        · subst h0
          go_wp2_with (go_at_call 194; refine (cQ _).mono ?_; rintro e w9 ⟨rfl, hb9⟩)
          go_ret
          exact ⟨rfl, hbk.trans (hb9.mono hbk.size)⟩
        · have h0b : (n == 0) = false := by simpa using h0
          go_wp2
          go_ret
          exact ⟨rfl, hbk⟩
theorem compare_bad (v u : Ver) (w : World) (h1 : v.pre.length ≤ 1000000) (h2 : v.build.length ≤ 1000000) (h3 : u.pre.length ≤ 1000000) (h4 : u.build.length ≤ 1000000) (hm : v.may = false ∨ (v.may = true ∧ u.may = false)) :
    Calls Tryz.prog 161 #[yK v, yK u] w fun e w' => e = .returned (.int .i64 0) ∧ Below w.heap.size w w' := by
  have cM := fun w' => qN v w' (by omega) (by omega)
  have cN := fun w' => qN u w' (by omega) (by omega)
  obtain ⟨a1, a2, a3, p, q⟩ := v
  obtain ⟨b1, b2, b3, p', q'⟩ := u
  unfold yK at cM cN ⊢
  dsimp only at cM cN ⊢
  rcases hm with hm | ⟨hm, hn⟩
  · rw [hm] at cM
    clear hm
    go_enter Tryz.func161, Tryz.ntmps161
    go_wp2_with fail
    go_region_with (go_at_call 147; with_reducible refine (cM _).mono ?_; rintro e w1 ⟨rfl, hb1⟩)
    all_goals
      go_wp2
      go_ret
      exact ⟨rfl, (bA (fU w _ _ _ _ _ _ _ _ _ _ _) hb1).2.2.1⟩
  · rw [hm] at cM
    rw [hn] at cN
    clear hm hn
    go_enter Tryz.func161, Tryz.ntmps161
    go_wp2_with fail
    go_region_with (first
        | (go_at_call 147; with_reducible refine (cM _).mono ?_; rintro e w1 ⟨rfl, hb1⟩; obtain ⟨⟨k1, k2, k3, k4, k5⟩, ⟨m1, m2, m3, m4, m5⟩, hbk, _, _⟩ := bA (fU w _ _ _ _ _ _ _ _ _ _ _) hb1)
        | (go_at_call 147; with_reducible refine (cN _).mono ?_; rintro e w2 ⟨rfl, hb2⟩))
    all_goals
      go_wp2
      go_ret
      exact ⟨rfl, hbk.trans (hb2.mono hbk.size)⟩
theorem or3_cmpN (v u : Ver) : or3 (Lib.compareInt v.maj u.maj) (Lib.compareInt v.min u.min) (Lib.compareInt v.pat u.pat) = dP v u := rfl
theorem vcompare_any (v u : Ver) (w : World) (h1 : v.pre.length ≤ 1000000) (h2 : v.build.length ≤ 1000000) (h3 : u.pre.length ≤ 1000000) (h4 : u.build.length ≤ 1000000) :
    Calls Tryz.prog 161 #[yK v, yK u] w fun e w' => e = .returned (.int .i64 (gW v u)) ∧ Below w.heap.size w w' := by
  cases hm : v.may with
  | false => rw [pY (.inl hm)]; exact compare_bad v u w h1 h2 h3 h4 (.inl hm)
  | true =>
    cases hn : u.may with
    | false => rw [pY (.inr hn)]; exact compare_bad v u w h1 h2 h3 h4 (.inr ⟨hm, hn⟩)
    | true =>
      by_cases hc : xY v = xY u
      · rw [cmpR_core hc]
        obtain ⟨a1, a2, a3, p, q⟩ := v
        obtain ⟨b1, b2, b3, p', q'⟩ := u
        unfold xY at hc
        simp only [Ver.mk.injEq, and_true] at hc
        obtain ⟨rfl, rfl, rfl, rfl⟩ := hc
        exact compare_same a1 a2 a3 p q q' w h1 h2 h4 hm hn
      · rw [cmpR_go hm hn hc]
        obtain ⟨a1, a2, a3, p, q⟩ := v
        obtain ⟨b1, b2, b3, p', q'⟩ := u
        refine compare_diff a1 a2 a3 b1 b2 b3 p q p' q' w h1 h2 h3 h4 hm hn ?_ _ (or3_cmpN ⟨a1, a2, a3, p, q⟩ ⟨b1, b2, b3, p', q'⟩)
        by_cases g1 : a1 = b1
        · by_cases g2 : a2 = b2
          · by_cases g3 : a3 = b3
            · have g4 : p ≠ p' := fun e => hc (by unfold xY; rw [g1, g2, g3, e])
              exact .inr (.inr (.inr ⟨by simpa using g1, by simpa using g2, by simpa using g3, mkS_ne g4⟩))
            · exact .inr (.inr (.inl ⟨by simpa using g1, by simpa using g2, by simpa using g3⟩))
          · exact .inr (.inl ⟨by simpa using g1, by simpa using g2⟩)
        · exact .inl (by simpa using g1)
end
section
def tagsB (s : List UInt8) (b : Bool) : Bool := s.isEmpty || (decide ((pcs s).length ≤ 4) && (pcs s).all fun t => q9 t && !(b && qR t && !gA t))
def tagF (b : Bool) (t : List UInt8) : Bool := q9 t && !(b && qR t && !gA t)
end
section
end
section
def Cu.short (c : Cu) : Prop := c.v.pre.length ≤ 1000000 ∧ c.v.build.length ≤ 1000000
def Ver.short (v : Ver) : Prop := v.pre.length ≤ 1000000 ∧ v.build.length ≤ 1000000
def Sp.short (s : Sp) : Prop := s.lo.short ∧ s.hi.short
theorem nK {c : Cu} (h : c.e = 0) : c.may = (c.v.may && c.v.build.isEmpty) := by unfold Cu.may; rw [if_pos h]
theorem vI {c : Cu} (h : c.e = -1 ∨ c.e = 1) : c.may = decide (c = ⟨c.e, Ver.zero, false⟩) := by
  unfold Cu.may
  rw [if_neg (by omega), decide_eq_true h]
  obtain ⟨e, v, a⟩ := c
  simp only [Cu.mk.injEq, Bool.true_and, true_and, Bool.decide_and]
  cases a <;> simp
theorem nJ {c : Cu} (h0 : ¬ c.e = 0) (h : ¬ (c.e = -1 ∨ c.e = 1)) : c.may = false := by
  unfold Cu.may; rw [if_neg h0, decide_eq_false h]; rfl
theorem less_any (a b : Cu) (W : World) (ha : a.short) (hb : b.short) : Calls Tryz.prog 113 #[zC a, zC b] W fun e w' => e = .returned (.bool (gX a b)) ∧ Below W.heap.size W w' := by
  refine zR (n := 31) Tryz.func113 rfl (by kernel_rfl) (by kernel_rfl) (ZO (Zb (zC a) (fun b1 => Zb (zC b) (fun b2 => Zv (.bool false) (ZN (z6 (ZO (Zv (.pointer (some ⟨b1, 0, none⟩)) ?_))))))))
  refine Zl 1 ⟨b1, (zC a).cells, 72⟩ (off := 0) (.int .i64 a.e) (Zv (.pointer (some ⟨b2, 0, none⟩)) (Zl 0 ⟨b2, (zC b).cells, 72⟩ (off := 0) (.int .i64 b.e) ?_))
  by_cases h1 : (a.e : Int) = b.e
  · refine d9 (p := (a.e : Int) = b.e) true (by kernel_rfl) (fun _ => by kernel_rfl) (decide_eq_true (h1)) ?_
    refine ZX (ZB (z6 (ZO (Zv (.pointer (some ⟨b1, 1, none⟩)) (Zl 1 ⟨b1, (zC a).cells, 72⟩ (off := 1) (.agg #[.int .i64 a.v.maj, .int .i64 a.v.min, .int .i64 a.v.pat, .string (mkS a.v.pre), .string (mkS a.v.build)]) (Zv (.pointer (some ⟨b2, 1, none⟩)) (Zl 0 ⟨b2, (zC b).cells, 72⟩ (off := 1) (.agg #[.int .i64 b.v.maj, .int .i64 b.v.min, .int .i64 b.v.pat, .string (mkS b.v.pre), .string (mkS b.v.build)]) ?_)))))))
    refine Zc (k := 161) (args := #[.agg #[.int .i64 a.v.maj, .int .i64 a.v.min, .int .i64 a.v.pat, .string (mkS a.v.pre), .string (mkS a.v.build)], .agg #[.int .i64 b.v.maj, .int .i64 b.v.min, .int .i64 b.v.pat, .string (mkS b.v.pre), .string (mkS b.v.build)]]) (.int .i64 (gW a.v b.v)) (fun w _ => vcompare_any a.v b.v w ha.1 ha.2 hb.1 hb.2) (ZN (zL (z6 (z7 ?_))))
    by_cases h2 : (gW a.v b.v : Int) = -1
    · refine yS (p := (gW a.v b.v : Int) = -1) true (by kernel_rfl) (fun _ => by kernel_rfl) (decide_eq_true (h2)) ?_
      refine Zv (.bool true) (ZY (ZO (Zv (.bool true) (ZN (zF (zH (zA ?_)))))))
      exact ZF (.bool true) Tryz.results113 (fun w hO => ⟨by rw [show gX a b = true from by unfold gX; simp [h1, h2]], hO.below⟩)
    refine Zd (p := (gW a.v b.v : Int) = -1) false (decide_eq_false (h2)) (Zv (.bool false) (ZX (z6 (z7 ?_))))
    by_cases h3 : (gW a.v b.v : Int) = 1
    · refine yS (p := (gW a.v b.v : Int) = 1) true (by kernel_rfl) (fun _ => by kernel_rfl) (decide_eq_true (h3)) ?_
      refine Zv (.bool true) (ZY (ZO (Zv (.bool false) (ZN (zF (zH (zA ?_)))))))
      exact ZF (.bool false) Tryz.results113 (fun w hO => ⟨by rw [show gX a b = false from by unfold gX; simp [h1, h2, h3]], hO.below⟩)
    refine Zd (p := (gW a.v b.v : Int) = 1) false (decide_eq_false (h3)) (Zv (.bool false) (ZX (xK (zP (zB (ZO (Zv (.pointer (some ⟨b1, 6, none⟩)) (Zl 1 ⟨b1, (zC a).cells, 72⟩ (off := 6) (.bool a.aft) ?_))))))))
    cases h4 : a.aft with
    | true =>
      exact Zv (.bool false) (Zv (.bool false) (Zk (Zk (Zv (.bool false) (Zv (.bool false) (ZN (zF (ZF (.bool false) Tryz.results113 (fun w hO => ⟨by rw [show gX a b = false from by unfold gX; simp [h1, h2, h3, h4]], hO.below⟩)))))))))
    | false =>
      exact Zv (.bool true) (Zv (.bool true) (Zv (.pointer (some ⟨b2, 6, none⟩)) (Zl 0 ⟨b2, (zC b).cells, 72⟩ (off := 6) (.bool b.aft) (Zv (.bool b.aft) (Zv (.bool b.aft) (ZN (zF (ZF (.bool b.aft) Tryz.results113 (fun w hO => ⟨by rw [show gX a b = b.aft from by unfold gX; simp [h1, h2, h3, h4]], hO.below⟩)))))))))
  refine Zn (p := (a.e : Int) = b.e) false (decide_eq_false (h1)) (ZY (ZO (Zv (.pointer (some ⟨b1, 0, none⟩)) (Zl 1 ⟨b1, (zC a).cells, 72⟩ (off := 0) (.int .i64 a.e) (Zv (.pointer (some ⟨b2, 0, none⟩)) (Zl 0 ⟨b2, (zC b).cells, 72⟩ (off := 0) (.int .i64 b.e) ?_))))))
  by_cases h5 : (a.e : Int) < b.e
  · refine yS (p := (a.e : Int) < b.e) true (by kernel_rfl) (fun _ => by kernel_rfl) (decide_eq_true (h5)) ?_
    exact Zv (.bool true) (ZN (zF (zA (ZF (.bool true) Tryz.results113 (fun w hO => ⟨by rw [show gX a b = true from by unfold gX; simp [h1, h5]], hO.below⟩)))))
  exact Zd (p := (a.e : Int) < b.e) false (decide_eq_false (h5)) (Zv (.bool false) (ZN (zF (zA (ZF (.bool false) Tryz.results113 (fun w hO => ⟨by rw [show gX a b = false from by unfold gX; simp [h1, h5]], hO.below⟩))))))
theorem mayC_any (c : Cu) (W : World) (hc : c.short) : Calls Tryz.prog 112 #[zC c] W fun e w' => e = .returned (.bool c.may) ∧ Below W.heap.size W w' := by
  refine zR (n := 24) Tryz.func112 rfl (by kernel_rfl) (by kernel_rfl) (ZO (Zb (zC c) (fun b1 => Zv (.bool false) (ZN (z6 (ZO (Zv (.pointer (some ⟨b1, 0, none⟩)) (Zl 0 ⟨b1, (zC c).cells, 72⟩ (off := 0) (.int .i64 c.e) ?_))))))))
  refine ZN (zL (z6 (z6 (z7 ?_))))
  by_cases h1 : (c.e : Int) = -1
  · refine yS (p := (c.e : Int) = -1) true (by kernel_rfl) (fun _ => by kernel_rfl) (decide_eq_true (h1)) ?_
    refine Zv (.bool true) (ZY (ZB (Zt (ZO (Zl 0 ⟨b1, (zC c).cells, 72⟩ (off := 0) (zC c) (Zv (.pointer (some ⟨b1, 0, none⟩)) (Zl 0 ⟨b1, (zC c).cells, 72⟩ (off := 0) (.int .i64 c.e) ?_)))))))
    refine Zv (.agg #[.int .i64 c.e, .int .i64 0, .int .i64 0, .int .i64 0, .string ⟨#[]⟩, .string ⟨#[]⟩, .bool false]) ?_
    by_cases h2 : c = ⟨c.e, Ver.zero, false⟩
    · refine zW (.bool true) (by kernel_rfl) (v8 rfl (by kernel_rfl) (by kernel_rfl) (decide_eq_true (h2))) ?_
      exact Zv (.bool true) (ZN (zF (zH (zA (ZF (.bool true) Tryz.results112 (fun w hO => ⟨by rw [show c.may = true from by first | exact (vI (by omega)).trans (decide_eq_true (by assumption)) | exact (vI (by omega)).trans (decide_eq_false (by assumption)) | (rw [nK (by omega)]; simp [h1, h2]) | (rw [nJ (by omega) (by omega)])], hO.below⟩))))))
    exact zW (.bool false) (by kernel_rfl) (v8 rfl (by kernel_rfl) (by kernel_rfl) (decide_eq_false (h2))) (Zv (.bool false) (ZN (zF (zH (zA (ZF (.bool false) Tryz.results112 (fun w hO => ⟨by rw [show c.may = false from by first | exact (vI (by omega)).trans (decide_eq_true (by assumption)) | exact (vI (by omega)).trans (decide_eq_false (by assumption)) | (rw [nK (by omega)]; simp [h1, h2]) | (rw [nJ (by omega) (by omega)])], hO.below⟩)))))))
  refine Zd (p := (c.e : Int) = -1) false (decide_eq_false (h1)) (Zv (.bool false) (ZX (z7 ?_)))
  by_cases h3 : (c.e : Int) = 1
  · refine yS (p := (c.e : Int) = 1) true (by kernel_rfl) (fun _ => by kernel_rfl) (decide_eq_true (h3)) ?_
    refine Zv (.bool true) (ZY (ZO (Zl 0 ⟨b1, (zC c).cells, 72⟩ (off := 0) (zC c) (Zv (.pointer (some ⟨b1, 0, none⟩)) (Zl 0 ⟨b1, (zC c).cells, 72⟩ (off := 0) (.int .i64 c.e) (Zv (.agg #[.int .i64 c.e, .int .i64 0, .int .i64 0, .int .i64 0, .string ⟨#[]⟩, .string ⟨#[]⟩, .bool false]) ?_))))))
    by_cases h4 : c = ⟨c.e, Ver.zero, false⟩
    · refine zW (.bool true) (by kernel_rfl) (v8 rfl (by kernel_rfl) (by kernel_rfl) (decide_eq_true (h4))) ?_
      exact Zv (.bool true) (ZN (zF (zH (zA (ZF (.bool true) Tryz.results112 (fun w hO => ⟨by rw [show c.may = true from by first | exact (vI (by omega)).trans (decide_eq_true (by assumption)) | exact (vI (by omega)).trans (decide_eq_false (by assumption)) | (rw [nK (by omega)]; simp [h1, h3, h4]) | (rw [nJ (by omega) (by omega)])], hO.below⟩))))))
    exact zW (.bool false) (by kernel_rfl) (v8 rfl (by kernel_rfl) (by kernel_rfl) (decide_eq_false (h4))) (Zv (.bool false) (ZN (zF (zH (zA (ZF (.bool false) Tryz.results112 (fun w hO => ⟨by rw [show c.may = false from by first | exact (vI (by omega)).trans (decide_eq_true (by assumption)) | exact (vI (by omega)).trans (decide_eq_false (by assumption)) | (rw [nK (by omega)]; simp [h1, h3, h4]) | (rw [nJ (by omega) (by omega)])], hO.below⟩)))))))
  refine Zd (p := (c.e : Int) = 1) false (decide_eq_false (h3)) (Zv (.bool false) (ZX (z6 (z7 ?_))))
  by_cases h5 : (c.e : Int) = 0
  · refine yS (p := (c.e : Int) = 0) true (by kernel_rfl) (fun _ => by kernel_rfl) (decide_eq_true (h5)) ?_
    refine Zv (.bool true) (ZY (ZO (Zv (.pointer (some ⟨b1, 1, none⟩)) (Zv (.pointer (some ⟨b1, 5, none⟩)) (Zl 0 ⟨b1, (zC c).cells, 72⟩ (off := 5) (.string (mkS c.v.build)) ?_)))))
    by_cases h6 : (c.v.build : List UInt8) = []
    · refine zW (.bool true) (by kernel_rfl) (yE (a := c.v.build) (b := ([])) rfl (by kernel_rfl) (by kernel_rfl) (decide_eq_true (h6))) ?_
      refine Zv (.bool true) (Zv (.pointer (some ⟨b1, 1, none⟩)) (Zl 0 ⟨b1, (zC c).cells, 72⟩ (off := 1) (.agg #[.int .i64 c.v.maj, .int .i64 c.v.min, .int .i64 c.v.pat, .string (mkS c.v.pre), .string (mkS c.v.build)]) (Zc (k := 147) (args := #[.agg #[.int .i64 c.v.maj, .int .i64 c.v.min, .int .i64 c.v.pat, .string (mkS c.v.pre), .string (mkS c.v.build)]]) (.bool c.v.may) (fun w _ => qN c.v w (Nat.lt_of_le_of_lt hc.1 (by decide)) (Nat.lt_of_le_of_lt hc.2 (by decide))) (Zv (.bool c.v.may) (Zv (.bool c.v.may) (ZN (zF (zH (zA (ZF (.bool c.v.may) Tryz.results112 ?_))))))))))
      exact fun w hO => ⟨by rw [show c.may = c.v.may from by first | exact (vI (by omega)).trans (decide_eq_true (by assumption)) | exact (vI (by omega)).trans (decide_eq_false (by assumption)) | (rw [nK (by omega)]; simp [h1, h3, h5, h6]) | (rw [nJ (by omega) (by omega)])], hO.below⟩
    refine zW (.bool false) (by kernel_rfl) (yE (a := c.v.build) (b := ([])) rfl (by kernel_rfl) (by kernel_rfl) (decide_eq_false (h6))) (Zv (.bool false) (Zk (Zk (Zk (Zv (.bool false) (Zv (.bool false) (ZN (zF (zH (zA ?_))))))))))
    exact ZF (.bool false) Tryz.results112 (fun w hO => ⟨by rw [show c.may = false from by first | exact (vI (by omega)).trans (decide_eq_true (by assumption)) | exact (vI (by omega)).trans (decide_eq_false (by assumption)) | (rw [nK (by omega)]; simp [h1, h3, h5, h6]) | (rw [nJ (by omega) (by omega)])], hO.below⟩)
  refine Zd (p := (c.e : Int) = 0) false (decide_eq_false (h5)) (Zv (.bool false) (ZX (xK (zP (zB (ZO (Zv (.bool false) (zT ?_))))))))
  exact zB (zF (ZF (.bool false) Tryz.results112 (fun w hO => ⟨by rw [show c.may = false from by first | exact (vI (by omega)).trans (decide_eq_true (by assumption)) | exact (vI (by omega)).trans (decide_eq_false (by assumption)) | (rw [nK (by omega)]; simp [h1, h3, h5]) | (rw [nJ (by omega) (by omega)])], hO.below⟩)))
theorem fQ (a b : Cu) (W : World) (ha : a.short) (hb : b.short) : Calls Tryz.prog 66 #[zC a, zC b] W fun e w' => e = .returned (.int .i64 (zN a b)) ∧ Below W.heap.size W w' := by
  refine zR (n := 22) Tryz.func66 rfl (by kernel_rfl) (by kernel_rfl) (ZO (Zb (zC a) (fun b1 => Zb (zC b) (fun b2 => Zv (.int .i64 0) (ZN (z6 (zL (z6 (z7 ?_)))))))))
  refine Zl 1 ⟨b1, (zC a).cells, 72⟩ (off := 0) (zC a) (Zc (k := 112) (args := #[zC a]) (.bool a.may) (fun w _ => mayC_any a w ha) ?_)
  cases h1 : a.may with
  | true =>
    refine Zv (.bool false) (Zv (.bool false) (Zl 0 ⟨b2, (zC b).cells, 72⟩ (off := 0) (zC b) (Zc (k := 112) (args := #[zC b]) (.bool b.may) (fun w _ => mayC_any b w hb) ?_)))
    cases h2 : b.may with
    | true =>
      refine Zv (.bool false) (Zv (.bool false) (Zv (.bool false) (ZX (ZO (Zl 1 ⟨b1, (zC a).cells, 72⟩ (off := 0) (zC a) (Zl 0 ⟨b2, (zC b).cells, 72⟩ (off := 0) (zC b) (Zc (k := 113) (args := #[zC a, zC b]) (.bool (gX a b)) (fun w _ => less_any a b w ha hb) (Zv (.bool (gX a b)) ?_))))))))
      refine zT (zB ?_)
      cases h3 : gX a b with
      | true =>
        exact Zt (ZO (Zv (.int .i64 (-1)) (ZN (zF (zH (zA (ZF (.int .i64 (-1)) Tryz.results66 (fun w hO => ⟨by rw [show zN a b = (-1) from by first | (rw [bR (by assumption) (by assumption)]; simp [h1, h2, h3]) | (exact kP (.inl (by assumption))) | (exact kP (.inr (by assumption)))], hO.below⟩))))))))
      | false =>
        refine Zf (ZO (Zl 0 ⟨b2, (zC b).cells, 72⟩ (off := 0) (zC b) (Zl 1 ⟨b1, (zC a).cells, 72⟩ (off := 0) (zC a) (Zc (k := 113) (args := #[zC b, zC a]) (.bool (gX b a)) (fun w _ => less_any b a w hb ha) (Zv (.bool (gX b a)) (zT (zB ?_)))))))
        cases h4 : gX b a with
        | true =>
          exact Zt (ZO (Zv (.int .i64 1) (ZN (zF (zH (zA (ZF (.int .i64 1) Tryz.results66 (fun w hO => ⟨by rw [show zN a b = 1 from by first | (rw [bR (by assumption) (by assumption)]; simp [h1, h2, h3, h4]) | (exact kP (.inl (by assumption))) | (exact kP (.inr (by assumption)))], hO.below⟩))))))))
        | false =>
          exact Zf (xK (zP (zB (ZO (Zv (.int .i64 0) (ZN (zF (ZF (.int .i64 0) Tryz.results66 (fun w hO => ⟨by rw [show zN a b = 0 from by first | (rw [bR (by assumption) (by assumption)]; simp [h1, h2, h3, h4]) | (exact kP (.inl (by assumption))) | (exact kP (.inr (by assumption)))], hO.below⟩)))))))))
    | false =>
      refine Zv (.bool true) (Zv (.bool true) (Zv (.bool true) (ZY (ZO (Zv (.int .i64 0) (ZN (zF ?_)))))))
      exact zH (zA (ZF (.int .i64 0) Tryz.results66 (fun w hO => ⟨by rw [show zN a b = 0 from by first | (rw [bR (by assumption) (by assumption)]; simp [h1, h2]) | (exact kP (.inl (by assumption))) | (exact kP (.inr (by assumption)))], hO.below⟩)))
  | false =>
    refine Zv (.bool true) (Zv (.bool true) (Zk (Zk (Zk (Zv (.bool true) (Zv (.bool true) (ZY (z6 (z7 ?_)))))))))
    exact Zv (.int .i64 0) (ZN (zF (zH (zA (ZF (.int .i64 0) Tryz.results66 (fun w hO => ⟨by rw [show zN a b = 0 from by first | (rw [bR (by assumption) (by assumption)]; simp [h1]) | (exact kP (.inl (by assumption))) | (exact kP (.inr (by assumption)))], hO.below⟩))))))
theorem wN (s : Sp) (W : World) (hs : s.short) : Calls Tryz.prog 65 #[zM s] W fun e w' => e = .returned (.bool s.may) ∧ Below W.heap.size W w' := by
  refine zR (n := 9) Tryz.func65 rfl (by kernel_rfl) (by kernel_rfl) (ZO (Zb (zM s) (fun b1 => Zv (.bool false) (ZR (Zv (.pointer (some ⟨b1, 0, none⟩)) (Zl 0 ⟨b1, (zM s).cells, 74⟩ (off := 0) (.agg #[.int .i64 s.lo.e, .int .i64 s.lo.v.maj, .int .i64 s.lo.v.min, .int .i64 s.lo.v.pat, .string (mkS s.lo.v.pre), .string (mkS s.lo.v.build), .bool s.lo.aft]) (Zv (.pointer (some ⟨b1, 7, none⟩)) ?_)))))))
  refine Zl 0 ⟨b1, (zM s).cells, 74⟩ (off := 7) (.agg #[.int .i64 s.hi.e, .int .i64 s.hi.v.maj, .int .i64 s.hi.v.min, .int .i64 s.hi.v.pat, .string (mkS s.hi.v.pre), .string (mkS s.hi.v.build), .bool s.hi.aft]) (Zc (k := 66) (args := #[.agg #[.int .i64 s.lo.e, .int .i64 s.lo.v.maj, .int .i64 s.lo.v.min, .int .i64 s.lo.v.pat, .string (mkS s.lo.v.pre), .string (mkS s.lo.v.build), .bool s.lo.aft], .agg #[.int .i64 s.hi.e, .int .i64 s.hi.v.maj, .int .i64 s.hi.v.min, .int .i64 s.hi.v.pat, .string (mkS s.hi.v.pre), .string (mkS s.hi.v.build), .bool s.hi.aft]]) (.int .i64 (zN s.lo s.hi)) (fun w _ => fQ s.lo s.hi w hs.1 hs.2) ?_)
  by_cases h1 : (zN s.lo s.hi : Int) = -1
  · refine yS (p := (zN s.lo s.hi : Int) = -1) true (by kernel_rfl) (fun _ => by kernel_rfl) (decide_eq_true (h1)) ?_
    exact Zv (.bool true) (ZN (zF (ZF (.bool true) Tryz.results65 (fun w hO => ⟨by rw [show s.may = true from by unfold Sp.may; simp [h1]], hO.below⟩))))
  exact Zd (p := (zN s.lo s.hi : Int) = -1) false (decide_eq_false (h1)) (Zv (.bool false) (ZN (zF (ZF (.bool false) Tryz.results65 (fun w hO => ⟨by rw [show s.may = false from by unfold Sp.may; simp [h1]], hO.below⟩)))))
end
section
theorem qD {a b c : Cu} (ha : a.may = true) (hb : b.may = true) (hc : c.may = true) (h1 : zN a b ≤ 0) (h2 : zN b c ≤ 0) : zN a c ≤ 0 := (cut_on ha hb hc h1 h2).1
theorem nP {a b c : Cu} (ha : a.may = true) (hb : b.may = true) (hc : c.may = true) (h1 : zN a b ≤ 0) (h2 : zN b c < 0) : zN a c < 0 := by
  have h := cut_on ha hb hc h1 (by omega)
  rcases Int.lt_or_eq_of_le h.1 with h3 | h3
  · exact h3
  · have := (h.2 h3).2; omega
theorem wG {a b c : Cu} (ha : a.may = true) (hb : b.may = true) (hc : c.may = true) (h1 : zN a b < 0) (h2 : zN b c ≤ 0) : zN a c < 0 := by
  have h := cut_on ha hb hc (by omega) h2
  rcases Int.lt_or_eq_of_le h.1 with h3 | h3
  · exact h3
  · have := (h.2 h3).1; omega
theorem xB {a b c : Cu} (ha : a.may = true) (hb : b.may = true) (hc : c.may = true) (h1 : zN a b < 0) (h2 : zN b c < 0) : zN a c < 0 := nP ha hb hc (by omega) h2
theorem clt_flip {a b : Cu} (h : ¬ zN a b ≤ 0) : zN b a < 0 := by have := xH (a := a) (b := b); omega
theorem vO {a b : Cu} (h : ¬ zN a b < 0) : zN b a ≤ 0 := by have := xH (a := a) (b := b); omega
theorem kO (a : Cu) : zN a a = 0 := by have := xH (a := a) (b := a); omega
theorem clt_not {a b : Cu} (h : zN a b < 0) : ¬ zN b a ≤ 0 := by have := xH (a := a) (b := b); omega
def zJ : List Sp → Bool
  | [] => true
  | [s] => s.may
  | s :: t :: r => s.may && decide (zN s.hi t.lo < 0) && zJ (t :: r)
def g6 (s : Sp) (c : Cu) : Bool := decide (zN s.lo c ≤ 0) && decide (zN c s.hi < 0)
def den (l : List Sp) (c : Cu) : Bool := l.any (g6 · c)
def rowHas (l : List Sp) (v : Ver) : Bool := zJ l && l.any (holdsC · v)
theorem xD {s : Sp} {l : List Sp} (h : zJ (s :: l) = true) : s.may = true := by
  cases l with
  | nil => exact h
  | cons t r => unfold zJ at h; simp only [Bool.and_eq_true] at h; exact h.1.1
theorem kD {s : Sp} {l : List Sp} (h : zJ (s :: l) = true) : zJ l = true := by
  cases l with
  | nil => rfl
  | cons t r => unfold zJ at h; simp only [Bool.and_eq_true] at h; exact h.2
theorem x3 {l : List Sp} (h : zJ l = true) : ∀ s ∈ l, s.may = true := by
  induction l with
  | nil => simp
  | cons s l ih =>
    intro t ht
    rcases List.mem_cons.1 ht with rfl | ht
    · exact xD h
    · exact ih (kD h) t ht
theorem jK {s : Sp} (h : s.may = true) : zN s.lo s.hi < 0 := by unfold Sp.may at h; rw [decide_eq_true_eq] at h; omega
theorem kW {s : Sp} {l : List Sp} (h : zJ (s :: l) = true) : ∀ t ∈ l, zN s.hi t.lo < 0 := by
  induction l generalizing s with
  | nil => simp
  | cons u l ih =>
    intro t ht
    have hu := kD h
    have h1 : zN s.hi u.lo < 0 := by
      unfold zJ at h; simp only [Bool.and_eq_true, decide_eq_true_eq] at h; exact h.1.2
    rcases List.mem_cons.1 ht with rfl | ht'
    · exact h1
    · have h2 := ih hu t ht'
      have ms := zU (xD h)
      have mu := zU (xD hu)
      have mt := zU (x3 (kD hu) t ht')
      exact xB ms.2 mu.1 mt.1 h1 (xB mu.1 mu.2 mt.1 (jK (xD hu)) h2)
theorem wE {l : List Sp} {c : Cu} (h : ∀ t ∈ l, zN c t.lo < 0) : den l c = false := by
  unfold den
  rw [List.any_eq_false]
  intro t ht
  unfold g6
  have := clt_not (h t ht)
  simp [this]
theorem hY : ∀ (l m : List Sp), zJ l = true → zJ m = true → (∀ c : Cu, c.may = true → zN c (zZ 1) < 0 → den l c = den m c) → l = m := by
  have key : ∀ (s : Sp) (l m : List Sp), zJ (s :: l) = true → zJ m = true → (∀ c : Cu, c.may = true → zN c (zZ 1) < 0 → den (s :: l) c = den m c) → ∃ t r, m = t :: r ∧ zN t.lo s.lo ≤ 0 := by
    intro s l m hl hm h
    have ms := zU (xD hl)
    have hd : den (s :: l) s.lo = true := by
      unfold den; rw [List.any_cons]
      have : g6 s s.lo = true := by unfold g6; rw [kO, decide_eq_true (jK (xD hl))]; rfl
      rw [this]; rfl
    rw [h s.lo ms.1 (wG ms.1 ms.2 bS (jK (xD hl)) (le_last ms.2))] at hd
    cases m with
    | nil => cases hd
    | cons t r =>
      refine ⟨t, r, rfl, ?_⟩
      rcases Int.lt_or_le 0 (zN t.lo s.lo) with h2 | h2
      · exfalso
        have hlt : zN s.lo t.lo < 0 := by have := xH (a := t.lo) (b := s.lo); omega
        have mt := zU (xD hm)
        rw [wE (fun u hu => by
          rcases List.mem_cons.1 hu with rfl | hu
          · exact hlt
          · have mu := zU (x3 (kD hm) u hu)
            exact xB ms.1 mt.1 mu.1 hlt (xB mt.1 mt.2 mu.1 (jK (xD hm)) (kW hm u hu)))] at hd
        cases hd
      · exact h2
  intro l
  induction l with
  | nil =>
    intro m _ hm h
    cases m with
    | nil => rfl
    | cons t r =>
      obtain ⟨_, _, e, _⟩ := key t r [] hm rfl (fun c h1 h2 => (h c h1 h2).symm)
      cases e
  | cons s l ih =>
    intro m hl hm h
    obtain ⟨t, r, rfl, h1⟩ := key s l m hl hm h
    obtain ⟨_, _, e, h2⟩ := key t r (s :: l) hm hl (fun c a b => (h c a b).symm)
    cases e
    have ms := zU (xD hl)
    have mt := zU (xD hm)
    have elo : s.lo = t.lo := (cut_eq ms.1 mt.1).1 (by have := xH (a := s.lo) (b := t.lo); omega)
    have part : ∀ (s t : Sp) (l r : List Sp), zJ (s :: l) = true → zJ (t :: r) = true → (∀ c : Cu, c.may = true → zN c (zZ 1) < 0 → den (s :: l) c = den (t :: r) c) → s.lo = t.lo → ¬ zN s.hi t.hi < 0 := by
      intro s t l r hl hm h elo hlt
      have ms := zU (xD hl)
      have mt := zU (xD hm)
      have e := h s.hi ms.2 (wG ms.2 mt.2 bS hlt (le_last mt.2))
      have e1 : den (s :: l) s.hi = false := by
        unfold den; rw [List.any_cons]
        have : g6 s s.hi = false := by unfold g6; rw [kO]; simp
        rw [this, Bool.false_or]
        exact wE (fun u hu => kW hl u hu)
      have e2 : den (t :: r) s.hi = true := by
        unfold den; rw [List.any_cons]
        have : g6 t s.hi = true := by
          unfold g6
          have hs := jK (xD hl)
          rw [← elo, decide_eq_true (by omega), decide_eq_true hlt]; rfl
        rw [this]; rfl
      rw [e1, e2] at e; cases e
    have n1 := part s t l r hl hm h elo
    have n2 := part t s r l hm hl (fun c a b => (h c a b).symm) elo.symm
    have ehi : s.hi = t.hi := (cut_eq ms.2 mt.2).1 (by have := xH (a := s.hi) (b := t.hi); omega)
    have est : s = t := by cases s; cases t; dsimp only at elo ehi; rw [elo, ehi]
    subst est
    rw [ih r (kD hl) (kD hm) (fun c hc hcl => ?_)]
    by_cases hb : zN c s.hi < 0
    · rw [wE (fun u hu => xB hc ms.2 (zU (x3 (kD hl) u hu)).1 hb (kW hl u hu)), wE (fun u hu => xB hc ms.2 (zU (x3 (kD hm) u hu)).1 hb (kW hm u hu))]
    · have := h c hc hcl
      unfold den at this ⊢
      rw [List.any_cons, List.any_cons] at this
      have hf : g6 s c = false := by unfold g6; rw [decide_eq_false hb, Bool.and_false]
      rw [hf, Bool.false_or, Bool.false_or] at this
      exact this
def pS (l : List Sp) (c d : Cu) : List Sp :=
  match l.getLast? with
  | some s => if zN s.hi c = 0 then l.dropLast ++ [⟨s.lo, d⟩] else l ++ [⟨c, d⟩]
  | none => [⟨c, d⟩]
def q7 (p : Cu → Cu → Bool) : List Sp → List Cu → List Sp
  | out, c :: d :: r => q7 p (if p c d then pS out c d else out) (d :: r)
  | out, _ => out
theorem jY {l : List Sp} {t : Sp} (hl : zJ l = true) (ht : t.may = true) (h : ∀ s ∈ l.getLast?, zN s.hi t.lo < 0) : zJ (l ++ [t]) = true := by
  induction l with
  | nil => exact ht
  | cons s l ih =>
    cases l with
    | nil =>
      show zJ [s, t] = true
      unfold zJ
      rw [xD hl, decide_eq_true (h s (by simp)), show zJ [t] = true from ht]; rfl
    | cons u r =>
      have h2 := ih (kD hl) (fun x hx => h x (by simpa using hx))
      show zJ (s :: u :: (r ++ [t])) = true
      unfold zJ
      rw [show u :: (r ++ [t]) = (u :: r) ++ [t] from rfl, h2, xD hl]
      have h3 : zN s.hi u.lo < 0 := kW hl u (by simp)
      rw [decide_eq_true h3]; rfl
theorem row_init {l : List Sp} {s : Sp} (h : zJ (l ++ [s]) = true) : zJ l = true ∧ ∀ x ∈ l.getLast?, zN x.hi s.lo < 0 := by
  induction l with
  | nil => exact ⟨rfl, by simp⟩
  | cons u l ih =>
    obtain ⟨h1, h2⟩ := ih (kD h)
    cases l with
    | nil =>
      refine ⟨xD h, fun x hx => ?_⟩
      obtain rfl : u = x := by simpa using hx
      exact kW h s (by simp)
    | cons v r =>
      refine ⟨?_, fun x hx => h2 x (by simpa using hx)⟩
      unfold zJ
      rw [xD h, decide_eq_true (kW h v (by simp)), h1]; rfl
theorem dN (l m : List Sp) (c : Cu) : den (l ++ m) c = (den l c || den m c) := by unfold den; rw [List.any_append]
theorem last_split {l : List Sp} {s : Sp} (h : l.getLast? = some s) : l = l.dropLast ++ [s] := by
  obtain ⟨l', rfl⟩ := List.getLast?_eq_some_iff.1 h
  simp
theorem grow_ok {l : List Sp} {c d : Cu} (hl : zJ l = true) (hc : c.may = true) (hd : d.may = true) (hcd : zN c d < 0) (h : ∀ s ∈ l.getLast?, zN s.hi c ≤ 0) :
    zJ (pS l c d) = true ∧ (∀ s ∈ (pS l c d).getLast?, zN s.hi d ≤ 0) ∧ ∀ x : Cu, x.may = true → den (pS l c d) x = (den l x || g6 ⟨c, d⟩ x) := by
  have hm : (Sp.mk c d).may = true := by
    unfold Sp.may; rw [decide_eq_true_eq]; rcases dQ c d with e | e | e <;> omega
  unfold pS
  cases hg : l.getLast? with
  | none =>
    have : l = [] := by simpa using hg
    subst this
    refine ⟨hm, fun s hs => ?_, fun x _ => by simp [den]⟩
    obtain rfl : s = ⟨c, d⟩ := by simpa using hs.symm
    rw [kO]; omega
  | some s =>
    dsimp only
    have hsl := last_split hg
    have hs : s.may = true := x3 hl s (List.mem_of_getLast? hg)
    have ms := zU hs
    by_cases h0 : zN s.hi c = 0
    · rw [if_pos h0]
      have ehc : s.hi = c := (cut_eq ms.2 hc).1 h0
      have hl2 := hl
      rw [hsl] at hl2
      obtain ⟨h1, h2⟩ := row_init hl2
      have hlt : zN s.lo d < 0 := xB ms.1 hc hd (ehc ▸ jK hs) hcd
      have hm2 : (Sp.mk s.lo d).may = true := by
        unfold Sp.may; rw [decide_eq_true_eq]; rcases dQ s.lo d with e | e | e <;> omega
      refine ⟨jY h1 hm2 h2, fun t ht => ?_, fun x hx => ?_⟩
      · obtain rfl : t = ⟨s.lo, d⟩ := by simpa using ht.symm
        rw [kO]; omega
      · rw [dN]
        have e : den l x = (den l.dropLast x || den [s] x) := by rw [← dN, ← hsl]
        rw [e, Bool.or_assoc]
        congr 1
        show (g6 ⟨s.lo, d⟩ x || false) = ((g6 s x || false) || g6 ⟨c, d⟩ x)
        rw [Bool.or_false, Bool.or_false]
        unfold g6
        rw [ehc]
        dsimp only
        by_cases hxc : zN x c < 0
        · rw [decide_eq_true hxc, decide_eq_true (xB hx hc hd hxc hcd), decide_eq_false (clt_not hxc)]
          simp
        · have hcx := vO hxc
          rw [decide_eq_false hxc, decide_eq_true hcx, decide_eq_true (qD ms.1 hc hx (by have := ehc ▸ jK hs; omega) hcx)]
          simp
    · rw [if_neg h0]
      have hlt : zN s.hi c < 0 := by have := h s hg; omega
      refine ⟨jY hl hm (fun t ht => by
        rw [hg] at ht
        obtain rfl : s = t := by simpa using ht
        exact hlt), fun t ht => ?_, fun x _ => ?_⟩
      · obtain rfl : t = ⟨c, d⟩ := by simpa using ht.symm
        rw [kO]; omega
      · rw [dN]; congr 1; show (g6 ⟨c, d⟩ x || false) = _; rw [Bool.or_false]
def pick (p : Cu → Cu → Bool) (x : Cu) : List Cu → Bool
  | c :: d :: r => (p c d && g6 ⟨c, d⟩ x) || pick p x (d :: r)
  | _ => false
def mQ : List Cu → Prop
  | c :: d :: r => c.may = true ∧ zN c d < 0 ∧ mQ (d :: r)
  | [c] => c.may = true
  | [] => True
theorem build_ok (p : Cu → Cu → Bool) : ∀ (cs : List Cu) (out : List Sp), mQ cs → zJ out = true → (∀ s ∈ out.getLast?, ∀ c ∈ cs.head?, zN s.hi c ≤ 0) →
    zJ (q7 p out cs) = true ∧ ∀ x : Cu, x.may = true → den (q7 p out cs) x = (den out x || pick p x cs) := by
  intro cs
  induction cs with
  | nil => intro out _ h _; exact ⟨h, fun x _ => by unfold q7 pick; rw [Bool.or_false]⟩
  | cons c r ih =>
    intro out hr ho hlast
    cases r with
    | nil => exact ⟨ho, fun x _ => by unfold q7 pick; rw [Bool.or_false]⟩
    | cons d r =>
      obtain ⟨hc, hcd, hr'⟩ := hr
      have hd : d.may = true := by cases r with
        | nil => exact hr'
        | cons e r => exact hr'.1
      unfold q7
      by_cases hp : p c d = true
      · rw [if_pos hp]
        obtain ⟨g1, g2, g3⟩ := grow_ok ho hc hd hcd (fun s hs => hlast s hs c (by simp))
        obtain ⟨i1, i2⟩ := ih (pS out c d) hr' g1 (fun s hs e he => by
          obtain rfl : d = e := by simpa using he
          exact g2 s hs)
        refine ⟨i1, fun x hx => ?_⟩
        rw [i2 x hx, g3 x hx]
        conv => rhs; unfold pick
        rw [hp, Bool.true_and, Bool.or_assoc]
      · rw [if_neg hp]
        obtain ⟨i1, i2⟩ := ih out hr' ho (fun s hs e he => by
          obtain rfl : d = e := by simpa using he
          have ms := zU (x3 ho s (List.mem_of_getLast? hs))
          have := nP ms.2 hc hd (hlast s hs c (by simp)) hcd
          omega)
        refine ⟨i1, fun x hx => ?_⟩
        rw [i2 x hx]
        conv => rhs; unfold pick
        rw [show p c d = false from by simpa using hp, Bool.false_and, Bool.false_or]
def gN (c : Cu) : List Cu → List Cu
  | [] => [c]
  | d :: r => if zN d c < 0 then d :: gN c r else if zN d c = 0 then d :: r else c :: d :: r
def qJ (l : List Sp) : List Cu := l.foldl (fun out s => gN s.hi (gN s.lo out)) [zZ (-1), zZ 1]
theorem putL_mem (c : Cu) : ∀ (l : List Cu) (x : Cu), x ∈ gN c l → x = c ∨ x ∈ l := by
  intro l
  induction l with
  | nil => intro x hx; simpa [gN] using hx
  | cons d r ih =>
    intro x hx
    unfold gN at hx
    split at hx
    · rcases List.mem_cons.1 hx with rfl | hx
      · exact .inr (by simp)
      · rcases ih x hx with h | h
        · exact .inl h
        · exact .inr (by simp [h])
    · split at hx
      · exact .inr hx
      · rcases List.mem_cons.1 hx with rfl | hx
        · exact .inl rfl
        · exact .inr hx
theorem putL_old (c : Cu) : ∀ (l : List Cu) (x : Cu), x ∈ l → x ∈ gN c l := by
  intro l
  induction l with
  | nil => intro x hx; cases hx
  | cons d r ih =>
    intro x hx
    unfold gN
    split
    · rcases List.mem_cons.1 hx with rfl | hx
      · simp
      · simp [ih x hx]
    · split
      · exact hx
      · simp only [List.mem_cons] at hx ⊢; exact .inr hx
def AllMay (l : List Cu) : Prop := ∀ x ∈ l, x.may = true
theorem putL_new {c : Cu} (hc : c.may = true) : ∀ (l : List Cu), AllMay l → c ∈ gN c l := by
  intro l
  induction l with
  | nil => intro _; simp [gN]
  | cons d r ih =>
    intro h
    unfold gN
    split
    · exact List.mem_cons_of_mem _ (ih (fun x hx => h x (by simp [hx])))
    · split
      · rename_i h0
        have := (cut_eq (h d (by simp)) hc).1 h0
        simp [this]
      · simp
theorem bI : ∀ {l : List Cu}, mQ l → AllMay l
  | [], _ => fun x hx => by cases hx
  | [c], h => fun x hx => by
    obtain rfl : x = c := by simpa using hx
    exact h
  | c :: d :: r, h => fun x hx => by
    rcases List.mem_cons.1 hx with rfl | hx
    · exact h.1
    · exact bI h.2.2 x hx
theorem rise_cons {c : Cu} {l : List Cu} (hc : c.may = true) (hl : mQ l) (h : ∀ d ∈ l.head?, zN c d < 0) : mQ (c :: l) := by
  cases l with
  | nil => exact hc
  | cons d r => exact ⟨hc, h d (by simp), hl⟩
theorem gD {c : Cu} {l : List Cu} (h : mQ (c :: l)) : mQ l := by
  cases l with
  | nil => trivial
  | cons d r => exact h.2.2
theorem bJ {c : Cu} {l : List Cu} (h : mQ (c :: l)) : c.may = true ∧ ∀ d ∈ l.head?, zN c d < 0 := by
  cases l with
  | nil => exact ⟨h, by simp⟩
  | cons d r => exact ⟨h.1, fun e he => by
    obtain rfl : d = e := by simpa using he
    exact h.2.1⟩
theorem putL_rise {c : Cu} (hc : c.may = true) : ∀ (l : List Cu), mQ l → mQ (gN c l) := by
  intro l
  induction l with
  | nil => intro _; exact hc
  | cons d r ih =>
    intro h
    obtain ⟨hd, h1⟩ := bJ h
    unfold gN
    by_cases hlt : zN d c < 0
    · rw [if_pos hlt]
      refine rise_cons hd (ih (gD h)) fun e he => ?_
      cases r with
      | nil =>
        obtain rfl : c = e := by simpa [gN] using he
        exact hlt
      | cons f r =>
        unfold gN at he
        by_cases h2 : zN f c < 0
        · rw [if_pos h2] at he
          obtain rfl : f = e := by simpa using he
          exact h1 f (by simp)
        · rw [if_neg h2] at he
          by_cases h3 : zN f c = 0
          · rw [if_pos h3] at he
            obtain rfl : f = e := by simpa using he
            exact h1 f (by simp)
          · rw [if_neg h3] at he
            obtain rfl : c = e := by simpa using he
            exact hlt
    · rw [if_neg hlt]
      by_cases h0 : zN d c = 0
      · rw [if_pos h0]; exact h
      · rw [if_neg h0]
        refine rise_cons hc h fun e he => ?_
        obtain rfl : d = e := by simpa using he
        exact clt_flip (by have := xH (a := d) (b := c); omega)
structure Ends (l : List Cu) : Prop where
  rise : mQ l
  head : l.head? = some (zZ (-1))
  last : l.getLast? = some (zZ 1)
theorem ends_two : Ends [zZ (-1), zZ 1] := ⟨⟨mF, by decide, bS⟩, rfl, rfl⟩
theorem putL_head_min {c : Cu} (hc : c.may = true) {l : List Cu} (h : l.head? = some (zZ (-1))) : (gN c l).head? = some (zZ (-1)) := by
  cases l with
  | nil => cases h
  | cons d r =>
    obtain rfl : d = zZ (-1) := by simpa using h
    have h1 := fL hc
    unfold gN
    by_cases h2 : zN (zZ (-1)) c < 0
    · rw [if_pos h2]; rfl
    · rw [if_neg h2, if_pos (by omega)]; rfl
theorem putL_last_max {c : Cu} (hc : c.may = true) : ∀ {l : List Cu}, l.getLast? = some (zZ 1) → (gN c l).getLast? = some (zZ 1) := by
  intro l
  induction l with
  | nil => intro h; cases h
  | cons d r ih =>
    intro h
    unfold gN
    cases r with
    | nil =>
      obtain rfl : d = zZ 1 := by simpa using h
      have h1 := le_last hc
      have := xH (a := c) (b := zZ 1)
      rw [if_neg (by omega)]
      by_cases h0 : zN (zZ 1) c = 0
      · rw [if_pos h0]; rfl
      · rw [if_neg h0]; rfl
    | cons e r =>
      have h2 : (e :: r).getLast? = some (zZ 1) := by rw [List.getLast?_cons_cons] at h; exact h
      by_cases h3 : zN d c < 0
      · rw [if_pos h3]
        have := ih h2
        cases hp : gN c (e :: r) with
        | nil => rw [hp] at this; cases this
        | cons f q => rw [hp] at this; rw [List.getLast?_cons_cons]; exact this
      · rw [if_neg h3]
        by_cases h0 : zN d c = 0
        · rw [if_pos h0]; exact h
        · rw [if_neg h0, List.getLast?_cons_cons]; exact h
theorem putL_ends {c : Cu} (hc : c.may = true) {l : List Cu} (h : Ends l) : Ends (gN c l) := ⟨putL_rise hc l h.rise, putL_head_min hc h.head, putL_last_max hc h.last⟩
theorem cuts_go : ∀ (l : List Sp) (out : List Cu), (∀ s ∈ l, s.may = true) → Ends out →
    Ends (l.foldl (fun out s => gN s.hi (gN s.lo out)) out) ∧ (∀ x ∈ out, x ∈ l.foldl (fun out s => gN s.hi (gN s.lo out)) out) ∧ ∀ s ∈ l, s.lo ∈ l.foldl (fun out s => gN s.hi (gN s.lo out)) out ∧ s.hi ∈ l.foldl (fun out s => gN s.hi (gN s.lo out)) out := by
  intro l
  induction l with
  | nil => intro out _ h; exact ⟨h, fun x hx => hx, by simp⟩
  | cons s l ih =>
    intro out hm h
    have ms := zU (hm s (by simp))
    have e1 := putL_ends ms.1 h
    have e2 := putL_ends ms.2 e1
    obtain ⟨i1, i2, i3⟩ := ih (gN s.hi (gN s.lo out)) (fun t ht => hm t (by simp [ht])) e2
    rw [List.foldl_cons]
    refine ⟨i1, fun x hx => i2 x (putL_old _ _ _ (putL_old _ _ _ hx)), fun t ht => ?_⟩
    rcases List.mem_cons.1 ht with rfl | ht
    · exact ⟨i2 _ (putL_old _ _ _ (putL_new ms.1 out (bI h.rise))), i2 _ (putL_new ms.2 _ (bI e1.rise))⟩
    · exact i3 t ht
theorem vY {l : List Sp} (h : ∀ s ∈ l, s.may = true) : Ends (qJ l) := (cuts_go l _ h ends_two).1
theorem tV {l : List Sp} (h : ∀ s ∈ l, s.may = true) : ∀ s ∈ l, s.lo ∈ qJ l ∧ s.hi ∈ qJ l := (cuts_go l _ h ends_two).2.2
def inL (l : List Sp) (c d : Cu) : Bool := l.any fun s => decide (zN s.lo c ≤ 0) && decide (zN d s.hi ≤ 0)
theorem nA {c : Cu} : ∀ {l : List Cu}, mQ (c :: l) → ∀ x ∈ l, zN c x < 0 := by
  intro l
  induction l generalizing c with
  | nil => intro _ x hx; cases hx
  | cons d r ih =>
    intro h x hx
    have hcd := (bJ h).2 d (by simp)
    rcases List.mem_cons.1 hx with rfl | hx
    · exact hcd
    · have hr := gD h
      exact xB (bJ h).1 (bJ hr).1 (bI (gD hr) x hx) hcd (ih hr x hx)
theorem pick_eq {p : Cu → Cu → Bool} {q : Cu → Bool} : ∀ (cs : List Cu), mQ cs → (∀ c d x, (∃ A B, cs = A ++ c :: d :: B) → x.may = true → zN c x ≤ 0 → zN x d < 0 → p c d = q x) →
    ∀ x : Cu, x.may = true → (∀ c ∈ cs.head?, zN c x ≤ 0) → (∀ d ∈ cs.getLast?, zN x d < 0) → cs ≠ [] → pick p x cs = q x := by
  intro cs
  induction cs with
  | nil => intro _ _ x _ _ _ h; exact absurd rfl h
  | cons c r ih =>
    intro hr hp x hx h1 h2 _
    have hc := h1 c (by simp)
    cases r with
    | nil => have := h2 c (by simp); have := xH (a := c) (b := x); omega
    | cons d r =>
      unfold pick
      by_cases hd : zN x d < 0
      · have e : g6 ⟨c, d⟩ x = true := by unfold g6; rw [decide_eq_true hc, decide_eq_true hd]; rfl
        rw [e, Bool.and_true, hp c d x ⟨[], r, rfl⟩ hx hc hd]
        cases hq : q x with
        | true => rfl
        | false =>
          rw [Bool.false_or]
          have low : ∀ (cs : List Cu), mQ cs → (∀ y ∈ cs, zN x y < 0) → pick p x cs = false := by
            intro cs
            induction cs with
            | nil => intro _ _; rfl
            | cons c r ih =>
              intro hr hy
              cases r with
              | nil => rfl
              | cons d r =>
                unfold pick
                have : g6 ⟨c, d⟩ x = false := by unfold g6; rw [decide_eq_false (clt_not (hy c (by simp)))]; rfl
                rw [this, Bool.and_false, Bool.false_or]
                exact ih (gD hr) (fun y hy' => hy y (by simp [hy']))
          refine low _ (gD hr) (fun y hy => ?_)
          rcases List.mem_cons.1 hy with rfl | hy
          · exact hd
          · exact xB hx (bJ (gD hr)).1 (bI (gD (gD hr)) y hy) hd (nA (gD hr) y hy)
      · have e : g6 ⟨c, d⟩ x = false := by unfold g6; rw [decide_eq_false hd, Bool.and_false]
        rw [e, Bool.and_false, Bool.false_or]
        refine ih (gD hr) (fun c' d' x' ⟨A, B, hAB⟩ => hp c' d' x' ⟨c :: A, B, by rw [hAB]; rfl⟩) x hx (fun c' hc' => ?_) (fun d' hd' => h2 d' (by rw [List.getLast?_cons_cons]; exact hd')) (by simp)
        obtain rfl : d = c' := by simpa using hc'
        exact vO hd
theorem rise_gap {A B : List Cu} {c d : Cu} (h : mQ (A ++ c :: d :: B)) : ∀ y ∈ A ++ c :: d :: B, zN y c ≤ 0 ∨ zN d y ≤ 0 := by
  induction A with
  | nil =>
    intro y hy
    rcases List.mem_cons.1 hy with rfl | hy
    · exact .inl (by rw [kO]; omega)
    · rcases List.mem_cons.1 hy with rfl | hy
      · exact .inr (by rw [kO]; omega)
      · exact .inr (by have := nA (gD h) y hy; omega)
  | cons a A ih =>
    intro y hy
    rcases List.mem_cons.1 hy with rfl | hy
    · exact .inl (by have := nA h c (by simp); omega)
    · exact ih (gD h) y hy
theorem in_den {l : List Sp} (hl : ∀ s ∈ l, s.may = true) {cs : List Cu} (hr : mQ cs) (hcs : ∀ s ∈ l, s.lo ∈ cs ∧ s.hi ∈ cs) {A B : List Cu} {c d x : Cu} (e : cs = A ++ c :: d :: B) (hx : x.may = true) (h1 : zN c x ≤ 0) (h2 : zN x d < 0) : inL l c d = den l x := by
  have hm := bI hr
  have mc := hm c (by rw [e]; simp)
  have md := hm d (by rw [e]; simp)
  have gap : ∀ y ∈ cs, zN y c ≤ 0 ∨ zN d y ≤ 0 := by rw [e] at hr ⊢; exact rise_gap hr
  unfold inL den
  have key : ∀ s ∈ l, (decide (zN s.lo c ≤ 0) && decide (zN d s.hi ≤ 0)) = g6 s x := by
    intro s hs
    obtain ⟨g1, g2⟩ := hcs s hs
    have ms := zU (hl s hs)
    unfold g6
    have a1 : (zN s.lo c ≤ 0) ↔ (zN s.lo x ≤ 0) := by
      constructor
      · intro h; exact qD ms.1 mc hx h h1
      · intro h
        rcases gap s.lo g1 with g | g
        · exact g
        · have := nP ms.1 hx md h h2
          have := xH (a := s.lo) (b := d); omega
    have a2 : (zN d s.hi ≤ 0) ↔ (zN x s.hi < 0) := by
      constructor
      · intro h; exact wG hx md ms.2 h2 h
      · intro h
        rcases gap s.hi g2 with g | g
        · have := nP mc hx ms.2 h1 h
          have := xH (a := s.hi) (b := c); omega
        · exact g
    rw [decide_eq_decide.2 a1, decide_eq_decide.2 a2]
  clear hcs gap hl
  induction l with
  | nil => rfl
  | cons s l ih =>
    rw [List.any_cons, List.any_cons, key s (by simp), ih (fun t ht => key t (by simp [ht]))]
def wR (l : List Sp) : List Sp := q7 (inL l) [] (qJ l)
def orL (a b : List Sp) : List Sp := wR (a ++ b)
def f5 (a b : List Sp) : List Sp := q7 (fun c d => inL a c d && inL b c d) [] (qJ (a ++ b))
def vD (a : List Sp) : List Sp := q7 (fun c d => !inL a c d) [] (qJ a)
theorem build_den {p : Cu → Cu → Bool} {q : Cu → Bool} {cs : List Cu} (h : Ends cs) (hp : ∀ c d x, (∃ A B, cs = A ++ c :: d :: B) → x.may = true → zN c x ≤ 0 → zN x d < 0 → p c d = q x) :
    zJ (q7 p [] cs) = true ∧ ∀ x : Cu, x.may = true → zN x (zZ 1) < 0 → den (q7 p [] cs) x = q x := by
  obtain ⟨h1, h2⟩ := build_ok p cs [] h.rise rfl (by simp)
  refine ⟨h1, fun x hx hl => ?_⟩
  rw [h2 x hx]
  show (false || pick p x cs) = q x
  rw [Bool.false_or]
  refine pick_eq cs h.rise hp x hx (fun c hc => ?_) (fun d hd => ?_) (fun e => by rw [e] at h; cases h.head)
  · rw [h.head] at hc; obtain rfl : zZ (-1) = c := by simpa using hc
    exact fL hx
  · rw [h.last] at hd; obtain rfl : zZ 1 = d := by simpa using hd
    exact hl
theorem pN {l : List Sp} (hl : ∀ s ∈ l, s.may = true) : zJ (wR l) = true ∧ ∀ x : Cu, x.may = true → zN x (zZ 1) < 0 → den (wR l) x = den l x :=
  build_den (vY hl) fun c d x ⟨A, B, e⟩ hx h1 h2 => in_den hl (vY hl).rise (tV hl) e hx h1 h2
theorem t7 {a b : List Sp} (ha : zJ a = true) (hb : zJ b = true) : ∀ s ∈ a ++ b, s.may = true := fun s hs => by
  rcases List.mem_append.1 hs with h | h
  · exact x3 ha s h
  · exact x3 hb s h
theorem and_ok {a b : List Sp} (ha : zJ a = true) (hb : zJ b = true) : zJ (f5 a b) = true ∧ ∀ x : Cu, x.may = true → zN x (zZ 1) < 0 → den (f5 a b) x = (den a x && den b x) := by
  have hm := t7 ha hb
  have hc := tV hm
  refine build_den (vY hm) fun c d x ⟨A, B, e⟩ hx h1 h2 => ?_
  rw [in_den (x3 ha) (vY hm).rise (fun s hs => hc s (by simp [hs])) e hx h1 h2, in_den (x3 hb) (vY hm).rise (fun s hs => hc s (by simp [hs])) e hx h1 h2]
theorem wV {a : List Sp} (ha : zJ a = true) : zJ (vD a) = true ∧ ∀ x : Cu, x.may = true → zN x (zZ 1) < 0 → den (vD a) x = !den a x := by
  have hm := x3 ha
  refine build_den (vY hm) fun c d x ⟨A, B, e⟩ hx h1 h2 => ?_
  rw [in_den hm (vY hm).rise (tV hm) e hx h1 h2]
theorem make_self {l : List Sp} (h : zJ l = true) : wR l = l := hY _ _ (pN (x3 h)).1 h (pN (x3 h)).2
end
section
def yR (s : Sp) : List Value := (zM s).cells.toList
theorem yC (s : Sp) : (yR s).length = 14 := rfl
def yU (l : List Sp) : Prop := ∀ s ∈ l, s.short
end
section
def cutC (s : Cu) : List Value := (zC s).cells.toList
def ShortC (l : List Cu) : Prop := ∀ s ∈ l, s.short
def SlC (v : Value) (l : List Cu) (ob : List Blk) : Prop := Sl 72 7 v l.length (l.flatMap cutC) ob
theorem Sl.to {T : TypeId} {sz : Nat} {v : Value} {n n' : Nat} {xs xs' : List Value} {ob : List Blk} (h : Sl T sz v n xs ob) (e : n = n') (e' : xs = xs') : Sl T sz v n' xs' ob := by subst e; subst e'; exact h
end
section
theorem Own.lend {M : List Nat} {W w : World} {L : List Blk} (h : Own M W w L) : Own (L.map Blk.b) w w L :=
  ⟨rfl, rfl, rfl, Nat.le_refl _, Nat.le_refl _, fun _ _ _ => rfl, h.held, fun x hx => .inr (List.mem_map.2 ⟨x, hx, rfl⟩), h.apart⟩
theorem putL_len (c : Cu) : ∀ (l : List Cu), (gN c l).length ≤ l.length + 1 ∧ 0 < (gN c l).length
  | [] => ⟨by simp [gN], by simp [gN]⟩
  | d :: r => by
    have ih := putL_len c r
    unfold gN
    split
    · simp; omega
    · split <;> simp
theorem putL_short {c : Cu} (hc : c.short) {l : List Cu} (hl : ShortC l) : ShortC (gN c l) := fun x hx => by
  rcases putL_mem c l x hx with rfl | h
  · exact hc
  · exact hl x h
theorem cuts_step (l : List Sp) (k : Nat) (hk : k < l.length) : qJ (l.take (k + 1)) = gN l[k].hi (gN l[k].lo (qJ (l.take k))) := by
  unfold qJ
  rw [List.take_succ_eq_append_getElem hk, List.foldl_append]; rfl
theorem cuts_size (l : List Sp) (hl : yU l) : ∀ (k : Nat), k ≤ l.length → (qJ (l.take k)).length ≤ 2 + 2 * k ∧ 0 < (qJ (l.take k)).length ∧ ShortC (qJ (l.take k))
  | 0, _ => ⟨by simp [qJ], by simp [qJ], fun x hx => by
      simp only [qJ, List.take_zero, List.foldl_nil, List.mem_cons, List.not_mem_nil, or_false] at hx
      rcases hx with rfl | rfl <;> exact ⟨by simp [zZ, Ver.zero], by simp [zZ, Ver.zero]⟩⟩
  | k + 1, h => by
    have ih := cuts_size l hl k (by omega)
    have hs := hl l[k] (List.getElem_mem _)
    rw [cuts_step l k h]
    have e1 := putL_len l[k].lo (qJ (l.take k))
    have e2 := putL_len l[k].hi (gN l[k].lo (qJ (l.take k)))
    exact ⟨by omega, e2.2, putL_short hs.2 (putL_short hs.1 ih.2.2)⟩
theorem rfirst_any (W : World) : Calls Tryz.prog 62 #[] W fun e w' => e = .returned (zC (zZ (-1))) ∧ Below W.heap.size W w' := by
  refine zR (n := 2) Tryz.func62 rfl (by kernel_rfl) (by kernel_rfl) (ZO (Za (.agg #[.int .i64 0, .int .i64 0, .int .i64 0, .int .i64 0, .string ⟨#[]⟩, .string ⟨#[]⟩, .bool false]) (fun b1 => ZR (Zv (.agg #[.int .i64 (-1), .int .i64 0, .int .i64 0, .int .i64 0, .string ⟨#[]⟩, .string ⟨#[]⟩, .bool false]) (Zs 0 ⟨b1, #[.int .i64 0, .int .i64 0, .int .i64 0, .int .i64 0, .string ⟨#[]⟩, .string ⟨#[]⟩, .bool false], 72⟩ (off := 0) (.agg #[.int .i64 (-1), .int .i64 0, .int .i64 0, .int .i64 0, .string ⟨#[]⟩, .string ⟨#[]⟩, .bool false]) (zT (zB ?_)))))))
  exact zF (ZC 0 ⟨b1, #[.int .i64 (-1), .int .i64 0, .int .i64 0, .int .i64 0, .string ⟨#[]⟩, .string ⟨#[]⟩, .bool false], 72⟩ (off := 0) (.agg #[.int .i64 (-1), .int .i64 0, .int .i64 0, .int .i64 0, .string ⟨#[]⟩, .string ⟨#[]⟩, .bool false]) Tryz.results62 (fun w hO => ⟨rfl, hO.below⟩))
theorem rlast_any (W : World) : Calls Tryz.prog 63 #[] W fun e w' => e = .returned (zC (zZ (1))) ∧ Below W.heap.size W w' := by
  refine zR (n := 2) Tryz.func63 rfl (by kernel_rfl) (by kernel_rfl) (ZO (Za (.agg #[.int .i64 0, .int .i64 0, .int .i64 0, .int .i64 0, .string ⟨#[]⟩, .string ⟨#[]⟩, .bool false]) (fun b1 => ZR (Zv (.agg #[.int .i64 1, .int .i64 0, .int .i64 0, .int .i64 0, .string ⟨#[]⟩, .string ⟨#[]⟩, .bool false]) (Zs 0 ⟨b1, #[.int .i64 0, .int .i64 0, .int .i64 0, .int .i64 0, .string ⟨#[]⟩, .string ⟨#[]⟩, .bool false], 72⟩ (off := 0) (.agg #[.int .i64 1, .int .i64 0, .int .i64 0, .int .i64 0, .string ⟨#[]⟩, .string ⟨#[]⟩, .bool false]) (zT (zB ?_)))))))
  exact zF (ZC 0 ⟨b1, #[.int .i64 1, .int .i64 0, .int .i64 0, .int .i64 0, .string ⟨#[]⟩, .string ⟨#[]⟩, .bool false], 72⟩ (off := 0) (.agg #[.int .i64 1, .int .i64 0, .int .i64 0, .int .i64 0, .string ⟨#[]⟩, .string ⟨#[]⟩, .bool false]) Tryz.results63 (fun w hO => ⟨rfl, hO.below⟩))
end
section
end
section
def SlS (v : Value) (l : List Sp) (ob : List Blk) : Prop := Sl 74 14 v l.length (l.flatMap yR) ob
theorem spanInfo : (Tryz.prog.info? 74).map (fun i => (i.zero.map (·.cells.size), i.size, i.bytes)) = some (some 14, 14, 144) := by kernel_rfl
theorem qL : ∃ i z, Tryz.prog.info? 74 = some i ∧ i.zero = some z ∧ i.size = 14 ∧ z.cells.size = 14 ∧ i.bytes = 144 := by
  have h := spanInfo
  cases hi : Tryz.prog.info? 74 with
  | none => rw [hi] at h; cases h
  | some i =>
    rw [hi] at h
    simp only [Option.map_some, Option.some.injEq, Prod.mk.injEq] at h
    cases hz : i.zero with
    | none => rw [hz] at h; simp at h
    | some z => rw [hz] at h; simp at h; exact ⟨i, z, rfl, hz, h.2.1, h.1, h.2.2⟩
theorem gY (s : Sp) : ∀ u ∈ yR s, u.oneCell' = true := by
  intro u hu
  unfold yR zM at hu
  simp only [Value.cells, List.mem_cons, List.not_mem_nil, or_false] at hu
  rcases hu with rfl | rfl | rfl | rfl | rfl | rfl | rfl | rfl | rfl | rfl | rfl | rfl | rfl | rfl <;> rfl
theorem grow_set {l : List Sp} {c d : Cu} {s : Sp} (h0 : 0 < l.length) (hs : l[l.length - 1]'(by omega) = s) (h : zN s.hi c = 0) : pS l c d = l.set (l.length - 1) ⟨s.lo, d⟩ := by
  have hg : l.getLast? = some s := by rw [List.getLast?_eq_getElem?, List.getElem?_eq_getElem (by omega), hs]
  unfold pS
  rw [hg]
  dsimp only
  rw [if_pos h, List.dropLast_eq_take, List.set_eq_take_append_cons_drop, if_pos (by omega), List.drop_of_length_le (by omega)]
theorem last_at {l : List Sp} (h0 : 0 < l.length) {s t : Sp} (hs : l[l.length - 1]'(by omega) = s) (ht : t ∈ l.getLast?) : t = s := by
  rw [List.getLast?_eq_getElem?, List.getElem?_eq_getElem (by omega), hs] at ht
  exact (Option.some.inj ht).symm
end
section
section
variable {M : List Nat} {P : Program} {n : Nat} {ops : Array Oper} {W : World} {Q : Exit → Act → World → Prop} {L0 L : List Blk} {f : Nat → Value} {fuel : Nat} {listed : Array Bool} {rest : List Oper} {o : Oper}
theorem zV {k : FuncId} {args : Array Value} (R : Value → List Blk → Prop) (hw : xP ops n f o = true) (he : ∀ w, (execOp (ev n f) o).run P w = .ok (.enter k args) w)
    (hc : ∀ w, Own M W w L → Calls P k args w fun e w' => ∃ v L', e = .returned v ∧ R v L' ∧ Own M W w' L') (h : ∀ v L', R v L' → Seg M P n ops W Q rest L' (upd f o.dst v)) : Seg M P n ops W Q (o :: rest) L f :=
  qZ hw fun w hO => nY (he w) ((hc w hO).mono fun e w' ⟨v, L', e1, e2, e3⟩ => ⟨v, e1, (h v L' e2).go w' e3⟩)
theorem hl_sum {k : IntKind} (i : Nat) (oi : Oper) (z : Int) (hi : ops[i]? = some oi) (hs : Region.noSelect ops = true) (hf : Region.free .any ops listed i = true) (hr : (Region.ready .any ops listed).contains i = true)
    (hQ : PQ Q) (hsub : ∀ w, Own M W w L → Own M W w L0) (hw : xP ops n f oi = true) (hrun : ∀ w, (execOp (ev n f) oi).run P w = .ok (.value (.int k (k.wrap z))) w) (hz : k.wrap z = z)
    (h : j3 M P n ops W L0 Q fuel (listed.setIfInBounds i true) L (upd f oi.dst (.int k z))) : j3 M P n ops W L0 Q (fuel + 1) listed L f :=
  hl_take i oi (.int k z) hi hs hf hr hQ hsub hw (fun w _ => by rw [hrun w, hz]) h
theorem Own.perm {w : World} {L' : List Blk} (h : Own M W w L) (hp : L.Perm L') : Own M W w L' :=
  h.take (fun x hx => hp.mem_iff.2 hx) ((hp.map Blk.b).nodup_iff.1 h.apart)
end
theorem SlS.form {v : Value} {l : List Sp} {ob : List Blk} (h : SlS v l ob) : ∃ A cap, v = .slice A l.length cap := by
  rcases h.2 with ⟨h1, h2, _⟩ | ⟨g, cap, cur, h1, _⟩
  · exact ⟨none, 0, by rw [h1, h2]⟩
  · exact ⟨_, cap, h1⟩
structure Built (p : Cu → Cu → Bool) (cs : List Cu) (k : Nat) (v : Value) (out : List Sp) (ob : List Blk) : Prop where
  le : k ≤ cs.length
  sl : SlS v out ob
  len : out.length ≤ k
  short : yU out
  eq : q7 p [] cs = q7 p out (cs.drop k)
end
section
deriving instance DecidableEq for Sp
theorem all2 (a b : Bool) : ([a, b].all id) = (a && b) := by simp
theorem sp_dec (u v : Sp) : decide (u = v) = (decide (u.lo = v.lo) && decide (u.hi = v.hi)) := by
  obtain ⟨a, b⟩ := u
  obtain ⟨a', b'⟩ := v
  simp only [Sp.mk.injEq, Bool.decide_and]
theorem eq_span (u v : Sp) (d : Nat) (w : World) : (Op.equalIn (d + 1 + 1 + 1 + 1) 74 (zM u) (zM v)).run Tryz.prog w = .ok (decide (u = v)) w := by
  have h := eq_agg (P := Tryz.prog) (d := d + 1 + 1 + 1) (t := 74) (xs := (zM u).cells) (ys := (zM v).cells) (bs := [decide (u.lo = v.lo), decide (u.hi = v.hi)]) Tryz.underlying74 (by kernel_rfl)
    ⟨by decide, ⟨zC u.lo, zC v.lo, fun w => ⟨by kernel_rfl, by kernel_rfl, eq_cut u.lo v.lo d w⟩⟩,
     by decide, ⟨zC u.hi, zC v.hi, fun w => ⟨by kernel_rfl, by kernel_rfl, eq_cut u.hi v.hi d w⟩⟩, trivial⟩ w
  rw [all2, ← sp_dec] at h
  exact h
theorem guard_span : Tryz.prog.eqGuardType Tryz.prog.depth 74 = false := by kernel_rfl
theorem binOp_agg_neq {P : Program} {t : TypeId} {xs ys : Array Value} {b : Bool} (w : World) (h : (Op.equalIn 10000 t (.agg xs) (.agg ys)).run P w = .ok b w) : (binOp .neq t (.agg xs) (.agg ys)).run P w = .ok (.bool (!b)) w := by
  have e : binOp .neq t (.agg xs) (.agg ys) = (do let r ← Op.equalIn 10000 t (.agg xs) (.agg ys); pure (.bool (!r))) := by first | rfl | simp [binOp]
  rw [e]
  simp only [Sem.run_bind, h, Result.andThen_ok, Sem.run_pure]
theorem run_ne_op {P : Program} {ρ : Operand → Value} {o : Oper} {t t' : TypeId} {x y : Operand} {xs ys : Array Value} {b : Bool} (ho : o.op = .binOp .neq t x y t') (hx : ρ x = .agg xs) (hy : ρ y = .agg ys) (hm : P.eqGuardType P.depth t = false)
    (h : ∀ w, (Op.equalIn 10000 t (.agg xs) (.agg ys)).run P w = .ok b w) (w : World) : (execOp ρ o).run P w = .ok (.value (.bool (!b))) w := by
  have h1 := run_eqGuard_agg (P := P) w .neq t x y xs ys hm
  have h2 := binOp_agg_neq w (h w)
  unfold execOp
  simp only [ho, hx, hy, Sem.run_bind, h1, Result.andThen_ok, h2, Sem.run_pure]
theorem op_ne_span {ρ : Operand → Value} {o : Oper} {t' : TypeId} {x y : Operand} {u v : Sp} {b : Bool} (ho : o.op = .binOp .neq 74 x y t') (hx : ρ x = zM u) (hy : ρ y = zM v) (hb : decide (u = v) = b) (w : World) : (execOp ρ o).run Tryz.prog w = .ok (.value (.bool (!b))) w :=
  run_ne_op ho hx hy guard_span (fun w => by rw [← hb]; exact eq_span u v 9996 w) w
theorem same_step {a b : List Sp} {k : Nat} (ha : k < a.length) (hb : k < b.length) (h : a.take k = b.take k) (e : a[k] = b[k]) : a.take (k + 1) = b.take (k + 1) := by
  rw [List.take_succ_eq_append_getElem ha, List.take_succ_eq_append_getElem hb, h, e]
theorem rsame_any (A B : Option Addr) (cap capb : Nat) (a b : List Sp) (W : World) (hv : Reads yR W W.heap.size A a) (hu : Reads yR W W.heap.size B b) (hn : a.length ≤ 1000000) (hm : b.length ≤ 1000000) :
    Calls Tryz.prog 31 #[.slice A a.length cap, .slice B b.length capb] W fun e w' => e = .returned (.bool (decide (a = b))) ∧ Below W.heap.size W w' := by
  refine zR (n := 26) Tryz.func31 rfl (by kernel_rfl) (by kernel_rfl) (ZO (Zv (.bool false) (ZN (z6 (ZO (Zv (.slice A a.length cap) (Zv (.int .i64 (a.length : Int)) (Zv (.slice B b.length capb) ?_))))))))
  refine Zv (.int .i64 (b.length : Int)) ?_
  by_cases h1 : (a.length : Int) = (b.length : Int)
  · refine d9 (p := (a.length : Int) = (b.length : Int)) true (by kernel_rfl) (fun _ => by kernel_rfl) (decide_eq_true (h1)) ?_
    refine ZX (ZB (z6 (ZO (Zv (.int .i64 0) (ZN (zL ?_))))))
    refine xA (fun L f m => ∃ (k : Nat) (j : Nat → Value), (k ≤ a.length ∧ a.take k = b.take k) ∧ L = [] ∧ f = g9 j [(0, .slice A a.length cap), (1, .slice B b.length capb), (5, .int .i64 (k : Int))] ∧ m = a.length - k) (a.length - 0) ⟨0, _, ⟨Nat.zero_le _, by rw [List.take_zero, List.take_zero]⟩, rfl, ZU, rfl⟩ ?_
    rintro L f m ⟨k, j, hrel, rfl, rfl, rfl⟩
    have hkl := hrel.1
    refine z6 (ZO (Zv (.int .i64 (k : Int)) (Zv (.slice A a.length cap) (Zv (.int .i64 (a.length : Int)) ?_))))
    by_cases h2 : (k : Int) < (a.length : Int)
    · have hk : k < a.length := by omega
      have hkb : k < b.length := by omega
      obtain ⟨g, off, hA, hlt, hcell⟩ := hv (by omega)
      obtain ⟨gb, ofh, hB, hlu, hcelu⟩ := hu (by omega)
      obtain ⟨s, hs⟩ : ∃ s, a[k] = s := ⟨_, rfl⟩
      obtain ⟨t, ht⟩ : ∃ t, b[k] = t := ⟨_, rfl⟩
      refine Zd (p := (k : Int) < (a.length : Int)) true (decide_eq_true (h2)) (ZY (ZB (z6 (zL (z6 (mA (by kernel_rfl) (by kernel_rfl) (Zw (.slice A a.length cap) (Zw (.int .i64 (k : Int)) ?_))))))))
      refine jL (.pointer (some ⟨g, off + k * 14, none⟩)) (by kernel_rfl) (ZA (b := g) (off := off) (c := cap) (n := a.length) (k := .i64) (j := (k : Int)) (e := 74) (sz := 14) hA) (q_old (zM s) (a := ⟨g, off + k * 14, none⟩) (by kernel_rfl) rfl (by kernel_rfl) (fun w hO => xG yC (fun j u h => (hO.below.cell (p := ⟨g, off + j, none⟩) hlt).trans (hcell j u h)) k 0 hk (by omega) _ (by rw [hs]; kernel_rfl)) (Zw (.slice B b.length capb) (Zw (.int .i64 (k : Int)) (jL (.pointer (some ⟨gb, ofh + k * 14, none⟩)) (by kernel_rfl) (ZA (b := gb) (off := ofh) (c := capb) (n := b.length) (k := .i64) (j := (k : Int)) (e := 74) (sz := 14) hB) (q_old (zM t) (a := ⟨gb, ofh + k * 14, none⟩) (by kernel_rfl) rfl (by kernel_rfl) (fun w hO => xG yC (fun j u h => (hO.below.cell (p := ⟨gb, ofh + j, none⟩) hlu).trans (hcelu j u h)) k 0 hkb (by omega) _ (by rw [ht]; kernel_rfl)) ?_)))))
      by_cases h3 : s = t
      · refine jL (.bool false) (by kernel_rfl) (op_ne_span rfl (by kernel_rfl) (by kernel_rfl) (decide_eq_true (h3))) ?_
        refine vR (zB (Zf (xK (zP (zB (z7 (Zv (.int .i64 (k : Int)) (Zu (k := .i64) (((k + 1 : Nat) : Int)) (IntWalk.i64_in _ (by omega)) (Zv (.int .i64 ((k + 1 : Nat) : Int)) (zT ?_))))))))))
        have hnext : a.take (k + 1) = b.take (k + 1) := same_step hk hkb hrel.2 (by rw [hs, ht]; assumption)
        exact zX (m' := a.length - (k + 1)) (by omega) ⟨k + 1, _, ⟨by omega, hnext⟩, rfl, ZU, rfl⟩
      refine jL (.bool true) (by kernel_rfl) (op_ne_span rfl (by kernel_rfl) (by kernel_rfl) (decide_eq_false (h3))) (vR (zB (Zt (ZO (Zv (.bool false) (ZN (zF (zH (zA ?_)))))))))
      exact yT (zH (zA (ZF (.bool false) Tryz.results31 (fun w hO => ⟨by rw [decide_eq_false (show ¬ a = b from fun e => by subst e; first | omega | exact absurd (hs.symm.trans ht) (by assumption))], hO.below⟩))))
    refine Zd (p := (k : Int) < (a.length : Int)) false (decide_eq_false (h2)) (ZX (y8 (z8 (zQ (zG (zB (ZO (Zv (.bool true) ?_))))))))
    exact ZN (zF (ZF (.bool true) Tryz.results31 (fun w hO => ⟨by rw [decide_eq_true (show a = b from by have h := hrel.2; rwa [List.take_of_length_le (by omega), List.take_of_length_le (by omega)] at h)], hO.below⟩)))
  refine Zn (p := (a.length : Int) = (b.length : Int)) false (decide_eq_false (h1)) (ZY (ZO (Zv (.bool false) (ZN (zF (zA (ZF (.bool false) Tryz.results31 ?_)))))))
  exact fun w hO => ⟨by rw [decide_eq_false (show ¬ a = b from fun e => by subst e; first | omega | exact absurd (hs.symm.trans ht) (by assumption))], hO.below⟩
end
section
def kL (l : List Sp) : Bool := l.all (·.may)
theorem allMay_mem {l : List Sp} : kL l = true ↔ ∀ s ∈ l, s.may = true := by unfold kL; rw [List.all_eq_true]
theorem allMay_take (l : List Sp) (k : Nat) (hk : k < l.length) (h : kL (l.take k) = true) (hs : l[k].may = true) : kL (l.take (k + 1)) = true := by
  rw [allMay_mem] at h ⊢
  rw [List.take_succ_eq_append_getElem hk]
  intro x hx
  rcases List.mem_append.1 hx with hx | hx
  · exact h x hx
  · obtain rfl : x = l[k] := by simpa using hx
    exact hs
theorem allMay_not (l : List Sp) (k : Nat) (hk : k < l.length) (hs : l[k].may = false) : kL l = false := by
  cases h : kL l with
  | false => rfl
  | true => rw [allMay_mem.1 h _ (List.getElem_mem hk)] at hs; cases hs
end
section
theorem both_short {a b : List Sp} (ha : yU a) (hb : yU b) : yU (a ++ b) := fun s hs => by
  rcases List.mem_append.1 hs with h | h
  · exact ha s h
  · exact hb s h
end
section
end
section
def yH (a b : Cu) : Cu := if 0 < zN a b then b else a
def yL (a b : Cu) : Cu := if 0 < zN a b then a else b
theorem minC_may {a b : Cu} (ha : a.may = true) (hb : b.may = true) : (yH a b).may = true := by unfold yH; split <;> assumption
theorem fH {a b : Cu} (ha : a.may = true) (hb : b.may = true) : (yL a b).may = true := by unfold yL; split <;> assumption
theorem minC_lt {a b x : Cu} (ha : a.may = true) (hb : b.may = true) (hx : x.may = true) : decide (zN x (yH a b) < 0) = (decide (zN x a < 0) && decide (zN x b < 0)) := by
  rw [← Bool.decide_and]
  refine decide_eq_decide.2 ?_
  unfold yH
  split
  · rename_i h
    exact ⟨fun h2 => ⟨xB hx hb ha h2 (by have := xH (a := a) (b := b); omega), h2⟩, fun h2 => h2.2⟩
  · rename_i h
    exact ⟨fun h2 => ⟨h2, wG hx ha hb h2 (by omega)⟩, fun h2 => h2.1⟩
theorem maxC_le {a b x : Cu} (ha : a.may = true) (hb : b.may = true) (hx : x.may = true) : decide (zN (yL a b) x ≤ 0) = (decide (zN a x ≤ 0) && decide (zN b x ≤ 0)) := by
  rw [← Bool.decide_and]
  refine decide_eq_decide.2 ?_
  unfold yL
  split
  · rename_i h
    exact ⟨fun h2 => ⟨h2, qD hb ha hx (by have := xH (a := a) (b := b); omega) h2⟩, fun h2 => h2.1⟩
  · rename_i h
    exact ⟨fun h2 => ⟨qD ha hb hx (by omega) h2, h2⟩, fun h2 => h2.2⟩
theorem bF {c d : Cu} (h : zN c d < 0) : (Sp.mk c d).may = true := by
  unfold Sp.may
  have := dQ c d
  rw [decide_eq_true_eq]; show zN c d = -1; omega
theorem sp_not_of {c d : Cu} (h : (Sp.mk c d).may = false) : ¬ zN c d < 0 := fun h2 => by rw [bF h2] at h; cases h
theorem in_none {c d x : Cu} (hc : c.may = true) (hd : d.may = true) (hx : x.may = true) (h : ¬ zN c d < 0) : g6 ⟨c, d⟩ x = false := by
  unfold g6
  rw [Bool.and_eq_false_iff, decide_eq_false_iff_not, decide_eq_false_iff_not]
  by_cases h1 : zN c x ≤ 0
  · exact .inr fun h2 => h (nP hc hx hd h1 h2)
  · exact .inl h1
def gM (l : List Sp) (c d : Cu) : List Sp := if (Sp.mk c d).may then l ++ [⟨c, d⟩] else l
theorem add_ok {out : List Sp} {c d : Cu} (ho : zJ out = true) (hl : ∀ t ∈ out.getLast?, zN t.hi c < 0) : zJ (gM out c d) = true := by
  unfold gM
  split
  · exact jY ho (by assumption) hl
  · exact ho
theorem add_den {out : List Sp} {c d x : Cu} (hc : c.may = true) (hd : d.may = true) (hx : x.may = true) : den (gM out c d) x = (den out x || g6 ⟨c, d⟩ x) := by
  unfold gM
  split
  · rw [dN]; unfold den; simp
  · rename_i h
    rw [in_none hc hd hx (sp_not_of (by simpa using h)), Bool.or_false]
theorem add_last {out : List Sp} {c d : Cu} : ∀ t ∈ (gM out c d).getLast?, t = ⟨c, d⟩ ∨ (t ∈ out.getLast? ∧ ¬ zN c d < 0) := by
  unfold gM
  split
  · intro t ht
    rw [List.getLast?_concat] at ht
    exact .inl (Option.some.inj ht).symm
  · rename_i h
    exact fun t ht => .inr ⟨ht, sp_not_of (by simpa using h)⟩
theorem mM (l : List Sp) (c d : Cu) : (gM l c d).length ≤ l.length + 1 := by unfold gM; split <;> simp
def pM (p : List Sp × Cu) (s : Sp) : List Sp × Cu := (gM p.1 p.2 s.lo, s.hi)
def notG (l : List Sp) : List Sp := gM (l.foldl pM ([], zZ (-1))).1 (l.foldl pM ([], zZ (-1))).2 (zZ 1)
theorem bY (s : Sp) (l : List Sp) (x : Cu) : den (s :: l) x = (g6 s x || den l x) := by unfold den; rw [List.any_cons]
theorem bZ {s : Sp} {l : List Sp} {x : Cu} (h : zJ (s :: l) = true) (hx : x.may = true) (hlt : zN x s.hi ≤ 0) : den l x = false :=
  wE fun t ht => nP hx (zU (xD h)).2 (zU (x3 h t (List.mem_cons_of_mem _ ht))).1 hlt (kW h t ht)
theorem not_go : ∀ (l out : List Sp) (f : Cu), zJ l = true → zJ out = true → f.may = true → (∀ t ∈ out.getLast?, zN t.hi f < 0) → (∀ s ∈ l.head?, zN f s.lo ≤ 0) →
    zJ (gM (l.foldl pM (out, f)).1 (l.foldl pM (out, f)).2 (zZ 1)) = true ∧ ∀ x : Cu, x.may = true → zN x (zZ 1) < 0 → den (gM (l.foldl pM (out, f)).1 (l.foldl pM (out, f)).2 (zZ 1)) x = (den out x || (decide (zN f x ≤ 0) && !den l x))
  | [], out, f, hl, ho, hf, h1, h2 => ⟨add_ok ho h1, fun x hx he => by
      show den (gM out f (zZ 1)) x = _
      rw [add_den hf bS hx]
      unfold g6
      rw [decide_eq_true he]
      simp [den]⟩
  | s :: r, out, f, hl, ho, hf, h1, h2 => by
    have hs := xD hl
    obtain ⟨m1, m2⟩ := zU hs
    have hlt := jK hs
    have hfs : zN f s.lo ≤ 0 := h2 s rfl
    have ih := not_go r (gM out f s.lo) s.hi (kD hl) (add_ok ho h1) m2 (fun t ht => by
      rcases add_last t ht with rfl | ⟨h3, h4⟩
      · exact hlt
      · exact xB (zU (x3 ho t (List.mem_of_getLast? h3))).2 hf m2 (h1 t h3) (nP hf m1 m2 hfs hlt)) (fun t ht => by
        have := kW hl t (List.mem_of_mem_head? ht); omega)
    refine ⟨ih.1, fun x hx he => ?_⟩
    show den (gM (r.foldl pM (gM out f s.lo, s.hi)).1 (r.foldl pM (gM out f s.lo, s.hi)).2 (zZ 1)) x = _
    rw [ih.2 x hx he, add_den hf m1 hx, bY]
    unfold g6
    show (den out x || (decide (zN f x ≤ 0) && decide (zN x s.lo < 0)) || _) = _
    by_cases c1 : zN x s.lo < 0
    · have c2 : zN x s.hi < 0 := xB hx m1 m2 c1 hlt
      rw [decide_eq_true c1, bZ hl hx (by omega), decide_eq_false (show ¬ zN s.hi x ≤ 0 from by have := xH (a := x) (b := s.hi); omega), decide_eq_false (show ¬ zN s.lo x ≤ 0 from by have := xH (a := x) (b := s.lo); omega)]
      simp
    · rw [decide_eq_false c1]
      have c3 : zN s.lo x ≤ 0 := vO c1
      rw [decide_eq_true c3, decide_eq_true (qD hf m1 hx hfs c3)]
      by_cases c4 : zN x s.hi < 0
      · rw [decide_eq_true c4, decide_eq_false (show ¬ zN s.hi x ≤ 0 from by have := xH (a := x) (b := s.hi); omega)]
        simp
      · rw [decide_eq_false c4, decide_eq_true (vO c4)]
        simp
theorem notG_eq {l : List Sp} (h : zJ l = true) : notG l = vD l := by
  have h1 := not_go l [] (zZ (-1)) h rfl mF (fun t ht => by simp at ht) (fun s hs => fL (zU (x3 h s (List.mem_of_mem_head? hs))).1)
  have h2 := wV h
  refine hY _ _ h1.1 h2.1 fun c hc he => ?_
  rw [h2.2 c hc he]
  show den (gM _ _ _) c = _
  rw [h1.2 c hc he, decide_eq_true (fL hc)]
  simp [den]
def tC : Nat → List Sp → List Sp → List Sp → List Sp
  | n + 1, out, s :: a, u :: b => if s.hi = yH s.hi u.hi then tC n (gM out (yL s.lo u.lo) (yH s.hi u.hi)) a (u :: b) else tC n (gM out (yL s.lo u.lo) (yH s.hi u.hi)) (s :: a) b
  | _, out, _, _ => out
theorem min_is {a b : Cu} : a = yH a b ↔ zN a b ≤ 0 := by
  unfold yH
  split
  · rename_i h
    exact ⟨fun e => by have := kO a; rw [← e] at h; omega, fun h2 => by omega⟩
  · rename_i h
    exact ⟨fun _ => by omega, fun _ => rfl⟩
theorem maxC_ge {a b : Cu} (ha : a.may = true) (hb : b.may = true) : zN a (yL a b) ≤ 0 ∧ zN b (yL a b) ≤ 0 := by
  unfold yL
  split
  · rename_i h
    exact ⟨by rw [kO]; decide, by have := xH (a := a) (b := b); omega⟩
  · rename_i h
    exact ⟨by omega, by rw [kO]; decide⟩
theorem maxC_up {a b c d x : Cu} (ha : a.may = true) (hb : b.may = true) (hc : c.may = true) (hd : d.may = true) (hx : x.may = true) (h1 : zN a c ≤ 0) (h2 : zN b d ≤ 0) (h : zN x (yL a b) < 0) : zN x (yL c d) < 0 := by
  have g := maxC_ge hc hd
  have m := fH hc hd
  unfold yL at h
  split at h
  · exact wG hx ha m h (qD ha hc m h1 g.1)
  · exact wG hx hb m h (qD hb hd m h2 g.2)
theorem maxC_one {a b x : Cu} (ha : a.may = true) (hb : b.may = true) (hx : x.may = true) (h : zN x a < 0) : zN x (yL a b) < 0 := wG hx ha (fH ha hb) h (maxC_ge ha hb).1
theorem maxC_two {a b x : Cu} (ha : a.may = true) (hb : b.may = true) (hx : x.may = true) (h : zN x b < 0) : zN x (yL a b) < 0 := wG hx hb (fH ha hb) h (maxC_ge ha hb).2
theorem in_both {s u : Sp} {x : Cu} (hs : s.may = true) (hu : u.may = true) (hx : x.may = true) : g6 ⟨yL s.lo u.lo, yH s.hi u.hi⟩ x = (g6 s x && g6 u x) := by
  unfold g6
  rw [maxC_le (zU hs).1 (zU hu).1 hx, minC_lt (zU hs).2 (zU hu).2 hx]
  cases decide (zN s.lo x ≤ 0) <;> cases decide (zN u.lo x ≤ 0) <;> cases decide (zN x s.hi < 0) <;> cases decide (zN x u.hi < 0) <;> rfl
theorem and_go : ∀ (n : Nat) (out a b : List Sp), a.length + b.length ≤ n → zJ out = true → zJ a = true → zJ b = true → (∀ t ∈ out.getLast?, ∀ s ∈ a.head?, ∀ u ∈ b.head?, zN t.hi (yL s.lo u.lo) < 0) →
    zJ (tC n out a b) = true ∧ ∀ x : Cu, x.may = true → den (tC n out a b) x = (den out x || (den a x && den b x))
  | 0, out, a, b, hn, ho, ha, hb, hl => by
    obtain rfl : a = [] := List.eq_nil_of_length_eq_zero (by omega)
    exact ⟨ho, fun x _ => by simp [tC, den]⟩
  | n + 1, out, [], b, hn, ho, ha, hb, hl => ⟨ho, fun x _ => by simp [tC, den]⟩
  | n + 1, out, s :: a, [], hn, ho, ha, hb, hl => ⟨ho, fun x _ => by simp [tC, den]⟩
  | n + 1, out, s :: a, u :: b, hn, ho, ha, hb, hl => by
    have hs := xD ha
    have hu := xD hb
    obtain ⟨s1, s2⟩ := zU hs
    obtain ⟨u1, u2⟩ := zU hu
    have ho2 := add_ok (d := yH s.hi u.hi) ho (fun t ht => hl t ht s rfl u rfl)
    have mx := fH s1 u1
    have mn := minC_may s2 u2
    have hout : ∀ t ∈ out.getLast?, t.hi.may = true := fun t ht => (zU (x3 ho t (List.mem_of_getLast? ht))).2
    unfold tC
    split
    · rename_i h
      have hle := min_is.1 h
      have ih := and_go n (gM out (yL s.lo u.lo) (yH s.hi u.hi)) a (u :: b) (by simp at hn ⊢; omega) ho2 (kD ha) hb (fun t ht s' hs' u' hu' => by
        obtain rfl : u = u' := Option.some.inj hu'
        have hsa := kW ha s' (List.mem_of_mem_head? hs')
        have ms' := (zU (x3 ha s' (List.mem_cons_of_mem _ (List.mem_of_mem_head? hs')))).1
        rcases add_last t ht with rfl | ⟨h3, h4⟩
        · show zN (yH s.hi u.hi) _ < 0
          rw [← h]
          exact maxC_one ms' u1 s2 hsa
        · exact maxC_up s1 u1 ms' u1 (hout t h3) (by have := xB s1 s2 ms' (jK hs) hsa; omega) (by rw [kO]; decide) (hl t h3 s rfl u rfl))
      refine ⟨ih.1, fun x hx => ?_⟩
      rw [ih.2 x hx, add_den mx mn hx, in_both hs hu hx, bY s, bY u]
      cases hi : g6 s x with
      | false => simp
      | true =>
        have hxs : zN x s.hi < 0 := by unfold g6 at hi; simp at hi; exact hi.2
        rw [bZ hb hx (by have := wG hx s2 u2 hxs hle; omega), bZ ha hx (by omega)]
        simp
    · rename_i h
      have hgt : ¬ zN s.hi u.hi ≤ 0 := fun h2 => h (min_is.2 h2)
      have hlt : zN u.hi s.hi < 0 := clt_flip hgt
      have hmin : yH s.hi u.hi = u.hi := by unfold yH; rw [if_pos (by omega)]
      have ih := and_go n (gM out (yL s.lo u.lo) (yH s.hi u.hi)) (s :: a) b (by simp at hn ⊢; omega) ho2 ha (kD hb) (fun t ht s' hs' u' hu' => by
        obtain rfl : s = s' := Option.some.inj hs'
        have hub := kW hb u' (List.mem_of_mem_head? hu')
        have mu' := (zU (x3 hb u' (List.mem_cons_of_mem _ (List.mem_of_mem_head? hu')))).1
        rcases add_last t ht with rfl | ⟨h3, h4⟩
        · show zN (yH s.hi u.hi) _ < 0
          rw [hmin]
          exact maxC_two s1 mu' u2 hub
        · exact maxC_up s1 u1 s1 mu' (hout t h3) (by rw [kO]; decide) (by have := xB u1 u2 mu' (jK hu) hub; omega) (hl t h3 s rfl u rfl))
      refine ⟨ih.1, fun x hx => ?_⟩
      rw [ih.2 x hx, add_den mx mn hx, in_both hs hu hx, bY s, bY u]
      cases hi : g6 u x with
      | false => simp
      | true =>
        have hxu : zN x u.hi < 0 := by unfold g6 at hi; simp at hi; exact hi.2
        rw [bZ ha hx (by have := xB hx u2 s2 hxu hlt; omega), bZ hb hx (by omega)]
        cases g6 s x <;> simp
theorem andG_eq {a b : List Sp} (ha : zJ a = true) (hb : zJ b = true) : tC (a.length + b.length) [] a b = f5 a b := by
  have h1 := and_go (a.length + b.length) [] a b (Nat.le_refl _) rfl ha hb (fun t ht => by simp at ht)
  have h2 := and_ok ha hb
  refine hY _ _ h1.1 h2.1 fun c hc he => ?_
  rw [h2.2 c hc he, h1.2 c hc]
  simp [den]
def vB (out : List Sp) (s : Sp) : List Sp :=
  match out.getLast? with
  | none => [s]
  | some t => if zN t.hi s.lo < 0 then out ++ [s] else out.dropLast ++ [⟨t.lo, yL t.hi s.hi⟩]
theorem in_merge {s t : Sp} {x : Cu} (hs : s.may = true) (ht : t.may = true) (hx : x.may = true) (h1 : zN t.lo s.lo ≤ 0) (h2 : zN s.lo t.hi ≤ 0) : g6 ⟨t.lo, yL t.hi s.hi⟩ x = (g6 t x || g6 s x) := by
  obtain ⟨s1, s2⟩ := zU hs
  obtain ⟨t1, t2⟩ := zU ht
  unfold g6
  show (decide (zN t.lo x ≤ 0) && decide (zN x (yL t.hi s.hi) < 0)) = _
  by_cases c1 : zN t.lo x ≤ 0
  · rw [decide_eq_true c1]
    unfold yL
    split
    · rename_i h
      by_cases c2 : zN x s.hi < 0
      · rw [decide_eq_true (show zN x t.hi < 0 from xB hx s2 t2 c2 (by have := xH (a := t.hi) (b := s.hi); omega))]; simp
      · rw [decide_eq_false c2]; simp
    · rename_i h
      by_cases c2 : zN x t.hi < 0
      · rw [decide_eq_true c2, decide_eq_true (show zN x s.hi < 0 from wG hx t2 s2 c2 (by omega))]; simp
      · rw [decide_eq_false c2, decide_eq_true (show zN s.lo x ≤ 0 from qD s1 t2 hx h2 (vO c2))]; simp
  · rw [decide_eq_false c1, decide_eq_false (show ¬ zN s.lo x ≤ 0 from fun h => c1 (qD t1 s1 hx h1 h))]; simp
theorem mstep_ok {out : List Sp} {s : Sp} (ho : zJ out = true) (hs : s.may = true) (hl : ∀ t ∈ out.getLast?, zN t.lo s.lo ≤ 0) :
    zJ (vB out s) = true ∧ (∀ t ∈ (vB out s).getLast?, t.lo = s.lo ∨ ∃ t' ∈ out.getLast?, t.lo = t'.lo) ∧ ∀ x : Cu, x.may = true → den (vB out s) x = (den out x || g6 s x) := by
  unfold vB
  cases hg : out.getLast? with
  | none =>
    have : out = [] := by simpa using hg
    subst this
    refine ⟨jY (l := []) rfl hs (fun t ht => by simp at ht), fun t ht => ?_, fun x _ => by simp [den]⟩
    obtain rfl : s = t := by simpa using ht
    exact .inl rfl
  | some t =>
    have hlo := hl t hg
    have hsp := last_split hg
    have htm := x3 ho t (List.mem_of_getLast? hg)
    obtain ⟨s1, s2⟩ := zU hs
    obtain ⟨t1, t2⟩ := zU htm
    dsimp only
    split
    · rename_i h
      refine ⟨jY ho hs (fun t' ht' => by rw [hg] at ht'; obtain rfl := Option.some.inj ht'; exact h), fun t' ht' => ?_, fun x _ => by rw [dN]; simp [den]⟩
      rw [List.getLast?_concat] at ht'
      obtain rfl := Option.some.inj ht'
      exact .inl rfl
    · rename_i h
      have hi := row_init (hsp ▸ ho)
      have hmay : (Sp.mk t.lo (yL t.hi s.hi)).may = true := bF (wG t1 t2 (fH t2 s2) (jK htm) (maxC_ge t2 s2).1)
      refine ⟨jY hi.1 hmay (fun x hx => hi.2 x hx), fun t' ht' => ?_, fun x hx => ?_⟩
      · rw [List.getLast?_concat] at ht'
        obtain rfl := Option.some.inj ht'
        exact .inr ⟨t, rfl, rfl⟩
      · rw [dN]
        conv => rhs; rw [hsp, dN]
        have e := in_merge hs htm hx hlo (vO h)
        simp only [den, List.any_cons, List.any_nil, Bool.or_false] at e ⊢
        rw [e, Bool.or_assoc]
def dV : List Sp → Prop
  | [] => True
  | s :: r => (∀ t ∈ r, zN s.lo t.lo ≤ 0) ∧ dV r
theorem merge_go : ∀ (l out : List Sp), (∀ s ∈ l, s.may = true) → dV l → zJ out = true → (∀ t ∈ out.getLast?, ∀ s ∈ l, zN t.lo s.lo ≤ 0) →
    zJ (l.foldl vB out) = true ∧ ∀ x : Cu, x.may = true → den (l.foldl vB out) x = (den out x || den l x)
  | [], out, _, _, ho, _ => ⟨ho, fun x _ => by simp [den]⟩
  | s :: r, out, hm, hso, ho, hl => by
    have h1 := mstep_ok ho (hm s (List.mem_cons_self ..)) (fun t ht => hl t ht s (List.mem_cons_self ..))
    have ih := merge_go r (vB out s) (fun t ht => hm t (List.mem_cons_of_mem _ ht)) hso.2 h1.1 (fun t ht u hu => by
      rcases h1.2.1 t ht with e | ⟨t', ht', e⟩
      · rw [e]; exact hso.1 u hu
      · rw [e]; exact hl t' ht' u (List.mem_cons_of_mem _ hu))
    refine ⟨ih.1, fun x hx => ?_⟩
    show den (r.foldl vB (vB out s)) x = _
    rw [ih.2 x hx, h1.2.2 x hx, bY, Bool.or_assoc]
theorem merge_eq {l d : List Sp} (hm : ∀ s ∈ l, s.may = true) (hp : d.Perm l) (hs : dV d) : d.foldl vB [] = wR l := by
  have hmd : ∀ s ∈ d, s.may = true := fun s h => hm s (hp.mem_iff.1 h)
  have h1 := merge_go d [] hmd hs rfl (fun t ht => by simp at ht)
  have h2 := pN hm
  refine hY _ _ h1.1 h2.1 fun c hc he => ?_
  rw [h2.2 c hc he, h1.2 c hc]
  show (false || den d c) = den l c
  rw [Bool.false_or]
  unfold den
  exact hp.any_eq
theorem mstep_len (out : List Sp) (s : Sp) : (vB out s).length ≤ out.length + 1 := by
  unfold vB
  split
  · simp
  · split
    · simp
    · first | (simp; done) | (simp; omega)
end
section
theorem tW (c : UInt8) : ∀ s : List UInt8, s.length = (zS c s).1.length + (if (zS c s).2.2 then 1 + (zS c s).2.1.length else 0)
  | [] => rfl
  | b :: r => by
    unfold zS
    have ih := tW c r
    by_cases h : b = c
    · first | (simp [h]; done) | (subst h; simp; omega) | (simp [h]; omega)
    · first | (simp [h] at ih ⊢; omega) | (simp [h, Ne.symm h] at ih ⊢; omega)
theorem cutGo_short : ∀ (n : Nat) (s : List UInt8), (g7 n s).2 = true → s.length ≤ 9 * n
  | 0, s, h => by simp [g7] at h
  | n + 1, s, h => by
    have hl := tW 46 s
    cases ht : q9 (zS 46 s).1 with
    | false => rw [cutGo_bad n s ht] at h; cases h
    | true =>
      have h8 : (zS 46 s).1.length ≤ 8 := Nat.le_of_not_lt fun h2 => by rw [tagOk_long h2] at ht; cases ht
      cases hm : (zS 46 s).2.2 with
      | false => rw [hm] at hl; simp at hl; omega
      | true =>
        rw [cutGo_on n s ht hm] at h
        have ih := cutGo_short n _ h
        rw [hm] at hl; simp at hl; omega
theorem fF {s : List UInt8} (h : vG s = true) : s.length ≤ 36 := by
  rw [preOk_lst, Bool.and_eq_true] at h
  have h1 := h.1
  unfold lst at h1
  split at h1
  · rename_i h0
    have : s = [] := by simpa using h0
    subst this; exact Nat.zero_le _
  · have := cutGo_short _ _ h1; omega
theorem may_short {v : Ver} (h : v.may = true) (hb : v.build = []) : v.short := ⟨by have := fF (dI h); omega, by rw [hb]; exact Nat.zero_le _⟩
theorem cu_short {c : Cu} (h : c.may = true) : c.short := may_short (wA h) (qB h)
theorem sp_short {s : Sp} (h : s.may = true) : s.short := ⟨cu_short (zU h).1, cu_short (zU h).2⟩
structure RF (l : List Sp) (n : Nat) : Prop where
  may : zJ l = true
  len : l.length ≤ n
theorem RF.short {l : List Sp} {n : Nat} (h : RF l n) : yU l := fun s hs => sp_short (x3 h.may s hs)
theorem cuts_len {l : List Sp} (hl : ∀ s ∈ l, s.may = true) : (qJ l).length ≤ 2 + 2 * l.length := by
  have h := (cuts_size l (fun s hs => sp_short (hl s hs)) l.length (Nat.le_refl _)).1
  rwa [List.take_length] at h
section
variable {a b c : List Sp} (ha : zJ a = true) (hb : zJ b = true) (hc : zJ c = true)
include ha in
theorem not_not4 : vD (vD a) = a := hY _ _ (wV (wV ha).1).1 ha fun x hx he => by
  rw [(wV (wV ha).1).2 x hx he, (wV ha).2 x hx he, Bool.not_not]
include ha hb in
end
end
section
section
variable {M : List Nat} {P : Program} {n : Nat} {W : World} {Q : Exit → Act → World → Prop} {L : List Blk} {f : Nat → Value}
theorem wZ {fn : Func} {R : Ending → World → Prop} {p q : Tmp} {ty tz : TypeId} (i j : Nat) (x y : Blk) {off oft : Nat} (v v' : Value) (hres : fn.results = #[.cell p ty, .cell q tz]) (hL : L[i]? = some x) (hL' : L[j]? = some y)
    (hp : ev n f (.tmp p) = .pointer (some ⟨x.b, off, none⟩)) (hq : ev n f (.tmp q) = .pointer (some ⟨y.b, oft, none⟩)) (hv : kQ P ty x.cs off = some v) (hv' : kQ P tz y.cs oft = some v') (hR : ∀ w, Own M W w L → R (.returned (.tuple #[v, v'])) w) : Fin M n W (bodyPost P fn R) .ret L f := ⟨fun w hO => by
  refine bodyPost_ret (v := .tuple #[v, v']) ?_ rfl (hR w hO)
  have e : (Fr n f).tmps.getD p undef = .pointer (some ⟨x.b, off, none⟩) := (qO n f p).trans hp
  have e' : (Fr n f).tmps[p]?.getD undef = .pointer (some ⟨x.b, off, none⟩) := by simpa using e
  have e2 : (Fr n f).tmps.getD q undef = .pointer (some ⟨y.b, oft, none⟩) := (qO n f q).trans hq
  have e2' : (Fr n f).tmps[q]?.getD undef = .pointer (some ⟨y.b, oft, none⟩) := by simpa using e2
  have h1 := qF hv (hO.get hL)
  have h2 := qF hv' (hO.get hL')
  simp [results, hres, e', e2', asAddr, h1, h2]⟩
def JoinQ (M : List Nat) (n : Nat) (W : World) (R : List Blk → (Nat → Value) → Prop) : Exit → Act → World → Prop
  | .normal, a, w => ∃ L f, R L f ∧ Own M W w L ∧ a = Fr n f
  | _, _, _ => False
theorem yA {R : List Blk → (Nat → Value) → Prop} : PQ (JoinQ M n W R) := fun c a d v w h => h
theorem ok_join {c : Code} (R : List Blk → (Nat → Value) → Prop) (h1 : Ok M P n W (JoinQ M n W R) c L f) (h2 : ∀ L f, R L f → Fin M n W Q .normal L f) : Ok M P n W Q c L f := ⟨fun w hO =>
  Code.wp_mono (fun e a w h => by
    cases e with
    | normal =>
      obtain ⟨L', f', hR, hO', rfl⟩ := h
      exact (h2 L' f' hR).go w hO'
    | _ => exact absurd h id) (h1.go w hO)⟩
theorem xN {R : List Blk → (Nat → Value) → Prop} (h : R L f) : Fin M n W (JoinQ M n W R) .normal L f := ⟨fun w hO => ⟨L, f, h, hO, rfl⟩⟩
end
theorem Reads.tail {α : Type} {g : α → List Value} {sz : Nat} (hg : ∀ x, (g x).length = sz) {w : World} {B b off c : Nat} {x : α} {l : List α} (h : Reads g w B (some ⟨b, off, none⟩) (x :: l)) (hc : l.length < c) : Reads g w B (some ⟨b, off + (if c = (1 : Int).toNat then 0 else (1 : Int).toNat * sz), none⟩) l := fun h0 => by
  obtain ⟨b', off', e, hlt, hcell⟩ := h (by simp)
  obtain ⟨rfl, rfl⟩ : b = b' ∧ off = off' := by simp at e; exact e
  refine ⟨b, _, rfl, hlt, fun k u hk => ?_⟩
  rw [if_neg (by show ¬ c = 1; omega)]
  have := hcell (sz + k) u (by rw [List.flatMap_cons, List.getElem?_append_right (by rw [hg]; omega), hg]; rw [show sz + k - sz = k from by omega]; exact hk)
  rw [show off + (1 : Int).toNat * sz + k = off + (sz + k) from by show off + 1 * sz + k = _; omega]
  exact this
end
section
theorem nI {a b : Cu} (ha : a.short) (hb : b.short) : (yH a b).short := by unfold yH; split <;> assumption
theorem dJ {a b : Cu} (ha : a.short) (hb : b.short) : (yL a b).short := by unfold yL; split <;> assumption
theorem gR (a b : Cu) (W : World) (ha : a.short) (hb : b.short) :
    Calls Tryz.prog 150 #[zC a, zC b] W fun e w' => e = .returned (.tuple #[zC (yH a b), zC (yL a b)]) ∧ Below W.heap.size W w' := by
  refine zR (n := 14) Tryz.func150 rfl (by kernel_rfl) (by kernel_rfl) (ZO (Zb (zC a) (fun b1 => Zb (zC b) (fun b2 => Za (.agg #[.int .i64 0, .int .i64 0, .int .i64 0, .int .i64 0, .string ⟨#[]⟩, .string ⟨#[]⟩, .bool false]) (fun b3 => Za (.agg #[.int .i64 0, .int .i64 0, .int .i64 0, .int .i64 0, .string ⟨#[]⟩, .string ⟨#[]⟩, .bool false]) (fun b4 => ZN (z6 (z6 (z7 ?_)))))))))
  refine Zl 3 ⟨b1, (zC a).cells, 72⟩ (off := 0) (zC a) (Zl 2 ⟨b2, (zC b).cells, 72⟩ (off := 0) (zC b) (Zc (k := 66) (args := #[zC a, zC b]) (.int .i64 (zN a b)) (fun w _ => fQ a b w ha hb) ?_))
  by_cases h1 : (0 : Int) < zN a b
  · refine yS (p := (0 : Int) < zN a b) true (by kernel_rfl) (fun _ => by kernel_rfl) (decide_eq_true (h1)) ?_
    refine ZY (z6 (gI [⟨b2, (zC b).cells, 72⟩, ⟨b1, (zC a).cells, 72⟩] (by kernel_rfl) (fun w hO => Own.sub [⟨b4, #[.int .i64 0, .int .i64 0, .int .i64 0, .int .i64 0, .string ⟨#[]⟩, .string ⟨#[]⟩, .bool false], 72⟩, ⟨b3, #[.int .i64 0, .int .i64 0, .int .i64 0, .int .i64 0, .string ⟨#[]⟩, .string ⟨#[]⟩, .bool false], 72⟩] hO) (ZL 0 [⟨b4, #[.int .i64 0, .int .i64 0, .int .i64 0, .int .i64 0, .string ⟨#[]⟩, .string ⟨#[]⟩, .bool false], 72⟩, ⟨b3, #[.int .i64 0, .int .i64 0, .int .i64 0, .int .i64 0, .string ⟨#[]⟩, .string ⟨#[]⟩, .bool false], 72⟩] _ 0 ⟨b2, (zC b).cells, 72⟩ (off := 0) (zC b) (zK (zK zO)) rfl rfl (ZL 1 [⟨b4, #[.int .i64 0, .int .i64 0, .int .i64 0, .int .i64 0, .string ⟨#[]⟩, .string ⟨#[]⟩, .bool false], 72⟩, ⟨b3, #[.int .i64 0, .int .i64 0, .int .i64 0, .int .i64 0, .string ⟨#[]⟩, .string ⟨#[]⟩, .bool false], 72⟩] _ 1 ⟨b1, (zC a).cells, 72⟩ (off := 0) (zC a) (zK (zK zO)) rfl rfl (y6 2 (by kernel_rfl) (ZS [⟨b4, #[.int .i64 0, .int .i64 0, .int .i64 0, .int .i64 0, .string ⟨#[]⟩, .string ⟨#[]⟩, .bool false], 72⟩, ⟨b3, #[.int .i64 0, .int .i64 0, .int .i64 0, .int .i64 0, .string ⟨#[]⟩, .string ⟨#[]⟩, .bool false], 72⟩] _ 1 ⟨b3, #[.int .i64 0, .int .i64 0, .int .i64 0, .int .i64 0, .string ⟨#[]⟩, .string ⟨#[]⟩, .bool false], 72⟩ (off := 0) (zC b) rfl rfl (y6 3 (by kernel_rfl) (ZS [⟨b4, #[.int .i64 0, .int .i64 0, .int .i64 0, .int .i64 0, .string ⟨#[]⟩, .string ⟨#[]⟩, .bool false], 72⟩, ⟨b3, (zC b).cells, 72⟩] _ 0 ⟨b4, #[.int .i64 0, .int .i64 0, .int .i64 0, .int .i64 0, .string ⟨#[]⟩, .string ⟨#[]⟩, .bool false], 72⟩ (off := 0) (zC a) rfl rfl (x7 (by kernel_rfl) ?_)))))))))
    exact zB (zF (zA (wZ 1 0 ⟨b3, (zC b).cells, 72⟩ ⟨b4, (zC a).cells, 72⟩ (off := 0) (oft := 0) (zC b) (zC a) Tryz.results150 (by kernel_rfl) (by kernel_rfl) (by kernel_rfl) (by kernel_rfl) (by kernel_rfl) (by kernel_rfl) (fun w hO => ⟨by unfold yH yL; simp only [h1, if_true, if_false], hO.below⟩))))
  refine Zd (p := (0 : Int) < zN a b) false (decide_eq_false (h1)) (ZX (ZB (z6 (gI [⟨b2, (zC b).cells, 72⟩, ⟨b1, (zC a).cells, 72⟩] (by kernel_rfl) (fun w hO => Own.sub [⟨b4, #[.int .i64 0, .int .i64 0, .int .i64 0, .int .i64 0, .string ⟨#[]⟩, .string ⟨#[]⟩, .bool false], 72⟩, ⟨b3, #[.int .i64 0, .int .i64 0, .int .i64 0, .int .i64 0, .string ⟨#[]⟩, .string ⟨#[]⟩, .bool false], 72⟩] hO) (ZL 0 [⟨b4, #[.int .i64 0, .int .i64 0, .int .i64 0, .int .i64 0, .string ⟨#[]⟩, .string ⟨#[]⟩, .bool false], 72⟩, ⟨b3, #[.int .i64 0, .int .i64 0, .int .i64 0, .int .i64 0, .string ⟨#[]⟩, .string ⟨#[]⟩, .bool false], 72⟩] _ 1 ⟨b1, (zC a).cells, 72⟩ (off := 0) (zC a) (zK zO) rfl rfl (ZL 1 [⟨b4, #[.int .i64 0, .int .i64 0, .int .i64 0, .int .i64 0, .string ⟨#[]⟩, .string ⟨#[]⟩, .bool false], 72⟩, ⟨b3, #[.int .i64 0, .int .i64 0, .int .i64 0, .int .i64 0, .string ⟨#[]⟩, .string ⟨#[]⟩, .bool false], 72⟩] _ 0 ⟨b2, (zC b).cells, 72⟩ (off := 0) (zC b) (zK zO) rfl rfl (y6 2 (by kernel_rfl) (ZS [⟨b4, #[.int .i64 0, .int .i64 0, .int .i64 0, .int .i64 0, .string ⟨#[]⟩, .string ⟨#[]⟩, .bool false], 72⟩, ⟨b3, #[.int .i64 0, .int .i64 0, .int .i64 0, .int .i64 0, .string ⟨#[]⟩, .string ⟨#[]⟩, .bool false], 72⟩] _ 1 ⟨b3, #[.int .i64 0, .int .i64 0, .int .i64 0, .int .i64 0, .string ⟨#[]⟩, .string ⟨#[]⟩, .bool false], 72⟩ (off := 0) (zC a) rfl rfl ?_))))))))
  exact y6 3 (by kernel_rfl) (ZS [⟨b4, #[.int .i64 0, .int .i64 0, .int .i64 0, .int .i64 0, .string ⟨#[]⟩, .string ⟨#[]⟩, .bool false], 72⟩, ⟨b3, (zC a).cells, 72⟩] _ 0 ⟨b4, #[.int .i64 0, .int .i64 0, .int .i64 0, .int .i64 0, .string ⟨#[]⟩, .string ⟨#[]⟩, .bool false], 72⟩ (off := 0) (zC b) rfl rfl (x7 (by kernel_rfl) (zB (zF (wZ 1 0 ⟨b3, (zC a).cells, 72⟩ ⟨b4, (zC b).cells, 72⟩ (off := 0) (oft := 0) (zC a) (zC b) Tryz.results150 (by kernel_rfl) (by kernel_rfl) (by kernel_rfl) (by kernel_rfl) (by kernel_rfl) (by kernel_rfl) (fun w hO => ⟨by unfold yH yL; simp only [h1, if_true, if_false], hO.below⟩))))))
def idxP (v : Ver) : List Sp → Int → Int
  | [], _ => -1
  | s :: r, k => if holdsC s v then k else idxP v r (k + 1)
end
section
theorem may_drop : ∀ (a b : List Sp), zJ (a ++ b) = true → zJ b = true
  | [], _, h => h
  | _ :: a, b, h => may_drop a b (kD h)
theorem may_take_bad {l : List Sp} {k : Nat} (hk : k < l.length) (h : l[k].may = false) : zJ l = false := by
  cases h2 : zJ l with
  | false => rfl
  | true => rw [x3 h2 _ (List.getElem_mem hk)] at h; cases h
theorem may_step {l : List Sp} {k : Nat} (hk : k < l.length) (h : zJ (l.take k) = true) (hs : l[k].may = true) (hp : 0 < k → zN (l[k - 1]'(by omega)).hi l[k].lo < 0) : zJ (l.take (k + 1)) = true := by
  rw [List.take_succ_eq_append_getElem hk]
  refine jY h hs (fun s hs2 => ?_)
  by_cases h0 : k = 0
  · subst h0; simp at hs2
  · have e : s = l[k - 1]'(by omega) := by
      rw [List.getLast?_eq_getElem?, List.length_take, Nat.min_eq_left (by omega), List.getElem?_take, if_pos (by omega), List.getElem?_eq_getElem (by omega)] at hs2
      exact (Option.some.inj hs2).symm
    rw [e]; exact hp (by omega)
theorem may_not {l : List Sp} {k : Nat} (hk : k < l.length) (h0 : 0 < k) (h : ¬ zN (l[k - 1]'(by omega)).hi l[k].lo < 0) : zJ l = false := by
  cases h2 : zJ l with
  | false => rfl
  | true =>
    refine absurd ?_ h
    have e : l = l.take (k - 1) ++ (l[k - 1]'(by omega)) :: l[k] :: l.drop (k + 1) := by
      have e1 := (List.take_append_drop (k - 1) l).symm
      rw [List.drop_eq_getElem_cons (show k - 1 < l.length by omega)] at e1
      have e2 : l.drop (k - 1 + 1) = l[k] :: l.drop (k + 1) := by
        rw [show k - 1 + 1 = k from by omega, List.drop_eq_getElem_cons hk]
      rw [e2] at e1; exact e1
    have h3 : zJ ((l[k - 1]'(by omega)) :: l[k] :: l.drop (k + 1)) = true := may_drop (l.take (k - 1)) _ (e ▸ h2)
    exact kW h3 _ (List.mem_cons_self ..)
theorem vJ (A : Option Addr) (cap : Nat) (l : List Sp) (W : World) (hv : Reads yR W W.heap.size A l) (hn : l.length ≤ 1000000) (hl : yU l) :
    Calls Tryz.prog 39 #[.slice A l.length cap] W fun e w' => e = .returned (.bool (zJ l)) ∧ Below W.heap.size W w' := by
  refine zR (n := 30) Tryz.func39 rfl (by kernel_rfl) (by kernel_rfl) (ZO (Zv (.bool false) (ZN (z6 (ZO (Zv (.slice A l.length cap) (Zv (.int .i64 (l.length : Int)) (Zv (.int .i64 0) ?_))))))))
  refine ZN (zL (xA (fun L f m => ∃ (k : Nat) (j : Nat → Value), (k ≤ l.length ∧ zJ (l.take k) = true) ∧ L = [] ∧ f = g9 j [(0, .slice A l.length cap), (5, .slice A l.length cap), (6, .int .i64 (l.length : Int)), (7, .int .i64 (k : Int))] ∧ m = l.length - k) (l.length - 0) ⟨0, _, ⟨Nat.zero_le _, by rw [List.take_zero]; rfl⟩, rfl, ZU, rfl⟩ ?_))
  rintro L f m ⟨k, j, hrel, rfl, rfl, rfl⟩
  have hkl := hrel.1
  refine z6 (z7 ?_)
  by_cases h1 : (k : Int) < (l.length : Int)
  · have hk : k < l.length := by omega
    obtain ⟨b, off, hA, hlt, hcell⟩ := hv (by omega)
    obtain ⟨s, hs⟩ : ∃ s, l[k] = s := ⟨_, rfl⟩
    have hsk : s.short := hs ▸ hl l[k] (List.getElem_mem hk)
    refine Zd (p := (k : Int) < (l.length : Int)) true (decide_eq_true (h1)) (ZN (z6 (Zt (ZB (z6 (zL (ZO (Zv (.int .i64 (k : Int)) ?_))))))))
    refine zW (.pointer (some ⟨b, off + k * 14, none⟩)) (by kernel_rfl) (ZA (b := b) (off := off) (c := cap) (n := l.length) (k := .i64) (j := (k : Int)) (e := 74) (sz := 14) hA) (Zo (zM s) (a := ⟨b, off + k * 14, none⟩) (fun w hO => xG yC (fun j u h => (hO.below.cell (p := ⟨b, off + j, none⟩) hlt).trans (hcell j u h)) k 0 hk (by omega) _ (by rw [hs]; kernel_rfl)) (Za (.agg #[.int .i64 0, .int .i64 0, .int .i64 0, .int .i64 0, .string ⟨#[]⟩, .string ⟨#[]⟩, .bool false, .int .i64 0, .int .i64 0, .int .i64 0, .int .i64 0, .string ⟨#[]⟩, .string ⟨#[]⟩, .bool false]) (fun b1 => Zv (.int .i64 (k : Int)) (Zs 0 ⟨b1, #[.int .i64 0, .int .i64 0, .int .i64 0, .int .i64 0, .string ⟨#[]⟩, .string ⟨#[]⟩, .bool false, .int .i64 0, .int .i64 0, .int .i64 0, .int .i64 0, .string ⟨#[]⟩, .string ⟨#[]⟩, .bool false], 74⟩ (off := 0) (zM s) (ZN (z6 (ZO (Zl 0 ⟨b1, (zM s).cells, 74⟩ (off := 0) (zM s) (Zc (k := 65) (args := #[zM s]) (.bool s.may) (fun w _ => wN s w hsk) ?_)))))))))
    cases h2 : s.may with
    | true =>
      refine Zv (.bool false) (ZX (ZB (z6 (mA (by kernel_rfl) (by kernel_rfl) (Zw (.int .i64 (k : Int)) ?_)))))
      by_cases h3 : (0 : Int) < (k : Int)
      · have hk1 : k - 1 < l.length := by omega
        obtain ⟨p, hp⟩ : ∃ p, l[k - 1] = p := ⟨_, rfl⟩
        have hpk : p.short := hp ▸ hl l[k - 1] (List.getElem_mem hk1)
        refine Ze (p := (0 : Int) < (k : Int)) true (decide_eq_true (h3)) (Zw (.bool true) (Zw (.slice A l.length cap) (Zw (.int .i64 (k : Int)) (q_sum (k := .i64) (((k : Int) : Int) - 1) (by kernel_rfl) (fun _ => by kernel_rfl) (IntWalk.i64_in _ (by omega)) (jL (.pointer (some ⟨b, off + (k - 1) * 14, none⟩)) (by kernel_rfl) (ZA (b := b) (off := off) (c := cap) (n := l.length) (k := .i64) (j := (k : Int) - 1) (e := 74) (sz := 14) hA) (Zw (.pointer (some ⟨b, off + (k - 1) * 14 + 7, none⟩)) (q_old (zC p.hi) (a := ⟨b, off + (k - 1) * 14 + 7, none⟩) (by kernel_rfl) rfl (by kernel_rfl) (fun w hO => xG yC (fun j u h => (hO.below.cell (p := ⟨b, off + j, none⟩) hlt).trans (hcell j u h)) (k - 1) 7 (by omega) (by omega) _ (by rw [hp]; kernel_rfl)) (Zw (.pointer (some ⟨b1, 0, none⟩)) (Zm 0 ⟨b1, (zM s).cells, 74⟩ (off := 0) (.agg #[.int .i64 s.lo.e, .int .i64 s.lo.v.maj, .int .i64 s.lo.v.min, .int .i64 s.lo.v.pat, .string (mkS s.lo.v.pre), .string (mkS s.lo.v.build), .bool s.lo.aft]) (Zq (k := 66) (args := #[zC p.hi, .agg #[.int .i64 s.lo.e, .int .i64 s.lo.v.maj, .int .i64 s.lo.v.min, .int .i64 s.lo.v.pat, .string (mkS s.lo.v.pre), .string (mkS s.lo.v.build), .bool s.lo.aft]]) (.int .i64 (zN p.hi s.lo)) (fun w _ => fQ p.hi s.lo w hpk.2 hsk.1) ?_))))))))))
        by_cases h4 : (0 : Int) ≤ zN p.hi s.lo
        · refine q_dec (p := (0 : Int) ≤ zN p.hi s.lo) true (by kernel_rfl) (fun _ => by kernel_rfl) (decide_eq_true (h4)) ?_
          refine Zw (.bool true) (vR (zB (Zt (ZO (Zv (.bool false) (ZN (zF (zH (zA ?_)))))))))
          exact yT (zH (zA (ZF (.bool false) Tryz.results39 (fun w hO => ⟨by rw [may_not hk (by omega) (by simp only [hp, hs]; omega)], hO.below⟩))))
        refine Ze (p := (0 : Int) ≤ zN p.hi s.lo) false (decide_eq_false (h4)) (Zw (.bool false) (vR (zB (Zf (xK (zP (zB (z7 (Zu (k := .i64) (((k + 1 : Nat) : Int)) (IntWalk.i64_in _ (by omega)) (Zv (.int .i64 ((k + 1 : Nat) : Int)) (zT ?_)))))))))))
        have hnext : zJ (l.take (k + 1)) = true := may_step hk hrel.2 (by rw [hs]; assumption) (fun h0 => by simp only [hp, hs]; omega)
        exact yZ (fun w hO => Own.sub [_] hO) (zX (m' := l.length - (k + 1)) (by omega) ⟨k + 1, _, ⟨by omega, hnext⟩, rfl, ZU, rfl⟩)
      refine Ze (p := (0 : Int) < (k : Int)) false (decide_eq_false (h3)) (Zw (.bool false) (Zj (Zj (Zj (Zj (Zj (Zj (Zj (Zj (Zj (Zj ?_)))))))))))
      refine Zw (.bool false) (vR (zB (Zf (xK (zP (zB (z7 (Zu (k := .i64) (((k + 1 : Nat) : Int)) (IntWalk.i64_in _ (by omega)) (Zv (.int .i64 ((k + 1 : Nat) : Int)) (zT ?_))))))))))
      have hnext : zJ (l.take (k + 1)) = true := may_step hk hrel.2 (by rw [hs]; assumption) (fun h0 => absurd h0 (by omega))
      exact yZ (fun w hO => Own.sub [_] hO) (zX (m' := l.length - (k + 1)) (by omega) ⟨k + 1, _, ⟨by omega, hnext⟩, rfl, ZU, rfl⟩)
    | false =>
      refine Zv (.bool true) (ZY (ZO (Zv (.bool false) (ZN (zF (zA (zH ?_)))))))
      exact zA (yT (zH (zA (ZF (.bool false) Tryz.results39 (fun w hO => ⟨by rw [may_take_bad hk (by rw [hs]; assumption)], hO.below⟩)))))
  refine Zd (p := (k : Int) < (l.length : Int)) false (decide_eq_false (h1)) (ZN (z6 (Zf (y8 (z8 (zQ (zG (zB (z6 (z7 ?_))))))))))
  exact Zv (.bool true) (ZN (zF (ZF (.bool true) Tryz.results39 (fun w hO => ⟨by have h := hrel.2; rw [List.take_of_length_le (by omega)] at h; rw [h], hO.below⟩))))
end
section
section
variable {M : List Nat} {P : Program} {n0 : Nat} {ops : Array Oper} {W : World} {Q : Exit → Act → World → Prop} {rest : List Oper} {o : Oper} {L : List Blk} {f : Nat → Value}
theorem s_append0 {t tn e : TypeId} {x y : Operand} {i : TypeInfo} {z : Value} {kn : IntKind} {k sz : Nat} (hw : xP ops n0 f o = true) (ho : o.op = .call { callee := .builtin .append, args := #[x, y], argTypes := #[t, tn] })
    (hx : ev n0 f x = .slice none 0 0) (hy : ev n0 f y = .int .i64 k) (ht : P.underlying t = some (.slice e)) (htn : P.underlying tn = some (.int kn)) (hi : P.info? e = some i) (hz : i.zero = some z) (hsz : i.size = sz) (hzs : z.cells.size = sz) (h0 : 0 < k) (hs : 0 < sz)
    (h63 : k ≤ maxLen) (h48 : k * i.bytes ≤ 140737488355328)
    (h : ∀ b cs cap, cs.size = cap * sz → k ≤ cap → cap ≤ maxLen → Seg M P n0 ops W Q rest (⟨b, cs, e⟩ :: L) (upd f o.dst (.slice (some ⟨b, 0, none⟩) k cap))) : Seg M P n0 ops W Q (o :: rest) L f :=
  qZ hw fun w hO => by
    subst hsz
    have hsmall : k ≤ 9223372036854775807 := by simp only [maxLen] at h63; omega
    have hr := Lib.run_append_grow_zeros (P := P) w t tn o.type e i z .i64 kn ht htn hi hz none 0 0 [] (run_firstCells_none w.drew i.size 0 0 0) k h0 hs (by omega) (by omega) (by omega) (by rw [Nat.zero_add, nextslicecap_zero h0]; omega)
    have hge := grownCap_ge w (0 + k) 0 e
    have hcm := grownCap_le_maxLen w (0 + k) 0 e (by omega)
    obtain ⟨cs, hcs⟩ : ∃ cs : Array Value, cs = #[] ++ Builtin.zeroCells z.cells k ++ Builtin.zeroCells z.cells (grownCap w (0 + k) 0 e - (0 + k)) := ⟨_, rfl⟩
    have hr2 : (Builtin.append_ #[t, tn] o.type #[.slice none 0 0, .int .i64 k]).run P w = .ok (.slice (some ⟨w.heap.size, 0, none⟩) k (grownCap w (0 + k) 0 e)) (w.drew.alloc (.cells cs e)) := by rw [hr, hcs, Nat.zero_add]
    have hcz : cs.size = grownCap w (0 + k) 0 e * i.size := by
      rw [hcs]
      simp only [Array.size_append, size_zeroCells, hzs, List.size_toArray, List.length_nil, Array.size_empty]
      rw [Nat.zero_add, ← Nat.add_mul]
      congr 1
      omega
    refine vE (.slice (some ⟨w.heap.size, 0, none⟩) k (grownCap w (0 + k) 0 e)) (w' := w.drew.alloc (.cells cs e)) ?_ ((h w.heap.size cs (grownCap w (0 + k) 0 e) hcz (by omega) hcm).go _ (Own.alloc (L := L) (fM hO) cs e))
    unfold execOp
    simp only [ho, resolve, invoke, builtin, Sem.run_bind, Sem.run_pure, Result.andThen_ok, List.map_toArray, List.map_cons, List.map_nil, hx, hy, hr2]
end
theorem run_sllA {P : Program} {ρ : Operand → Value} {o : Oper} {t e : TypeId} {x y : Operand} {A : Option Addr} {b off n c sz : Nat} {k : IntKind} {j : Int} (ho : o.op = .slice t x (some y) none none) (hx : ρ x = .slice A n c) (hA : A = some ⟨b, off, none⟩) (hy : ρ y = .int k j)
    (hu : P.underlying t = some (.slice e)) (hs : (P.info? e).map (·.size) = some sz) (h0 : 0 ≤ j) (h1 : j ≤ n) (w : World) : (execOp ρ o).run P w = .ok (.value (.slice (some ⟨b, off + (if c = j.toNat then 0 else j.toNat * sz), none⟩) (n - j.toNat) (c - j.toNat))) w := by
  subst hA
  exact run_sllo ho hx hy hu hs h0 h1 w
theorem Reads.drop1 {α : Type} {g : α → List Value} {sz : Nat} (hg : ∀ x, (g x).length = sz) {w : World} {B b off c : Nat} {A : Option Addr} {l : List α} (h : Reads g w B A l) (hA : A = some ⟨b, off, none⟩) (hc : l.length ≤ c) : Reads g w B (some ⟨b, off + (if c = (1 : Int).toNat then 0 else (1 : Int).toNat * sz), none⟩) (l.drop 1) := by
  subst hA
  cases l with
  | nil => exact fun h0 => by simp at h0
  | cons x r => exact h.tail hg (by rw [List.length_cons] at hc; omega)
end
section
section
variable {M : List Nat} {P : Program} {n : Nat} {ops : Array Oper} {W : World} {Q : Exit → Act → World → Prop} {rest : List Oper} {o : Oper} {L : List Blk} {f : Nat → Value} {Qe : List Blk → (Nat → Value) → Prop}
theorem pF (x : Blk) {ty : TypeId} {p : Operand} {off : Nat} (v : Value) (hw : xP ops n f o = true) (ho : o.op = .load ty p) (hL : x ∈ L) (hp : ev n f p = .pointer (some ⟨x.b, off, none⟩)) (hv : kQ P ty x.cs off = some v)
    (h : Seg M P n ops W Q rest L (upd f o.dst v)) : Seg M P n ops W Q (o :: rest) L f :=
  s_read v hw (fun _ hO => qG ho hp (qF hv (hO.held x hL))) h
end
end
section
end
section
theorem Own.sublist {M : List Nat} {W w : World} {L L' : List Blk} (h : Own M W w L) (hs : List.Sublist L' L) : Own M W w L' := h.take (fun x hx => hs.subset hx) (h.apart.sublist (hs.map _))
end
section
def Bu (b : Nat) (l : List UInt8) (ob : List Blk) : Prop :=
  ∃ p v g, ob = ⟨b, #[p, v], 46⟩ :: g ∧ (p = .pointer none ∨ p = .pointer (some ⟨b, 0, none⟩)) ∧ Sl 5 1 v l.length (Lib.byteCells l) g
theorem Bu.new (b : Nat) : Bu b [] [⟨b, #[.pointer none, .slice none 0 0], 46⟩] := ⟨_, _, [], rfl, .inl rfl, Sl.nil _ _⟩
theorem sizeWriter : (Tryz.prog.info? 44).map (·.size) = some 2 := by kernel_rfl
theorem liesWriter : liesAt Tryz.prog Tryz.prog.depth 46 (2 / Tryz.prog.cellsOf 46) 0 44 1 = true := by kernel_rfl
theorem copyCheck_new (b : Nat) (w : World) (h0 : w.cell? ⟨b, 0, none⟩ = some (.pointer none)) (hsh : w.shape? b = some (46, 2)) (hfz : w.frozen? ⟨b, 0, none⟩ = false) :
    Calls Tryz.prog 42 #[.pointer (some ⟨b, 0, none⟩)] w fun e w' => e = .returned (.tuple #[]) ∧ w' = w.setCell ⟨b, 0, none⟩ (.pointer (some ⟨b, 0, none⟩)) := by
  obtain ⟨j, hj, hjs⟩ := Option.map_eq_some_iff.1 sizeWriter
  go_enter Tryz.func42, Tryz.ntmps42
  go_wp2
  rw [Lib.run_to_unsafe w ⟨b, 0, none⟩ Tryz.underlying42 Tryz.underlying108 hj (by rw [hjs]; decide) hsh (Nat.zero_lt_succ 1)]
  simp only [Result.andThen]
  rw [Oper.upon_value]
  go_wp2
  rw [run_callFunc_extern Tryz.func70 (by kernel_rfl) (by kernel_rfl) (by kernel_rfl) (e := Extern.AbiNoEscape.same) (by kernel_rfl)]
  rw [Lib.run_noEscape]
  simp only [Result.andThen]
  rw [Oper.upon_value]
  go_wp2
  rw [Lib.run_from_unsafe w ⟨b, 0, none⟩ Tryz.underlying108 Tryz.underlying42 hj hsh liesWriter]
  simp only [Result.andThen]
  rw [Oper.upon_value]
  go_wp2
  go_end0
  exact ⟨rfl, rfl⟩
theorem wcheck_any (b : Nat) (p v : Value) (R : List Blk) (M : List Nat) (W w : World) (hp : p = .pointer none ∨ p = .pointer (some ⟨b, 0, none⟩)) (hO : Own M W w (⟨b, #[p, v], 46⟩ :: R)) :
    Calls Tryz.prog 42 #[.pointer (some ⟨b, 0, none⟩)] w fun e w' => e = .returned (.tuple #[]) ∧ Own M W w' (⟨b, #[.pointer (some ⟨b, 0, none⟩), v], 46⟩ :: R) := by
  have hb : w.heap[b]? = some (.cells #[p, v] 46 (0, 0)) := hO.held ⟨b, #[p, v], 46⟩ (List.mem_cons_self ..)
  have c0 : w.cell? ⟨b, 0, none⟩ = some p := by rw [Lib.cell_of_heap hb]; rfl
  rcases hp with rfl | rfl
  · refine (copyCheck_new b w c0 (by simp [World.shape?, hb]) (Lib.frozen_of_heap hb 0)).mono fun e w' ⟨he, hw⟩ => ⟨he, ?_⟩
    rw [hw, setCell_eq_setRow w b 0 _ _ _ _ hb]
    exact hO.put (i := 0) (x := ⟨b, #[.pointer none, v], 46⟩) rfl _
  · exact (fP b w c0).mono fun e w' ⟨he, hw⟩ => ⟨he, hw ▸ hO⟩
theorem infoU8 : ∃ i, Tryz.prog.info? 5 = some i ∧ i.zero = some (.int .u8 0) ∧ i.size = 1 ∧ i.bytes = 1 := info_parts infoByte
theorem Own.back {ob ob' R : List Blk} {M : List Nat} {W w w' : World} (h : Own M W w (ob ++ R)) (hc : Own (ob.map Blk.b) w w' ob') : Own M W w' (ob' ++ R) := Own.join h hc
theorem Own.lent {ob R : List Blk} {M : List Nat} {W w : World} (h : Own M W w (ob ++ R)) : Own (ob.map Blk.b) w w ob := Own.lend (h.sublist (List.sublist_append_left _ _))
theorem bu_own {B b : Nat} {l : List UInt8} {ob : List Blk} {M : List Nat} {W w : World} (hB : Bu b l ob) (hO : Own M W w ob) (hM : ∀ x ∈ ob, B ≤ x.b) : Lib.IsBuilder 46 5 B b (Lib.byteCells l) w := by
  obtain ⟨p, v, g, rfl, hp, hv⟩ := hB
  have hb : w.heap[b]? = some (.cells #[p, v] 46 (0, 0)) := hO.held ⟨b, #[p, v], 46⟩ (List.mem_cons_self ..)
  have key : Lib.BuilderAt 46 5 B b p (Lib.byteCells l) w := by
    refine ⟨hM ⟨b, #[p, v], 46⟩ (List.mem_cons_self ..), v, hb, ?_, ?_⟩
    · rw [Lib.byteCells_length]
      refine ⟨hv.1, ?_⟩
      rcases hv.2 with ⟨h1, h2, _⟩ | ⟨k, cap, cur, h1, rfl, h3, h4, h5, h6⟩
      · exact .inl ⟨h1, h2⟩
      · exact .inr ⟨k, cap, cur, h1, hM ⟨k, cur, 5⟩ (by simp), hO.held ⟨k, cur, 5⟩ (by simp), h3, h4, h5, h6⟩
    · rcases hv.2 with ⟨rfl, _, _⟩ | ⟨k, cap, cur, rfl, rfl, _⟩
      · simp [Value.ownBlock]
      · intro e
        have hk : k = b := by simpa [Value.ownBlock] using e
        have := hO.apart
        simp [hk] at this
  rcases hp with rfl | rfl
  · exact .inl key
  · exact .inr key
theorem wstring_any0 (B b : Nat) (l : List UInt8) (w : World) (h : Lib.IsBuilder 46 5 B b (Lib.byteCells l) w) (h0 : l ≠ []) :
    Calls Tryz.prog 24 #[.pointer (some ⟨b, 0, none⟩)] w fun e w' => e = .returned (.string ⟨l.toArray⟩) ∧ Below B w w' := by
  obtain ⟨p, hB, v, hbk, hown, hne⟩ : ∃ p, Lib.BuilderAt 46 5 B b p (Lib.byteCells l) w := h.elim (fun q => ⟨_, q⟩) (fun q => ⟨_, q⟩)
  rcases hown.2 with ⟨_, hz⟩ | ⟨g, cap, cur, rfl, hbg, hg, hnc, hcm, hcs, htake⟩
  · exact absurd hz (t6 h0)
  rw [Lib.byteCells_length] at hown hnc hbk htake
  have hl0 : l.length ≠ 0 := fun e => h0 (List.eq_nil_of_length_eq_zero e)
  have hg' : w.drew.heap[g]? = some (.cells cur 5 (0, 0)) := hg
  have c1 : w.drew.cell? ⟨b, 1, none⟩ = some (.slice (some ⟨g, 0, none⟩) l.length cap) := by
    rw [Lib.cell_of_heap (show w.drew.heap[b]? = _ from hbk)]; rfl
  have hSD := Lib.run_unsafeSliceData_row (P := Tryz.prog) w.drew #[35] 81 ⟨g, 0, none⟩ l.length cap (by omega)
  have hUS := Lib.run_unsafeString_row (P := Tryz.prog) w.drew 81 3 9 5 Tryz.underlying81 (by kernel_rfl) g cur.size (by unfold World.shape?; rw [hg']) l h0 (by omega) (by unfold maxLen at hcm; omega)
    (fun j x hx => hown.cells (g := g) rfl j (.int .u8 x.toNat) (by simp [Lib.byteCells, hx]))
  go_enter Tryz.func24, Tryz.ntmps24
  go_wp2
  have mixed : Tryz.prog.follows .mixedOrders = true := by kernel_rfl
  go_region_o
  all_goals
    go_wp2
    go_ret
    have hf := Lib.below_freeze (Go.RowKit.Below.drew (Go.RowKit.Below.refl B w)) (p := ⟨g, 0, none⟩) hbg l.length
    exact ⟨rfl, hf.os, hf.tape, hf.output, hf.size, by rw [pT]; exact Nat.le_succ _, hf.block⟩
theorem wstring_any (b : Nat) (l : List UInt8) (ob : List Blk) (W w : World) (hB : Bu b l ob) (hO : Own [] W w ob) (h0 : l ≠ []) :
    Calls Tryz.prog 24 #[.pointer (some ⟨b, 0, none⟩)] w fun e w' => e = .returned (.string (mkS l)) ∧ Own [] W w' [] :=
  (wstring_any0 W.heap.size b l w (bu_own hB hO fun x hx => (hO.base x hx).elim id fun q => by simp at q) h0).mono fun e w' ⟨he, hb⟩ => by
    have hb2 := hO.below.trans hb
    exact ⟨he, hb2.os, hb2.tape, hb2.output, hb2.size, hb2.drawn, fun k hk _ => hb2.block k hk, by simp, by simp, by simp⟩
end
end Go.Proofs.YtiekhkapgjdblaaGreatDoor
