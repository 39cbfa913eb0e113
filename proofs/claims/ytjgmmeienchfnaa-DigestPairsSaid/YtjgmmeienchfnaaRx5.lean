/-
  Slices that came in (or that a caller owns), read element by element; loops: the frame at a round's head. No condition of their own but what each theorem names.
-/
import Derived.Test.YtjgmmeienchfnaaRx4
namespace Go.Proofs.Ytjgmmeienchfnaa
open Go.RowKit
set_option linter.unusedVariables false
set_option linter.unusedSimpArgs false

/-! ### A frame whose slots are known in part -/
def upds (f : Nat → Value) : List (Nat × Value) → Nat → Value
  | [] => f
  | p :: r => upd (upds f r) (some p.1) p.2
def Agrees (f : Nat → Value) : List (Nat × Value) → Prop
  | [] => True
  | p :: r => f p.1 = p.2 ∧ Agrees f r
theorem upds_self {f : Nat → Value} : ∀ (l : List (Nat × Value)), Agrees f l → f = upds f l
  | [], _ => rfl
  | p :: r, h => by
    have e := upds_self r h.2
    have h1 : upds f r p.1 = p.2 := by rw [← e]; exact h.1
    show f = upd (upds f r) (some p.1) p.2
    rw [← upd_self h1]; exact e

/-! ### Reading -/
/-- The slice v reads as the list l, each element as sz cells by g, out of a block below B. -/
def Reads {α : Type} (g : α → List Value) (w : World) (B : Nat) (A : Option Addr) (l : List α) : Prop :=
  0 < l.length → ∃ b off, A = some ⟨b, off, none⟩ ∧ b < B ∧ ∀ k u, (l.flatMap g)[k]? = some u → w.cell? ⟨b, off + k, none⟩ = some u
theorem Reads.on {α : Type} {g : α → List Value} {w w' : World} {B B' : Nat} {A : Option Addr} {l : List α} (h : Reads g w B A l) (hb : Below B w w') (hB : B ≤ B') : Reads g w' B' A l := fun h0 => by
  obtain ⟨b, off, e, hlt, hc⟩ := h h0
  exact ⟨b, off, e, by omega, fun k u hk => (hb.cell (p := ⟨b, off + k, none⟩) hlt).trans (hc k u hk)⟩
/-- What a caller owns, as its callee reads it. -/
theorem Sl.reads {α : Type} {g : α → List Value} {T sz n : Nat} {A : Option Addr} {cap : Nat} {l : List α} {ob : List Blk} {M : List Nat} {W w : World} {L : List Blk} (h : Sl T sz (.slice A n cap) n (l.flatMap g) ob) (hn : l.length = n) (hO : Own M W w L) (hs : ∀ x ∈ ob, x ∈ L) :
    Reads g w w.heap.size A l := fun h0 => by
  rcases h.2 with ⟨_, h2, _⟩ | ⟨b, c, cur, e, rfl, h3, h4, h5, h6⟩
  · omega
  · obtain ⟨rfl, _, rfl⟩ : A = some ⟨b, 0, none⟩ ∧ True ∧ cap = c := by
      simp only [Value.slice.injEq] at e; exact ⟨e.1, trivial, e.2.2⟩
    have hb := hs ⟨b, cur, T⟩ (by simp)
    refine ⟨b, 0, rfl, hO.lt hb, fun k u hk => ?_⟩
    rw [cell_of_row w b (0 + k) cur T _ (hO.held _ hb)]
    rw [← h6, List.getElem?_take] at hk
    split at hk
    · simpa using hk
    · cases hk
section
variable {P : Program}
/-- A variable whose cells are known. -/
theorem old_load {ty : TypeId} {w : World} {b o : Nat} (cs : List Value) (v : Value) (h : ∀ k u, cs[k]? = some u → w.cell? ⟨b, o + k, none⟩ = some u) (hr : readAt P ty cs.toArray 0 = some v) : (loadVar ty ⟨b, o, none⟩).run P w = .ok v w := by
  unfold readAt at hr
  cases hu : P.underlying ty with
  | none => rw [hu] at hr; simp at hr
  | some d =>
    cases hi : P.info? ty with
    | none => rw [hu, hi] at hr; cases d <;> simp at hr
    | some i =>
      rw [hu, hi] at hr
      by_cases hd : aggB d = true
      · have h2 : (if 0 + i.size ≤ cs.toArray.size then some (Value.agg (cs.toArray.toList.drop 0 |>.take i.size).toArray) else none) = some v := by
          cases d <;> first | exact hr | (simp [aggB] at hd)
        split at h2
        · rename_i hle
          obtain rfl := Option.some.inj h2
          have hlen : (cs.take i.size).length = i.size := by simp at hle ⊢; omega
          have hl := run_loadCells_list (P := P) w ⟨b, o, none⟩ (cs.take i.size) (fun j u hj => by
            rw [add_off]
            rw [List.getElem?_take] at hj
            split at hj
            · exact h j u hj
            · cases hj)
          rw [hlen] at hl
          have hagg : (isAgg ty).run P w = .ok true w := by
            unfold isAgg
            rw [Sem.run_bind, run_underlying hu w]
            cases d <;> simp_all [aggB]
          simp [loadVar, Sem.run_bind, hagg, sizeOf, typeInfo, hi, hl]
        · cases h2
      · have h2 : cs.toArray[0]? = some v := by cases d <;> first | exact hr | (simp [aggB] at hd)
        have hagg : (isAgg ty).run P w = .ok false w := by
          unfold isAgg
          rw [Sem.run_bind, run_underlying hu w]
          cases d <;> simp_all [aggB]
        have hc : w.cell? ⟨b, o, none⟩ = some v := by simpa using h 0 v (by simpa using h2)
        simp [loadVar, Sem.run_bind, hagg, run_load, hc, Result.andThen]
/-- An element, or a part of it from its cell number fo on. -/
theorem elem_load {α : Type} {g : α → List Value} {sz : Nat} (hg : ∀ x, (g x).length = sz) {ty : TypeId} {w : World} {b off o : Nat} {l : List α} (hc : ∀ k u, (l.flatMap g)[k]? = some u → w.cell? ⟨b, off + k, none⟩ = some u) (k fo : Nat) (hk : k < l.length) (ho : o = off + k * sz + fo) (v : Value)
    (hr : readAt P ty ((g l[k]).drop fo).toArray 0 = some v) : (loadVar ty ⟨b, o, none⟩).run P w = .ok v w := by
  subst ho
  refine old_load ((g l[k]).drop fo) v (fun j u hj => ?_) hr
  have e : ((l.flatMap g)[k * sz + (fo + j)]?) = some u := by
    rw [List.getElem?_drop] at hj
    have := flat_at hg l k hk
    rw [← this, List.getElem?_take] at hj
    split at hj
    · rw [List.getElem?_drop] at hj; exact hj
    · cases hj
  have := hc _ u e
  rw [show off + (k * sz + (fo + j)) = off + k * sz + fo + j from by omega] at this
  exact this
/-- The address of an element of a slice that came in. -/
theorem run_ixA {ρ : Operand → Value} {o : Oper} {t e : TypeId} {x ix : Operand} {A : Option Addr} {b off off' n c sz : Nat} {k : IntKind} {j : Int} (ho : o.op = .indexAddr t x ix) (hx : ρ x = .slice A n c) (hA : A = some ⟨b, off, none⟩) (hi : ρ ix = .int k j)
    (hu : P.underlying t = some (.slice e)) (hs : (P.info? e).map (·.size) = some sz) (h0 : 0 ≤ j) (h1 : j < n) (hoff : off + j.toNat * sz = off') (w : World) : (execOp ρ o).run P w = .ok (.value (.pointer (some ⟨b, off', none⟩))) w := by
  subst hA
  exact run_ixsl ho hx hi hu hs h0 h1 hoff w
end
end Go.Proofs.Ytjgmmeienchfnaa
