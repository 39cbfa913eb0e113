/-
  s[i:j] of a slice; its elements as a slice that came in. No condition of their own.
-/
import Derived.Test.YtjgmmeienchfnaaRx12
namespace Go.Proofs.Ytjgmmeienchfnaa
open Go.RowKit
set_option maxRecDepth 100000
set_option linter.unusedVariables false
set_option linter.unusedSimpArgs false
theorem run_sl2 {P : Program} {ρ : Operand → Value} {o : Oper} {t e : TypeId} {x y z : Operand} {A : Option Addr} {b off n c sz : Nat} {k q : IntKind} {i j : Int} (ho : o.op = .slice t x (some y) (some z) none) (hx : ρ x = .slice A n c) (hA : A = some ⟨b, off, none⟩) (hy : ρ y = .int k i) (hz : ρ z = .int q j)
    (hu : P.underlying t = some (.slice e)) (hs : (P.info? e).map (·.size) = some sz) (h0 : 0 ≤ i) (h1 : i ≤ j) (h2 : j ≤ c) (w : World) : (execOp ρ o).run P w = .ok (.value (.slice (some ⟨b, off + (if c = i.toNat then 0 else i.toNat * sz), none⟩) (j.toNat - i.toNat) (c - i.toNat))) w := by
  subst hA
  cases he : P.info? e with
  | none => rw [he] at hs; cases hs
  | some u =>
    rw [he] at hs
    obtain rfl := Option.some.inj hs
    have h3 : 0 ≤ j := Int.le_trans h0 h1
    unfold execOp
    by_cases hc : c = i.toNat
    · simp [ho, hx, hy, hz, Instr.sliceAt, Instr.slice, Instr.sliceBounds, Instr.sliceBound, Sem.run_bind, asIntOf, run_underlying hu, h0, h1, h2, h3, sizeOf, typeInfo, he, add_off, hc]
      try (rw [if_pos (by omega), if_pos (by omega)])
    · simp [ho, hx, hy, hz, Instr.sliceAt, Instr.slice, Instr.sliceBounds, Instr.sliceBound, Sem.run_bind, asIntOf, run_underlying hu, h0, h1, h2, h3, sizeOf, typeInfo, he, add_off, hc]
      try (first | omega | (rw [if_pos (by omega), if_pos (by omega)]))
theorem Reads.one {α : Type} {g : α → List Value} {sz : Nat} (hg : ∀ x, (g x).length = sz) {w : World} {B b off c k : Nat} {A : Option Addr} {l : List α} (h : Reads g w B A l) (hA : A = some ⟨b, off, none⟩) (hk : k < l.length) (hc : l.length ≤ c) {i : Int} (hi : i.toNat = k) : Reads g w B (some ⟨b, off + (if c = i.toNat then 0 else i.toNat * sz), none⟩) [l[k]] := fun h0 => by
  subst hA hi
  obtain ⟨b', off', e, hlt, hcell⟩ := h (by omega)
  obtain ⟨rfl, rfl⟩ : b = b' ∧ off = off' := by simp at e; exact e
  refine ⟨b, _, rfl, hlt, fun j u hj => ?_⟩
  rw [if_neg (by omega)]
  have hj2 : (g l[i.toNat])[j]? = some u := by simpa using hj
  have hjs : j < sz := by have := (List.getElem?_eq_some_iff.1 hj2).1; rwa [hg] at this
  have h3 := flat_at hg l i.toNat hk
  rw [← h3, List.getElem?_take, if_pos hjs, List.getElem?_drop] at hj2
  have := hcell _ u hj2
  rw [show off + i.toNat * sz + j = off + (i.toNat * sz + j) from by omega]
  exact this
end Go.Proofs.Ytjgmmeienchfnaa
