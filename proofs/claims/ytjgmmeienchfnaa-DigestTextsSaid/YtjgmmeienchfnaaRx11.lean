/-
  Steps: append(nil, make([]T, n)...); s[1:] of a slice that came in. No condition of their own but the bounds that each theorem names.
-/
import Derived.Test.YtjgmmeienchfnaaRx10
import Derived.Lib.AppendZerosOnto
namespace Go.Proofs.Ytjgmmeienchfnaa
open Go.RowKit
set_option linter.unusedVariables false
set_option linter.unusedSimpArgs false
section
variable {M : List Nat} {P : Program} {n0 : Nat} {ops : Array Oper} {W : World} {Q : Exit → Act → World → Prop} {rest : List Oper} {o : Oper} {L : List Blk} {f : Nat → Value}
theorem s_append0 {t tn e : TypeId} {x y : Operand} {i : TypeInfo} {z : Value} {kn : IntKind} {k sz : Nat} (hw : want ops n0 f o = true) (ho : o.op = .call { callee := .builtin .append, args := #[x, y], argTypes := #[t, tn] })
    (hx : ev n0 f x = .slice none 0 0) (hy : ev n0 f y = .int .i64 k) (ht : P.underlying t = some (.slice e)) (htn : P.underlying tn = some (.int kn)) (hi : P.info? e = some i) (hz : i.zero = some z) (hsz : i.size = sz) (hzs : z.cells.size = sz) (h0 : 0 < k) (hs : 0 < sz)
    (h63 : k ≤ maxLen) (h48 : k * i.bytes ≤ 140737488355328)
    (h : ∀ b cs cap, cs.size = cap * sz → k ≤ cap → cap ≤ maxLen → Seg M P n0 ops W Q rest (⟨b, cs, e⟩ :: L) (upd f o.dst (.slice (some ⟨b, 0, none⟩) k cap))) : Seg M P n0 ops W Q (o :: rest) L f :=
  s_step hw fun w hO => by
    subst hsz
    have hsmall : k ≤ 9223372036854775807 := by simp only [maxLen] at h63; omega
    have hr := Lib.run_append_grow_zeros (P := P) w t tn o.type e i z .i64 kn ht htn hi hz none 0 0 [] (run_firstCells_none w.drew i.size 0 0 0) k h0 hs (by omega) (by omega) (by omega) (by rw [Nat.zero_add, nextslicecap_zero h0]; omega)
    have hge := grownCap_ge w (0 + k) 0 e
    have hcm := grownCap_le_maxLen w (0 + k) 0 e (by omega)
    obtain ⟨cs, hcs⟩ : ∃ cs : Array Value, cs = #[] ++ Builtin.zeroCells z.cells k ++ Builtin.zeroCells z.cells (grownCap w (0 + k) 0 e - (0 + k)) := ⟨_, rfl⟩
    have hr2 : (Builtin.append_ #[t, tn] o.type #[.slice none 0 0, .int .i64 k]).run P w = .ok (.slice (some ⟨w.heap.size, 0, none⟩) k (grownCap w (0 + k) 0 e)) (w.drew.alloc (.cells cs e)) := by rw [hr, hcs, Nat.zero_add]
    have hcz : cs.size = grownCap w (0 + k) 0 e * i.size := by
      rw [hcs]
      simp only [Array.size_append, size_zeroCells, hzs, List.size_toArray, List.length_nil, Array.size_empty]
      rw [Nat.zero_add, ← Nat.add_mul]
      congr 1
      omega
    refine wp_val (.slice (some ⟨w.heap.size, 0, none⟩) k (grownCap w (0 + k) 0 e)) (w' := w.drew.alloc (.cells cs e)) ?_ ((h w.heap.size cs (grownCap w (0 + k) 0 e) hcz (by omega) hcm).go _ (Own.alloc (L := L) (drew_own hO) cs e))
    unfold execOp
    simp only [ho, resolve, invoke, builtin, Sem.run_bind, Sem.run_pure, Result.andThen_ok, List.map_toArray, List.map_cons, List.map_nil, hx, hy, hr2]
end
theorem run_sllA {P : Program} {ρ : Operand → Value} {o : Oper} {t e : TypeId} {x y : Operand} {A : Option Addr} {b off n c sz : Nat} {k : IntKind} {j : Int} (ho : o.op = .slice t x (some y) none none) (hx : ρ x = .slice A n c) (hA : A = some ⟨b, off, none⟩) (hy : ρ y = .int k j)
    (hu : P.underlying t = some (.slice e)) (hs : (P.info? e).map (·.size) = some sz) (h0 : 0 ≤ j) (h1 : j ≤ n) (w : World) : (execOp ρ o).run P w = .ok (.value (.slice (some ⟨b, off + (if c = j.toNat then 0 else j.toNat * sz), none⟩) (n - j.toNat) (c - j.toNat))) w := by
  subst hA
  exact run_sllo ho hx hy hu hs h0 h1 w
/-- s[1:] of a slice that came in. -/
theorem Reads.drop1 {α : Type} {g : α → List Value} {sz : Nat} (hg : ∀ x, (g x).length = sz) {w : World} {B b off c : Nat} {A : Option Addr} {l : List α} (h : Reads g w B A l) (hA : A = some ⟨b, off, none⟩) (hc : l.length ≤ c) : Reads g w B (some ⟨b, off + (if c = (1 : Int).toNat then 0 else (1 : Int).toNat * sz), none⟩) (l.drop 1) := by
  subst hA
  cases l with
  | nil => exact fun h0 => by simp at h0
  | cons x r => exact h.tail hg (by rw [List.length_cons] at hc; omega)
end Go.Proofs.Ytjgmmeienchfnaa
