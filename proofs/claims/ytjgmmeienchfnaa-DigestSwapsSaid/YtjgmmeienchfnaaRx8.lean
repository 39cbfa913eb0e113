/-
  append(s, x..) where x is a slice that came in, nil or not, empty or not.
-/
import Derived.Test.YtjgmmeienchfnaaRx7
namespace Go.Proofs.Ytjgmmeienchfnaa
open Go.RowKit
set_option maxRecDepth 100000
set_option linter.unusedVariables false
set_option linter.unusedSimpArgs false
section
variable {P : Program} {w : World} {ob : List Blk}
theorem own_append_nilc {t ty T : TypeId} {i : TypeInfo} (ht : P.underlying t = some (.slice T)) (hi : P.info? T = some i) {sz : Nat} {v : Value} {n : Nat} {xs : List Value} (hv : Sl T sz v n xs ob) (c : Nat) :
    (Builtin.append_ #[t, t] ty #[v, .slice none 0 c]).run P w = .ok v w := by
  rcases hv.2 with ⟨rfl, rfl, rfl⟩ | ⟨g, cap, cur, rfl, rfl, hnc, hcm, hcs, htake⟩
  · simp [Builtin.append_, run_underlying ht, sizeOf, typeInfo, hi, Builtin.lenOf, Builtin.firstCells]
  · simp [Builtin.append_, run_underlying ht, sizeOf, typeInfo, hi, Builtin.lenOf, Builtin.firstCells, hnc, storeCells]
end
section
variable {M : List Nat} {P : Program} {n0 : Nat} {ops : Array Oper} {W : World} {Q : Exit → Act → World → Prop} {rest : List Oper} {o : Oper} {E ob L0 : List Blk} {f : Nat → Value}
theorem s_appendR {α : Type} {g : α → List Value} {t T : TypeId} {s x : Operand} {i : TypeInfo} {z : Value} {sz : Nat} (hg : ∀ y, (g y).length = sz) (hw : want ops n0 f o = true) (ho : o.op = .call { callee := .builtin .append, args := #[s, x], argTypes := #[t, t] })
    (ht : P.underlying t = some (.slice T)) (hi : P.info? T = some i) (hz : i.zero = some z) (hsz : i.size = sz) (hzs : z.cells.size = sz)
    {v : Value} {n : Nat} {xs : List Value} (hs : ev n0 f s = v) (hv : Sl T sz v n xs ob) {A : Option Addr} {c : Nat} {l : List α} (hx : ev n0 f x = .slice A l.length c)
    (hR : ∀ w, Own M W w (E ++ ob ++ L0) → Reads g w w.heap.size A l) (h1 : ∀ y, ∀ u ∈ g y, u.oneCell' = true)
    (h63 : n + l.length ≤ maxLen) (hbytes : (n + l.length) * i.bytes ≤ 140737488355328)
    (h : ∀ v' ob', Sl T sz v' (n + l.length) (xs ++ l.flatMap g) ob' → Seg M P n0 ops W Q rest (E ++ ob' ++ L0) (upd f o.dst v')) : Seg M P n0 ops W Q (o :: rest) (E ++ ob ++ L0) f :=
  s_step hw fun w hO => by
    have hone : ∀ u ∈ l.flatMap g, u.oneCell' = true := fun u hu => by
      obtain ⟨y, _, hy⟩ := List.mem_flatMap.1 hu
      exact h1 y u hy
    cases A with
    | none =>
      have h0 : l = [] := by
        cases l with
        | nil => rfl
        | cons y l => obtain ⟨b, off, e, _⟩ := hR w hO (by simp); cases e
      subst h0
      have hv' : Sl T sz v (n + ([] : List α).length) (xs ++ ([] : List α).flatMap g) ob := by simpa using hv
      refine wp_val v (w' := w) ?_ ((h v ob hv').go w hO)
      have hx' : ev n0 f x = .slice none 0 c := hx
      unfold execOp
      simp only [ho, resolve, invoke, builtin, Sem.run_bind, Sem.run_pure, Result.andThen_ok, List.map_toArray, List.map_cons, List.map_nil, hs, hx', own_append_nilc ht hi hv c]
    | some a =>
      have hnews : ∀ j u, (l.flatMap g)[j]? = some u → w.cell? (a.add j) = some u := fun j u hj => by
        have h0 : 0 < l.length := by
          cases l with
          | nil => simp at hj
          | cons y l => simp
        obtain ⟨b, off, e, _, hc⟩ := hR w hO h0
        obtain rfl := Option.some.inj e
        rw [add_off]
        exact hc j u hj
      obtain ⟨v', w', ob', hr, h2, h3⟩ := own_append (P := P) (ty := o.type) (c := c) ht hi hz hsz hzs hv hO (flat_len hg l) hnews hone h63 hbytes
      refine wp_val v' (w' := w') ?_ ((h v' ob' h2).go w' h3)
      unfold execOp
      simp only [ho, resolve, invoke, builtin, Sem.run_bind, Sem.run_pure, Result.andThen_ok, List.map_toArray, List.map_cons, List.map_nil, hs, hx, hr]
end
end Go.Proofs.Ytjgmmeienchfnaa
