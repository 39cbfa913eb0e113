/-
  Steps: two results in two variables; a region whose ends are brought together; the rest of a slice that came in. No condition of their own.
-/
import Derived.Test.YtjgmmeienchfnaaRx9
import Derived.Tactics
namespace Go.Proofs.Ytjgmmeienchfnaa
open Go.RowKit
set_option linter.unusedVariables false
set_option linter.unusedSimpArgs false
section
variable {M : List Nat} {P : Program} {n : Nat} {W : World} {Q : Exit → Act → World → Prop} {L : List Blk} {f : Nat → Value}
theorem fin_cc {fn : Func} {R : Ending → World → Prop} {p q : Tmp} {ty tz : TypeId} (i j : Nat) (x y : Blk) {off oft : Nat} (v v' : Value) (hres : fn.results = #[.cell p ty, .cell q tz]) (hL : L[i]? = some x) (hL' : L[j]? = some y)
    (hp : ev n f (.tmp p) = .pointer (some ⟨x.b, off, none⟩)) (hq : ev n f (.tmp q) = .pointer (some ⟨y.b, oft, none⟩)) (hv : readAt P ty x.cs off = some v) (hv' : readAt P tz y.cs oft = some v') (hR : ∀ w, Own M W w L → R (.returned (.tuple #[v, v'])) w) : Fin M n W (bodyPost P fn R) .ret L f := ⟨fun w hO => by
  refine bodyPost_ret (v := .tuple #[v, v']) ?_ rfl (hR w hO)
  have e : (Fr n f).tmps.getD p undef = .pointer (some ⟨x.b, off, none⟩) := (getD_ofFn n f p).trans hp
  have e' : (Fr n f).tmps[p]?.getD undef = .pointer (some ⟨x.b, off, none⟩) := by simpa using e
  have e2 : (Fr n f).tmps.getD q undef = .pointer (some ⟨y.b, oft, none⟩) := (getD_ofFn n f q).trans hq
  have e2' : (Fr n f).tmps[q]?.getD undef = .pointer (some ⟨y.b, oft, none⟩) := by simpa using e2
  have h1 := run_readAt hv (hO.get hL)
  have h2 := run_readAt hv' (hO.get hL')
  simp [results, hres, e', e2', asAddr, h1, h2]⟩
def JoinQ (M : List Nat) (n : Nat) (W : World) (R : List Blk → (Nat → Value) → Prop) : Exit → Act → World → Prop
  | .normal, a, w => ∃ L f, R L f ∧ Own M W w L ∧ a = Fr n f
  | _, _, _ => False
theorem pq_join {R : List Blk → (Nat → Value) → Prop} : PQ (JoinQ M n W R) := fun c a d v w h => h
theorem ok_join {c : Code} (R : List Blk → (Nat → Value) → Prop) (h1 : Ok M P n W (JoinQ M n W R) c L f) (h2 : ∀ L f, R L f → Fin M n W Q .normal L f) : Ok M P n W Q c L f := ⟨fun w hO =>
  Code.wp_mono (fun e a w h => by
    cases e with
    | normal =>
      obtain ⟨L', f', hR, hO', rfl⟩ := h
      exact (h2 L' f' hR).go w hO'
    | _ => exact absurd h id) (h1.go w hO)⟩
theorem fin_join {R : List Blk → (Nat → Value) → Prop} (h : R L f) : Fin M n W (JoinQ M n W R) .normal L f := ⟨fun w hO => ⟨L, f, h, hO, rfl⟩⟩
end
/-- s[1:] of a slice that came in. -/
theorem Reads.tail {α : Type} {g : α → List Value} {sz : Nat} (hg : ∀ x, (g x).length = sz) {w : World} {B b off c : Nat} {x : α} {l : List α} (h : Reads g w B (some ⟨b, off, none⟩) (x :: l)) (hc : l.length < c) : Reads g w B (some ⟨b, off + (if c = (1 : Int).toNat then 0 else (1 : Int).toNat * sz), none⟩) l := fun h0 => by
  obtain ⟨b', off', e, hlt, hcell⟩ := h (by simp)
  obtain ⟨rfl, rfl⟩ : b = b' ∧ off = off' := by simp at e; exact e
  refine ⟨b, _, rfl, hlt, fun k u hk => ?_⟩
  rw [if_neg (by show ¬ c = 1; omega)]
  have := hcell (sz + k) u (by rw [List.flatMap_cons, List.getElem?_append_right (by rw [hg]; omega), hg]; rw [show sz + k - sz = k from by omega]; exact hk)
  rw [show off + (1 : Int).toNat * sz + k = off + (sz + k) from by show off + 1 * sz + k = _; omega]
  exact this
end Go.Proofs.Ytjgmmeienchfnaa
