/-
  Package ident's Join and the document's own answer's Join: both return, for every slice of strings and every byte, the strings with the byte between adjacent ones. Condition: the result has at most a billion bytes.
-/
import Derived.Test.YtndjdmbbndcohaaSplitR
import Derived.Test.YtndjdmbbndcohaaOwn
import Derived.Test.YtndjdmbbndcohaaBuild
import Derived.Test.YtndjdmbbndcohaaDig
namespace Go.Proofs.Ytndjdmbbndcohaa
open Go.RowKit

theorem joinL_snoc (b : UInt8) (P : List (List UInt8)) (x : List UInt8) : joinL b (P ++ [x]) = if P = [] then x else joinL b P ++ b :: x := by
  induction P with
  | nil => rfl
  | cons y r ih =>
    rw [if_neg (by simp)]
    cases r with
    | nil => rfl
    | cons z r2 =>
      rw [List.cons_append, List.cons_append, joinL, ← List.cons_append, ih, if_neg (by simp), joinL, List.append_assoc]; rfl
theorem joinL_take_le (b : UInt8) (l : List (List UInt8)) : ∀ k, (joinL b (l.take k)).length ≤ (joinL b l).length := by
  intro k
  induction l generalizing k with
  | nil => simp
  | cons y r ih =>
    cases k with
    | zero => simp [joinL]
    | succ k =>
      cases r with
      | nil => simp
      | cons z r2 =>
        cases k with
        | zero => simp [joinL]
        | succ k =>
          have := ih (k + 1)
          rw [List.take_succ_cons] at this ⊢
          rw [List.take_succ_cons, joinL, joinL]
          simp only [List.length_append, List.length_cons]
          omega

/-- A slice value that reads as the list l of strings, below block B. -/
def ReadsT (w : World) (B : Nat) (v : Value) (l : List (List UInt8)) : Prop :=
  ∃ A cap, v = .slice A l.length cap ∧ (0 < l.length → ∃ ad : Addr, A = some ad ∧ ad.block < B ∧ ∀ j (h : j < l.length), w.cell? (ad.add j) = some (.string (mkS l[j])))
theorem addr_block (a : Addr) (n : Nat) : (a.add n).block = a.block := by unfold Addr.add; split <;> rfl
theorem ReadsT.below {w w' : World} {B : Nat} {v : Value} {l : List (List UInt8)} (h : ReadsT w B v l) (hb : Below B w w') : ReadsT w' B v l := by
  obtain ⟨A, cap, e, hc⟩ := h
  refine ⟨A, cap, e, fun h0 => ?_⟩
  obtain ⟨ad, e2, hlt, hcell⟩ := hc h0
  exact ⟨ad, e2, hlt, fun j hj => (hb.cell (by rw [addr_block]; exact hlt)).trans (hcell j hj)⟩
theorem ReadsT.more {w : World} {B B' : Nat} {v : Value} {l : List (List UInt8)} (h : ReadsT w B v l) (hB : B ≤ B') : ReadsT w B' v l := by
  obtain ⟨A, cap, e, hc⟩ := h
  refine ⟨A, cap, e, fun h0 => ?_⟩
  obtain ⟨ad, e2, hlt, hcell⟩ := hc h0
  exact ⟨ad, e2, by omega, hcell⟩
theorem ReadsT.of_own {w : World} {base : Nat} {e : TypeId} {v : Value} {l : List (List UInt8)} (h : w.ownsRow base e 1 v l.length (strV l)) : ReadsT w w.heap.size v l := by
  rcases h.2 with ⟨rfl, h0⟩ | ⟨g, cap, cur, rfl, hg, hh, hn, _⟩
  · exact ⟨none, 0, by rw [h0], fun hpos => by omega⟩
  · refine ⟨some ⟨g, 0, none⟩, cap, rfl, fun hpos => ⟨⟨g, 0, none⟩, rfl, (Array.getElem?_eq_some_iff.1 hh).1, fun j hj => ?_⟩⟩
    exact h.cells (g := g) rfl j _ (by unfold strV; rw [List.getElem?_map, List.getElem?_eq_getElem hj]; rfl)

theorem one_mk (b : UInt8) : one (b.toNat : Int) = mkS [b] := by
  unfold one mkS
  simp
theorem mkS_append (a b : List UInt8) : mkS a ++ mkS b = mkS (a ++ b) := by
  unfold mkS; apply ByteArray.ext; simp
theorem mkS_size (a : List UInt8) : (mkS a).size = a.length := by unfold mkS; simp [ByteArray.size]
theorem take_snocL (l : List (List UInt8)) (k : Nat) (h : k < l.length) : l.take (k + 1) = l.take k ++ [l[k]] := by
  rw [List.take_succ_eq_append_getElem h]
theorem take_nil_iff (l : List (List UInt8)) (k : Nat) (h : k < l.length) (h0 : 0 < k) : l.take k ≠ [] := by
  intro e; have := congrArg List.length e; rw [List.length_take, List.length_nil] at this; omega

theorem byteCells_one (c : UInt8) : Lib.byteCells [c] = [.int .u8 (c.toNat : Int)] := rfl
theorem strCells_mk (l : List UInt8) : Lib.strCells (mkS l) = Lib.byteCells l := rfl
theorem bc_join (x y : List UInt8) (b : UInt8) : Lib.byteCells (x ++ b :: y) = Lib.byteCells x ++ [.int .u8 (b.toNat : Int)] ++ Lib.strCells (mkS y) := by
  rw [strCells_mk, ← byteCells_one, ← Lib.byteCells_append, ← Lib.byteCells_append, List.append_assoc]; rfl

end Go.Proofs.Ytndjdmbbndcohaa
