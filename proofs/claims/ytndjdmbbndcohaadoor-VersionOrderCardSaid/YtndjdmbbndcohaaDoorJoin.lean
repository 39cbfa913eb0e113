/-
  Package ident's Join and the document's own answer's Join: both return, for every slice of strings and every byte, the strings with the byte between adjacent ones. Condition: the result has at most a billion bytes.
-/
import Derived.Test.YtndjdmbbndcohaaDoorSplitR
import Derived.Test.YtndjdmbbndcohaaDoorOwn
import Derived.Test.YtndjdmbbndcohaaDoorBuild
import Derived.Test.YtndjdmbbndcohaaDoorDig
namespace Go.Proofs.YtndjdmbbndcohaaDoor
open Go.RowKit

theorem joinL_snoc (b : UInt8) (P : List (List UInt8)) (x : List UInt8) : joinL b (P ++ [x]) = if P = [] then x else joinL b P ++ b :: x := by
  induction P with
  | nil => rfl
  | cons y r ih =>
    rw [if_neg (by simp)]
    cases r with
    | nil => rfl
    | cons z r2 =>
      rw [List.cons_append, List.cons_append, joinL, ← List.cons_append, ih, if_neg (by simp), joinL, List.append_assoc]; rfl
theorem joinL_take_le (b : UInt8) (l : List (List UInt8)) : ∀ k, (joinL b (l.take k)).length ≤ (joinL b l).length := by
  intro k
  induction l generalizing k with
  | nil => simp
  | cons y r ih =>
    cases k with
    | zero => simp [joinL]
    | succ k =>
      cases r with
      | nil => simp
      | cons z r2 =>
        cases k with
        | zero => simp [joinL]
        | succ k =>
          have := ih (k + 1)
          rw [List.take_succ_cons] at this ⊢
          rw [List.take_succ_cons, joinL, joinL]
          simp only [List.length_append, List.length_cons]
          omega

/-- A slice value that reads as the list l of strings, below block B. -/
def ReadsT (w : World) (B : Nat) (v : Value) (l : List (List UInt8)) : Prop :=
  ∃ A cap, v = .slice A l.length cap ∧ (0 < l.length → ∃ ad : Addr, A = some ad ∧ ad.block < B ∧ ∀ j (h : j < l.length), w.cell? (ad.add j) = some (.string (mkS l[j])))
theorem addr_block (a : Addr) (n : Nat) : (a.add n).block = a.block := by unfold Addr.add; split <;> rfl
theorem ReadsT.below {w w' : World} {B : Nat} {v : Value} {l : List (List UInt8)} (h : ReadsT w B v l) (hb : Below B w w') : ReadsT w' B v l := by
  obtain ⟨A, cap, e, hc⟩ := h
  refine ⟨A, cap, e, fun h0 => ?_⟩
  obtain ⟨ad, e2, hlt, hcell⟩ := hc h0
  exact ⟨ad, e2, hlt, fun j hj => (hb.cell (by rw [addr_block]; exact hlt)).trans (hcell j hj)⟩
theorem ReadsT.more {w : World} {B B' : Nat} {v : Value} {l : List (List UInt8)} (h : ReadsT w B v l) (hB : B ≤ B') : ReadsT w B' v l := by
  obtain ⟨A, cap, e, hc⟩ := h
  refine ⟨A, cap, e, fun h0 => ?_⟩
  obtain ⟨ad, e2, hlt, hcell⟩ := hc h0
  exact ⟨ad, e2, by omega, hcell⟩
theorem ReadsT.of_own {w : World} {base : Nat} {e : TypeId} {v : Value} {l : List (List UInt8)} (h : w.ownsRow base e 1 v l.length (strV l)) : ReadsT w w.heap.size v l := by
  rcases h.2 with ⟨rfl, h0⟩ | ⟨g, cap, cur, rfl, hg, hh, hn, _⟩
  · exact ⟨none, 0, by rw [h0], fun hpos => by omega⟩
  · refine ⟨some ⟨g, 0, none⟩, cap, rfl, fun hpos => ⟨⟨g, 0, none⟩, rfl, (Array.getElem?_eq_some_iff.1 hh).1, fun j hj => ?_⟩⟩
    exact h.cells (g := g) rfl j _ (by unfold strV; rw [List.getElem?_map, List.getElem?_eq_getElem hj]; rfl)

theorem one_mk (b : UInt8) : one (b.toNat : Int) = mkS [b] := by
  unfold one mkS
  simp
theorem mkS_append (a b : List UInt8) : mkS a ++ mkS b = mkS (a ++ b) := by
  unfold mkS; apply ByteArray.ext; simp
theorem mkS_size (a : List UInt8) : (mkS a).size = a.length := by unfold mkS; simp [ByteArray.size]
theorem take_snocL (l : List (List UInt8)) (k : Nat) (h : k < l.length) : l.take (k + 1) = l.take k ++ [l[k]] := by
  rw [List.take_succ_eq_append_getElem h]
theorem take_nil_iff (l : List (List UInt8)) (k : Nat) (h : k < l.length) (h0 : 0 < k) : l.take k ≠ [] := by
  intro e; have := congrArg List.length e; rw [List.length_take, List.length_nil] at this; omega

theorem byteCells_one (c : UInt8) : Lib.byteCells [c] = [.int .u8 (c.toNat : Int)] := rfl
theorem strCells_mk (l : List UInt8) : Lib.strCells (mkS l) = Lib.byteCells l := rfl
theorem bc_join (x y : List UInt8) (b : UInt8) : Lib.byteCells (x ++ b :: y) = Lib.byteCells x ++ [.int .u8 (b.toNat : Int)] ++ Lib.strCells (mkS y) := by
  rw [strCells_mk, ← byteCells_one, ← Lib.byteCells_append, ← Lib.byteCells_append, List.append_assoc]; rfl

set_option maxHeartbeats 2000000 in
theorem join_any (v : Value) (l : List (List UInt8)) (b : UInt8) (w : World) (hv : ReadsT w w.heap.size v l) (hl : (joinL b l).length ≤ 1000000000) (hn : l.length ≤ 1000000000) :
    Calls Tryd.prog 31 #[v, .int .u8 b.toNat] w fun e w' => e = .returned (.string (mkS (joinL b l))) ∧ Below w.heap.size w w' := by
  obtain ⟨A, cap, rfl, hcell⟩ := hv
  go_enter Tryd.func31, Tryd.ntmps31
  go_wp2
  go_loopw [10] (fun iv wr => ∃ (k : Nat), iv = .int .i64 k ∧ k ≤ l.length ∧ Lib.IsBuilder 69 5 w.heap.size w.heap.size (Lib.byteCells (joinL b (l.take k))) wr ∧ Below w.heap.size w wr) (fun iv _ => l.length - (intOf iv).toNat)
  case atStart => exact ⟨0, rfl, Nat.zero_le _, Lib.fresh_isBuilder 69 5 w, (Below.refl _ _).alloc (Nat.le_refl _) _⟩
  case round =>
    obtain ⟨k, rfl, hk, hI, hb⟩ := hrel
    have hsz := hb.size
    by_cases hp : k < l.length
    · obtain ⟨ad, rfl, hlt, hc⟩ := hcell (by omega)
      have hck : wr.cell? (ad.add k) = some (.string (mkS l[k])) := (hb.cell (by rw [addr_block]; exact hlt)).trans (hc k hp)
      have hln : (joinL b (l.take (k + 1))).length ≤ 1000000000 := Nat.le_trans (joinL_take_le b l (k + 1)) hl
      have HJ := Lib.hid (joinL_snoc b (l.take k) l[k])
      rw [← take_snocL l k hp] at HJ
      clear hc hcell
      by_cases h0 : k = 0
      · subst h0
        have hx2 : (mkS l[0]).size ≤ 1000000000 := by
          rw [mkS_size]; rw [HJ.out, if_pos List.take_zero] at hln; exact hln
        have hck0 : wr.cell? ad = some (.string (mkS l[0])) := hck
        clear hck
        go_wp2_with (go_at_call 40; refine (writeString_any w.heap.size w.heap.size _ (mkS l[0]) _ hI ?_ hsz).mono ?_)
        · rw [Lib.byteCells_length]; simp [joinL]; omega
        rintro e w1 ⟨rfl, h1, hb1⟩
        go_wp2
        go_roundw
        case rel => exact ⟨0 + 1, by go_num, by omega, by rw [HJ.out, if_pos List.take_zero]; exact Or.inr h1, hb.trans hb1⟩
        case measure => simp [intOf]; omega
      · have h0p : 0 < k := by omega
        have hlen : (joinL b (l.take k)).length + (l[k].length + 1) ≤ 1000000000 := by
          rw [HJ.out, if_neg (take_nil_iff l k hp h0p), List.length_append, List.length_cons] at hln; exact hln
        go_wp2_with (go_at_call 39; refine (writeByte_any w.heap.size w.heap.size _ _ _ hI ?_ hsz).mono ?_)
        · rw [Lib.byteCells_length]; omega
        rintro e w1 ⟨rfl, h1, hb1⟩
        have hsz1 := (hb.trans hb1).size
        go_wp2_with (go_at_call 40; refine (writeString_any w.heap.size w.heap.size _ (mkS l[k]) _ (Or.inr h1) ?_ hsz1).mono ?_)
        · rw [List.length_append, Lib.byteCells_length, mkS_size]; simp; omega
        rintro e w2 ⟨rfl, h2, hb2⟩
        go_wp2
        go_roundw
        case rel => exact ⟨k + 1, by go_num, by omega, by rw [HJ.out, if_neg (take_nil_iff l k hp h0p), bc_join]; exact Or.inr h2, (hb.trans hb1).trans hb2⟩
        case measure => simp [intOf]; omega
    · obtain rfl : k = l.length := by omega
      go_wp2_with (go_at_call 41; refine (Tryd.Builder_String_any w.heap.size w.heap.size _ _ hI hsz).mono ?_)
      rintro e w1 ⟨rfl, hb1⟩
      go_wp2
      go_ret
      exact ⟨ret_str rfl, hb.trans hb1⟩
end Go.Proofs.YtndjdmbbndcohaaDoor
