/-
  Plain mathematics for chapter 2: what is bumped lies above the version and its next release.
-/
import Derived.Test.YtdkdghbmeoeliaaDoorVer5
namespace Go.Proofs.YtdkdghbmeoeliaaDoor
open Go.RowKit

theorem bump_val {v : Ver} (k : Nat) (h : bumpOk v k = true) : bumpV v k = bumpN v k := by
  unfold bumpV; rw [if_pos h]; rfl
theorem bumpN_code {v : Ver} (hv : v.may = true) (k : Nat) (hk : k < 3) (h : bumpOk v k = true) :
    ∃ a b c, bumpN v k = Ver.rel a b c ∧ (Ver.rel a b c).may = true ∧ v.code + 1 ≤ (Ver.rel a b c).code ∧
      ((k = 0 ∧ (Ver.rel a b c).code = (v.maj + 1) * 100000000) ∨ (k = 1 ∧ (Ver.rel a b c).code = (v.maj * 10000 + v.min + 1) * 10000 ∧ v.min ≤ 9998) ∨ (k = 2 ∧ (Ver.rel a b c).code = v.code + 1 ∧ v.pat ≤ 9998)) := by
  obtain ⟨h1, h2, h3⟩ := may_nat hv
  match k, hk with
  | 0, _ =>
    have := (bump0 hv).1 h
    exact ⟨v.maj + 1, 0, 0, rfl, rel_in (by omega) (by omega) (by omega), by unfold Ver.code Ver.rel; dsimp only; omega, .inl ⟨rfl, by unfold Ver.code Ver.rel; dsimp only; omega⟩⟩
  | 1, _ =>
    have := (bump1 hv).1 h
    exact ⟨v.maj, v.min + 1, 0, rfl, rel_in (by omega) (by omega) (by omega), by unfold Ver.code Ver.rel; dsimp only; omega, .inr (.inl ⟨rfl, by unfold Ver.code Ver.rel; dsimp only; omega, by omega⟩)⟩
  | 2, _ =>
    have := (bump2 hv).1 h
    exact ⟨v.maj, v.min, v.pat + 1, rfl, rel_in (by omega) (by omega) (by omega), by unfold Ver.code Ver.rel; dsimp only; omega, .inr (.inr ⟨rfl, by unfold Ver.code Ver.rel; dsimp only; omega, by omega⟩)⟩
theorem rel_le {a b c d e f : Int} (h1 : (Ver.rel a b c).may = true) (h2 : (Ver.rel d e f).may = true) (h : (Ver.rel a b c).code ≤ (Ver.rel d e f).code) : cmpR (Ver.rel a b c) (Ver.rel d e f) ≤ 0 := by
  refine (cmp_rel h2 h1 rfl).2.2 ?_
  rcases Int.lt_or_eq_of_le h with h | h
  · exact .inl h
  · exact .inr ⟨h, rfl⟩
theorem above_law {v : Ver} (hv : v.may = true) (k : Nat) (hk : k < 3) (hb : bumpOk v k = true) :
    ∃ a b c n1 n2 n3, bumpV v k = Ver.rel a b c ∧ nextOk v = true ∧ nextV v = Ver.rel n1 n2 n3 ∧ cmpR v (Ver.rel a b c) = -1 ∧ cmpR (Ver.rel n1 n2 n3) (Ver.rel a b c) ≤ 0 ∧
      (k = 0 ∨ (k ≠ 0 ∧ bumpOk v ((k : Int) - 1) = false) ∨ (k ≠ 0 ∧ bumpOk v ((k : Int) - 1) = true ∧ ∃ d e f, bumpV v ((k : Int) - 1) = Ver.rel d e f ∧ cmpR (Ver.rel a b c) (Ver.rel d e f) ≤ 0)) := by
  obtain ⟨a, b, c, e1, m1, l1, q1⟩ := bumpN_code hv k hk hb
  obtain ⟨z1, z2, z3⟩ := may_nat hv
  rcases next_is hv with ⟨g1, g2, g3⟩ | ⟨g1, n1, n2, n3, g2, g3, g4⟩
  · exfalso
    have := (code_max m1).2
    omega
  · refine ⟨a, b, c, n1, n2, n3, (bump_val k hb).trans e1, g1, g2, (cmp_rel hv m1 rfl).1.2 (.inl (by omega)), rel_le g3 m1 (by rcases g4 with ⟨_, g4⟩ | ⟨_, g4⟩ <;> omega), ?_⟩
    by_cases k0 : k = 0
    · exact .inl k0
    · cases hu : bumpOk v ((k : Int) - 1) with
      | false => exact .inr (.inl ⟨k0, rfl⟩)
      | true =>
        refine .inr (.inr ⟨k0, rfl, ?_⟩)
        have hk1 : ((k : Int) - 1) = ((k - 1 : Nat) : Int) := by omega
        rw [hk1] at hu ⊢
        obtain ⟨d, e, f, e2, m2, l2, q2⟩ := bumpN_code hv (k - 1) (by omega) hu
        refine ⟨d, e, f, (bump_val (k - 1) hu).trans e2, rel_le m1 m2 ?_⟩
        have hcv : v.code = (v.maj * 10000 + v.min) * 10000 + v.pat := rfl
        rcases q1 with ⟨x, y⟩ | ⟨x, y, w⟩ | ⟨x, y, w⟩ <;> rcases q2 with ⟨x', y'⟩ | ⟨x', y', w'⟩ | ⟨x', y', w'⟩ <;> omega
end Go.Proofs.YtdkdghbmeoeliaaDoor
