/-
  Plain mathematics for chapter 2: the next release is greater than the version, and no release lies between.
-/
import Derived.Test.YtdkdghbmeoeliaaDoorVBump
import Derived.Test.YtdkdghbmeoeliaaDoorVer4
namespace Go.Proofs.YtdkdghbmeoeliaaDoor
open Go.RowKit

theorem bump2 {v : Ver} (h : v.may = true) : bumpOk v 2 = true ↔ v.pat ≠ 9999 := by
  unfold bumpOk; rw [h, show nth3 v.maj v.min v.pat (2 : Int).toNat = v.pat from rfl]; simp
theorem bump1 {v : Ver} (h : v.may = true) : bumpOk v 1 = true ↔ v.min ≠ 9999 := by
  unfold bumpOk; rw [h, show nth3 v.maj v.min v.pat (1 : Int).toNat = v.min from rfl]; simp
theorem bump0 {v : Ver} (h : v.may = true) : bumpOk v 0 = true ↔ v.maj ≠ 9999 := by
  unfold bumpOk; rw [h, show nth3 v.maj v.min v.pat (0 : Int).toNat = v.maj from rfl]; simp
theorem rel_in {a b c : Int} (ha : 0 ≤ a ∧ a ≤ 9999) (hb : 0 ≤ b ∧ b ≤ 9999) (hc : 0 ≤ c ∧ c ≤ 9999) : (Ver.rel a b c).may = true := by
  rw [rel_may4, num_in ha, num_in hb, num_in hc]; rfl
/-- What Next finds: a release; its code. -/
theorem next_is {v : Ver} (h : v.may = true) : (nextOk v = false ∧ v.pre = [] ∧ v.code = 999999999999) ∨
    (nextOk v = true ∧ ∃ a b c, nextV v = Ver.rel a b c ∧ (Ver.rel a b c).may = true ∧ ((v.pre = [] ∧ (Ver.rel a b c).code = v.code + 1) ∨ (v.pre ≠ [] ∧ (Ver.rel a b c).code = v.code))) := by
  obtain ⟨h1, h2, h3⟩ := may_nat h
  unfold nextOk nextV
  rw [h]
  by_cases hp : v.pre = []
  · have e : v.pre.isEmpty = true := by rw [hp]; rfl
    rw [e]
    by_cases k2 : v.pat = 9999
    · have b2 : bumpOk v 2 = false := Bool.eq_false_iff.2 (fun e => (bump2 h).1 e k2)
      rw [b2]
      by_cases k1 : v.min = 9999
      · have b1 : bumpOk v 1 = false := Bool.eq_false_iff.2 (fun e => (bump1 h).1 e k1)
        rw [b1]
        by_cases k0 : v.maj = 9999
        · have b0 : bumpOk v 0 = false := Bool.eq_false_iff.2 (fun e => (bump0 h).1 e k0)
          rw [b0]
          exact .inl ⟨rfl, hp, by unfold Ver.code; omega⟩
        · have b0 := (bump0 h).2 k0
          have bv : bumpV v 0 = Ver.rel (v.maj + 1) 0 0 := by unfold bumpV; rw [b0]; rfl
          rw [b0, bv]
          exact .inr ⟨rfl, v.maj + 1, 0, 0, rfl, rel_in (by omega) (by omega) (by omega), .inl ⟨hp, by unfold Ver.code Ver.rel; dsimp only; omega⟩⟩
      · have b1 := (bump1 h).2 k1
        have bv : bumpV v 1 = Ver.rel v.maj (v.min + 1) 0 := by unfold bumpV; rw [b1]; rfl
        rw [b1, bv]
        exact .inr ⟨rfl, v.maj, v.min + 1, 0, rfl, rel_in (by omega) (by omega) (by omega), .inl ⟨hp, by unfold Ver.code Ver.rel; dsimp only; omega⟩⟩
    · have b2 := (bump2 h).2 k2
      have bv : bumpV v 2 = Ver.rel v.maj v.min (v.pat + 1) := by unfold bumpV; rw [b2]; rfl
      rw [b2, bv]
      exact .inr ⟨rfl, v.maj, v.min, v.pat + 1, rfl, rel_in (by omega) (by omega) (by omega), .inl ⟨hp, by unfold Ver.code Ver.rel; dsimp only; omega⟩⟩
  · have e : v.pre.isEmpty = false := List.isEmpty_eq_false_iff.2 hp
    rw [e]
    exact .inr ⟨rfl, v.maj, v.min, v.pat, rfl, rel_in h1 h2 h3, .inr ⟨hp, rfl⟩⟩
theorem code_max {v : Ver} (h : v.may = true) : 0 ≤ v.code ∧ v.code ≤ 999999999999 := by
  obtain ⟨h1, h2, h3⟩ := may_nat h
  unfold Ver.code; omega
theorem next_law {v r : Ver} (hv : v.may = true) (hr : r.may = true) (hp : r.pre = []) :
    (nextOk v = false ∧ cmpR r v ≤ 0) ∨
    (nextOk v = true ∧ ∃ a b c, nextV v = Ver.rel a b c ∧ cmpR v (Ver.rel a b c) = -1 ∧ ((cmpR v r = -1 ∧ cmpR (Ver.rel a b c) r ≤ 0) ∨ (¬ cmpR v r = -1 ∧ ¬ cmpR (Ver.rel a b c) r ≤ 0))) := by
  rcases next_is hv with ⟨h1, h2, h3⟩ | ⟨h1, a, b, c, h2, hm, h3⟩
  · refine .inl ⟨h1, (cmp_rel hv hr hp).2.2 ?_⟩
    have := (code_max hr).2
    rcases Int.lt_or_eq_of_le (show r.code ≤ v.code by omega) with h | h
    · exact .inl h
    · exact .inr ⟨h, h2⟩
  · refine .inr ⟨h1, a, b, c, h2, (cmp_rel hv hm rfl).1.2 ?_, ?_⟩
    · rcases h3 with ⟨g1, g2⟩ | ⟨g1, g2⟩
      · exact .inl (by omega)
      · exact .inr ⟨g2.symm, g1⟩
    · have e1 := (cmp_rel hv hr hp).1
      have e2 := (cmp_rel hr hm rfl).2
      have hcase : cmpR v r = -1 ↔ cmpR (Ver.rel a b c) r ≤ 0 := by
        rw [e1, e2]
        rcases h3 with ⟨g1, g2⟩ | ⟨g1, g2⟩
        · constructor
          · rintro (h | ⟨_, h⟩)
            · rcases Int.lt_or_eq_of_le (show (Ver.rel a b c).code ≤ r.code by omega) with h' | h'
              · exact .inl h'
              · exact .inr ⟨h', hp⟩
            · exact absurd g1 h
          · rintro (h | ⟨h, _⟩)
            · exact .inl (by omega)
            · exact .inl (by omega)
        · constructor
          · rintro (h | ⟨h, _⟩)
            · exact .inl (by omega)
            · exact .inr ⟨by omega, hp⟩
          · rintro (h | ⟨h, _⟩)
            · exact .inl (by omega)
            · exact .inr ⟨by omega, g1⟩
      by_cases g : cmpR v r = -1
      · exact .inl ⟨g, hcase.1 g⟩
      · exact .inr ⟨g, fun h => g (hcase.2 h)⟩
end Go.Proofs.YtdkdghbmeoeliaaDoor
