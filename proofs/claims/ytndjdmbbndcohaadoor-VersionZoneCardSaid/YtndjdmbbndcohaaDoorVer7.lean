/-
  Plain mathematics for chapter 2: a version with a Pre lies between the version with the Pre 0 and its release.
-/
import Derived.Test.YtndjdmbbndcohaaDoorVer4
namespace Go.Proofs.YtndjdmbbndcohaaDoor
open Go.RowKit

theorem zero_le {p : List UInt8} (hp : p ≠ []) : presR [48] p ≤ 0 := by
  unfold presR
  by_cases h : [48] = p
  · rw [if_pos h]; omega
  · rw [if_neg h, if_neg (by simp), if_neg hp]
    rw [show pcs [48] = [[48]] from by decide]
    cases hq : pcs p with
    | nil => exact absurd hq (splitL_ne 46 p [])
    | cons t rest =>
      rw [presL]
      have hn : numer [48] = true := by decide
      have hd : numD [48] = 0 := by decide
      have ho : oneR [48] t = -1 ∨ oneR [48] t = 0 := by
        unfold oneR
        rw [hn, hd]
        cases numer t with
        | false => simp
        | true =>
          have := numD_nat t
          unfold Lib.compareInt
          simp only [Bool.and_true, if_true]
          by_cases h0 : 0 < numD t
          · rw [if_pos h0]; simp
          · rw [if_neg h0, if_neg (by omega)]; simp
      rcases ho with ho | ho
      · rw [ho]; simp
      · rw [ho]
        cases rest <;> simp [presL]
theorem zone_may {v : Ver} (h : v.may = true) (p : List UInt8) (hp : preOk p = true) : (Ver.mk v.maj v.min v.pat p v.build).may = true := by
  unfold Ver.may at h ⊢; simp only [Bool.and_eq_true] at h ⊢
  exact ⟨⟨h.1.1, hp⟩, h.2⟩
theorem zone_rel {v : Ver} (h : v.may = true) (hp : v.pre ≠ []) : cmpR v ⟨v.maj, v.min, v.pat, [], v.build⟩ = -1 := by
  have e : preOk [] = true := by decide
  rw [cmpR_code h (zone_may h [] e)]
  have hc : (Ver.mk v.maj v.min v.pat [] v.build).code = v.code := rfl
  rw [hc, if_neg (by omega), if_neg (by omega), presR_nil hp]
theorem zone_least {v : Ver} (h : v.may = true) (hp : v.pre ≠ []) : cmpR ⟨v.maj, v.min, v.pat, [48], v.build⟩ v ≤ 0 := by
  have e : preOk [48] = true := by decide
  rw [cmpR_code (zone_may h [48] e) h]
  have hc : (Ver.mk v.maj v.min v.pat [48] v.build).code = v.code := rfl
  rw [hc, if_neg (by omega), if_neg (by omega)]
  exact zero_le hp
theorem zone_less {v w : Ver} (hv : v.may = true) (hw : w.may = true) (h : w.maj < v.maj ∨ (w.maj = v.maj ∧ (w.min < v.min ∨ (w.min = v.min ∧ w.pat < v.pat)))) : cmpR w ⟨v.maj, v.min, v.pat, [48], v.build⟩ = -1 := by
  have e : preOk [48] = true := by decide
  obtain ⟨v1, v2, v3⟩ := may_nat hv
  obtain ⟨w1, w2, w3⟩ := may_nat hw
  rw [cmpR_code hw (zone_may hv [48] e)]
  have hc : (Ver.mk v.maj v.min v.pat [48] v.build).code = v.code := rfl
  rw [hc, if_pos (by unfold Ver.code; omega)]
end Go.Proofs.YtndjdmbbndcohaaDoor
