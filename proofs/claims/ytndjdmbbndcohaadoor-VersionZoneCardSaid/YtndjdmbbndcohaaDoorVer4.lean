/-
  Plain mathematics for chapter 2: what follows from the order of versions: total, Build ignored, the next release, the zone of a release's pre-releases; and the versions that numbers name.
-/
import Derived.Test.YtndjdmbbndcohaaDoorVer3
namespace Go.Proofs.YtndjdmbbndcohaaDoor
open Go.RowKit

theorem cmpB_eq (a : List UInt8) : ∀ b, Lib.compareBytes a b = 0 → a = b := by
  induction a with
  | nil => intro b; cases b <;> simp [Lib.compareBytes]
  | cons x l ih =>
    intro b
    cases b with
    | nil => simp [Lib.compareBytes]
    | cons y m =>
      rw [Lib.compareBytes]
      by_cases h1 : x < y
      · rw [if_pos h1]; intro h; omega
      · by_cases h2 : y < x
        · rw [if_neg h1, if_pos h2]; intro h; omega
        · rw [if_neg h1, if_neg h2]
          intro h
          rw [ih m h, UInt8.le_antisymm (UInt8.not_lt.1 h2) (UInt8.not_lt.1 h1)]
theorem fine_num {t : List UInt8} (h : fine t = true) (hn : numer t = true) : t = Lib.decDigits (numD t).toNat := by
  unfold fine at h; rw [Bool.and_eq_true] at h
  have hi := (numI_numer h.2).trans hn
  unfold numI at hi
  obtain ⟨n, hg⟩ := Option.isSome_iff_exists.1 hi
  have e := (numGo_back t n hg).1
  have hd : numD t = (n : Nat) := by unfold numD; rw [hg]; rfl
  rw [hd]; exact e
theorem oneR_zero {a b : List UInt8} (fa : fine a = true) (fb : fine b = true) (h : oneR a b = 0) : a = b := by
  unfold oneR at h
  cases ha : numer a <;> cases hb : numer b
  · rw [ha, hb] at h; exact cmpB_eq a b (by simpa using h)
  · rw [ha, hb] at h; simp at h
  · rw [ha, hb] at h; simp at h
  · rw [ha, hb] at h
    have e := compareInt_zero (by simpa using h)
    rw [fine_num fa ha, fine_num fb hb, e]
theorem presL_zero (l : List (List UInt8)) : ∀ m, l.all fine = true → m.all fine = true → presL l m = 0 → l = m := by
  induction l with
  | nil => intro m _ _ h; cases m <;> simp [presL] at h ⊢
  | cons a l ih =>
    intro m fl fm h
    cases m with
    | nil => simp [presL] at h
    | cons b m =>
      rw [List.all_cons, Bool.and_eq_true] at fl fm
      rw [presL] at h
      by_cases h0 : oneR a b = 0
      · rw [if_neg (by simpa using h0)] at h
        rw [oneR_zero fl.1 fm.1 h0, ih m fl.2 fm.2 h]
      · rw [if_pos h0] at h; exact absurd h h0
theorem presR_zero {a b : List UInt8} (ha : preOk a = true) (hb : preOk b = true) (h : presR a b = 0) : a = b := by
  unfold presR at h
  by_cases h0 : a = b
  · exact h0
  · rw [if_neg h0] at h
    by_cases h1 : a = []
    · rw [if_pos h1] at h; omega
    · by_cases h2 : b = []
      · rw [if_neg h1, if_pos h2] at h; omega
      · rw [if_neg h1, if_neg h2] at h
        have e := presL_zero _ _ (pre_fine ha h1).2.1 (pre_fine hb h2).2.1 h
        have j1 := join_split 46 a []
        have j2 := join_split 46 b []
        unfold pcs at e
        rw [e] at j1
        simpa using j1.symm.trans j2
theorem may_pre {v : Ver} (h : v.may = true) : preOk v.pre = true := by
  unfold Ver.may at h; simp only [Bool.and_eq_true] at h; exact h.1.2
theorem cmpR_zero {v w : Ver} (hv : v.may = true) (hw : w.may = true) (h : cmpR v w = 0) : coreV v = coreV w := by
  by_cases hc : coreV v = coreV w
  · exact hc
  · unfold cmpR at h
    rw [hv, hw] at h
    simp only [Bool.and_true, if_true] at h
    by_cases h0 : cmpN v w = 0
    · rw [if_neg (by simpa using h0)] at h
      have hp := presR_zero (may_pre hv) (may_pre hw) h
      unfold cmpN at h0
      by_cases g1 : Lib.compareInt v.maj w.maj = 0
      · rw [if_neg (by simpa using g1)] at h0
        by_cases g2 : Lib.compareInt v.min w.min = 0
        · rw [if_neg (by simpa using g2)] at h0
          unfold coreV
          rw [compareInt_zero g1, compareInt_zero g2, compareInt_zero h0, hp]
        · rw [if_pos g2] at h0; exact absurd h0 g2
      · rw [if_pos g1] at h0; exact absurd h0 g1
    · rw [if_pos h0] at h; exact absurd h h0

/-! ### Order -/
theorem core_may {v : Ver} (h : v.may = true) : (coreV v).may = true := by
  have e : listOk [] = true := by decide
  unfold Ver.may at h ⊢; simp only [Bool.and_eq_true] at h ⊢
  exact ⟨⟨h.1.1, h.1.2⟩, e⟩
theorem order_anti {a b : Ver} (ha : a.may = true) (hb : b.may = true) : cmpR b a = - cmpR a b := by
  rw [cmpR_key hb ha, cmpR_key ha hb, cmpL_anti]
theorem order_self {a : Ver} : cmpR a a = 0 := cmpR_core rfl
theorem order_core {a b : Ver} (ha : a.may = true) (hb : b.may = true) : cmpR (coreV a) b = cmpR a b := by
  rw [cmpR_key (core_may ha) hb, cmpR_key ha hb]; rfl
theorem order_eq {a b : Ver} (ha : a.may = true) (hb : b.may = true) : cmpR a b = 0 ↔ coreV a = coreV b := ⟨cmpR_zero ha hb, cmpR_core⟩
theorem order_on {a b c : Ver} (ha : a.may = true) (hb : b.may = true) (hc : c.may = true) : 0 < cmpR a b ∨ 0 < cmpR b c ∨ (cmpR a c ≤ 0 ∧ ((cmpR a b = 0 ∧ cmpR b c = 0) ↔ cmpR a c = 0)) := by
  rw [cmpR_key ha hb, cmpR_key hb hc, cmpR_key ha hc]
  by_cases h1 : cmpL a.key b.key ≤ 0
  · by_cases h2 : cmpL b.key c.key ≤ 0
    · obtain ⟨h3, h4⟩ := cmpL_trans _ _ _ h1 h2
      refine .inr (.inr ⟨h3, fun ⟨e1, e2⟩ => ?_, h4⟩)
      rw [cmpL_zero _ _ e1, cmpL_zero _ _ e2, cmpL_self]
    · exact .inr (.inl (by omega))
  · exact .inl (by omega)

/-! ### Numbers as one -/
def Ver.code (v : Ver) : Int := (v.maj * 10000 + v.min) * 10000 + v.pat
theorem ci_lt {x y : Int} (h : x < y) : Lib.compareInt x y = -1 := by unfold Lib.compareInt; rw [if_pos h]
theorem ci_gt {x y : Int} (h : y < x) : Lib.compareInt x y = 1 := by unfold Lib.compareInt; rw [if_neg (by omega), if_pos h]
theorem cmpN_code {v w : Ver} (hv : v.may = true) (hw : w.may = true) : cmpN v w = Lib.compareInt v.code w.code := by
  obtain ⟨v1, v2, v3⟩ := may_nat hv
  obtain ⟨w1, w2, w3⟩ := may_nat hw
  rcases Int.lt_trichotomy v.maj w.maj with h1 | h1 | h1
  · have e : Lib.compareInt v.code w.code = -1 := ci_lt (by unfold Ver.code; omega)
    rw [e]; unfold cmpN; rw [ci_lt h1]; rfl
  · rcases Int.lt_trichotomy v.min w.min with h2 | h2 | h2
    · have e : Lib.compareInt v.code w.code = -1 := ci_lt (by unfold Ver.code; omega)
      rw [e]; unfold cmpN; rw [h1, compareInt_self, if_neg (by simp), ci_lt h2]; rfl
    · rcases Int.lt_trichotomy v.pat w.pat with h3 | h3 | h3
      · have e : Lib.compareInt v.code w.code = -1 := ci_lt (by unfold Ver.code; omega)
        rw [e]; unfold cmpN; rw [h1, h2, compareInt_self, if_neg (by simp), compareInt_self, if_neg (by simp), ci_lt h3]
      · have e : v.code = w.code := by unfold Ver.code; omega
        rw [e, compareInt_self]; unfold cmpN; rw [h1, h2, h3, compareInt_self, if_neg (by simp), compareInt_self, if_neg (by simp), compareInt_self]
      · have e : Lib.compareInt v.code w.code = 1 := ci_gt (by unfold Ver.code; omega)
        rw [e]; unfold cmpN; rw [h1, h2, compareInt_self, if_neg (by simp), compareInt_self, if_neg (by simp), ci_gt h3]
    · have e : Lib.compareInt v.code w.code = 1 := ci_gt (by unfold Ver.code; omega)
      rw [e]; unfold cmpN; rw [h1, compareInt_self, if_neg (by simp), ci_gt h2]; rfl
  · have e : Lib.compareInt v.code w.code = 1 := ci_gt (by unfold Ver.code; omega)
    rw [e]; unfold cmpN; rw [ci_gt h1]; rfl
theorem cmpR_code {v w : Ver} (hv : v.may = true) (hw : w.may = true) : cmpR v w = if v.code < w.code then -1 else if w.code < v.code then 1 else presR v.pre w.pre := by
  unfold cmpR
  rw [hv, hw, cmpN_code hv hw]
  unfold Lib.compareInt
  simp only [Bool.and_true, if_true]
  by_cases h1 : v.code < w.code
  · simp [h1]
  · by_cases h2 : w.code < v.code
    · simp [h1, h2]
    · simp [h1, h2]

/-! ### The next release; bumps -/
theorem rel_may4 (a b c : Int) : (Ver.rel a b c).may = (numOkI a && numOkI b && numOkI c) := by
  unfold Ver.may Ver.rel
  have h1 : preOk [] = true := by decide
  have h2 : listOk [] = true := by decide
  dsimp only
  rw [h1, h2, Bool.and_true, Bool.and_true]
theorem num_in {a : Int} (h : 0 ≤ a ∧ a ≤ 9999) : numOkI a = true := by unfold numOkI; simp; omega
theorem presR_nil {p : List UInt8} (h : p ≠ []) : presR p [] = -1 := by unfold presR; rw [if_neg h, if_neg h, if_pos rfl]
/-- A version against a release. -/
theorem cmp_rel {v r : Ver} (hv : v.may = true) (hr : r.may = true) (hp : r.pre = []) : (cmpR v r = -1 ↔ (v.code < r.code ∨ (v.code = r.code ∧ v.pre ≠ []))) ∧ (cmpR r v ≤ 0 ↔ (r.code < v.code ∨ (r.code = v.code ∧ v.pre = []))) := by
  rw [cmpR_code hv hr, cmpR_code hr hv, hp]
  by_cases h1 : v.code < r.code
  · simp [h1]; omega
  · by_cases h2 : r.code < v.code
    · simp [h1, h2]; omega
    · have he : v.code = r.code := by omega
      by_cases h3 : v.pre = []
      · rw [h3]; simp [he, presR]
      · rw [presR_nil h3]
        have e : presR [] v.pre = 1 := by unfold presR; rw [if_neg (fun e => h3 e.symm), if_pos rfl]
        rw [e]; simp [he, h3]
end Go.Proofs.YtndjdmbbndcohaaDoor
