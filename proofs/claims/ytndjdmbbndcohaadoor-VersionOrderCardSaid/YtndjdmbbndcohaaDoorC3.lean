/-
  Plain mathematics for chapter 3: cuts, their order, what stands ahead of a version, spans; and the cuts that numbers name.
-/
import Derived.Test.YtndjdmbbndcohaaDoorVer4
import Derived.Test.YtndjdmbbndcohaaDoorLaw2g
namespace Go.Proofs.YtndjdmbbndcohaaDoor
open Go.RowKit
set_option linter.unusedVariables false
set_option linter.unusedSimpArgs false

structure Cu where
  e : Int
  v : Ver
  aft : Bool
deriving DecidableEq

def Cu.may (c : Cu) : Bool := if c.e = 0 then c.v.may && c.v.build.isEmpty else decide (c.e = -1 ∨ c.e = 1) && decide (c.v = Ver.zero) && !c.aft
def b01 (b : Bool) : Int := if b then 1 else 0
def lex (x y : Int) : Int := if x = 0 then y else x
def cmpC (a b : Cu) : Int := if a.may && b.may then lex (Lib.compareInt a.e b.e) (lex (cmpR a.v b.v) (Lib.compareInt (b01 a.aft) (b01 b.aft))) else 0
theorem zero_may : Ver.zero.may = true := by decide
theorem may_v {c : Cu} (h : c.may = true) : c.v.may = true := by
  unfold Cu.may at h
  split at h
  · rw [Bool.and_eq_true] at h; exact h.1
  · simp only [Bool.and_eq_true, decide_eq_true_eq] at h; rw [h.1.2]; exact zero_may
theorem may_e {c : Cu} (h : c.may = true) : (c.e = 0 ∧ c.v.build = []) ∨ ((c.e = -1 ∨ c.e = 1) ∧ c.v = Ver.zero ∧ c.aft = false) := by
  unfold Cu.may at h
  split at h
  · rename_i h0; rw [Bool.and_eq_true] at h; exact .inl ⟨h0, List.isEmpty_iff.1 h.2⟩
  · simp only [Bool.and_eq_true, decide_eq_true_eq, Bool.not_eq_true'] at h; exact .inr ⟨h.1.1, h.1.2, h.2⟩
theorem may_build {c : Cu} (h : c.may = true) : c.v.build = [] := by
  rcases may_e h with h | h
  · exact h.2
  · rw [h.2.1]; rfl
theorem cmpR_range {v w : Ver} : cmpR v w = -1 ∨ cmpR v w = 0 ∨ cmpR v w = 1 := by
  by_cases hv : v.may = true
  · by_cases hw : w.may = true
    · rw [cmpR_key hv hw]; exact cmpL_range _ _
    · exact .inr (.inl (cmpR_bad (.inr (by simpa using hw))))
  · exact .inr (.inl (cmpR_bad (.inl (by simpa using hv))))
theorem ci_range (x y : Int) : Lib.compareInt x y = -1 ∨ Lib.compareInt x y = 0 ∨ Lib.compareInt x y = 1 := by
  unfold Lib.compareInt
  by_cases h : x < y
  · rw [if_pos h]; simp
  · rw [if_neg h]
    by_cases h2 : y < x
    · rw [if_pos h2]; simp
    · rw [if_neg h2]; simp
theorem cmpC_good {a b : Cu} (ha : a.may = true) (hb : b.may = true) : cmpC a b = lex (Lib.compareInt a.e b.e) (lex (cmpR a.v b.v) (Lib.compareInt (b01 a.aft) (b01 b.aft))) := by
  unfold cmpC; rw [ha, hb]; rfl
theorem cmpC_range (a b : Cu) : cmpC a b = -1 ∨ cmpC a b = 0 ∨ cmpC a b = 1 := by
  unfold cmpC lex
  have h1 := ci_range a.e b.e
  have h2 := cmpR_range (v := a.v) (w := b.v)
  have h3 := ci_range (b01 a.aft) (b01 b.aft)
  split
  · split
    · split
      · exact h3
      · exact h2
    · exact h1
  · simp

/-! ### Orders put one behind the other -/
structure Ord3 {α : Type} (c : α → α → Int) : Prop where
  anti : ∀ x y, c y x = - c x y
  on : ∀ x y z, c x y ≤ 0 → c y z ≤ 0 → c x z ≤ 0 ∧ (c x z = 0 → c x y = 0 ∧ c y z = 0)
  same : ∀ x y z, c x y = 0 → c y z = 0 → c x z = 0
theorem lex_ord {α : Type} {c d : α → α → Int} (hc : Ord3 c) (hd : Ord3 d) : Ord3 (fun x y => lex (c x y) (d x y)) := by
  refine ⟨fun x y => ?_, fun x y z h1 h2 => ?_, fun x y z h1 h2 => ?_⟩
  · have a := hc.anti x y; have b := hd.anti x y
    show lex (c y x) (d y x) = - lex (c x y) (d x y)
    unfold lex
    by_cases h : c x y = 0
    · rw [if_pos h, if_pos (by omega)]; exact b
    · rw [if_neg h, if_neg (by omega)]; exact a
  · have a := hc.on x y z; have b := hd.on x y z; have s := hc.same x y z
    show lex _ _ ≤ 0 ∧ (lex _ _ = 0 → lex _ _ = 0 ∧ lex _ _ = 0)
    replace h1 : lex (c x y) (d x y) ≤ 0 := h1
    replace h2 : lex (c y z) (d y z) ≤ 0 := h2
    unfold lex at h1 h2 ⊢
    by_cases p : c x y = 0
    · by_cases q : c y z = 0
      · rw [if_pos p] at h1 ⊢; rw [if_pos q] at h2 ⊢; rw [if_pos (s p q)]; exact b h1 h2
      · rw [if_pos p] at h1 ⊢; rw [if_neg q] at h2 ⊢
        obtain ⟨a1, a2⟩ := a (by omega) h2
        have : c x z ≠ 0 := fun e => q (a2 e).2
        rw [if_neg this]; exact ⟨a1, fun e => absurd e this⟩
    · rw [if_neg p] at h1 ⊢
      have h2' : c y z ≤ 0 := by
        by_cases q : c y z = 0
        · omega
        · rw [if_neg q] at h2; exact h2
      obtain ⟨a1, a2⟩ := a h1 h2'
      have : c x z ≠ 0 := fun e => p (a2 e).1
      rw [if_neg this]; exact ⟨a1, fun e => absurd e this⟩
  · have s := hc.same x y z; have t := hd.same x y z
    show lex _ _ = 0
    replace h1 : lex (c x y) (d x y) = 0 := h1
    replace h2 : lex (c y z) (d y z) = 0 := h2
    unfold lex at h1 h2 ⊢
    by_cases p : c x y = 0
    · by_cases q : c y z = 0
      · rw [if_pos p] at h1; rw [if_pos q] at h2; rw [if_pos (s p q)]; exact t h1 h2
      · rw [if_neg q] at h2; exact absurd h2 q
    · rw [if_neg p] at h1; exact absurd h1 p
theorem ci_ord {α : Type} (f : α → Int) : Ord3 (fun x y => Lib.compareInt (f x) (f y)) := by
  refine ⟨fun x y => ?_, fun x y z => ?_, fun x y z => ?_⟩ <;> unfold Lib.compareInt <;> (repeat' split) <;> omega
theorem cmpL_ord {α : Type} (f : α → List Nat) : Ord3 (fun x y => cmpL (f x) (f y)) := by
  refine ⟨fun x y => cmpL_anti _ _, fun x y z => cmpL_trans _ _ _, fun x y z h1 h2 => ?_⟩
  show cmpL (f x) (f z) = 0
  rw [cmpL_zero _ _ h1, cmpL_zero _ _ h2]; exact cmpL_self _
def cmpK (a b : Cu) : Int := lex (Lib.compareInt a.e b.e) (lex (cmpL a.v.key b.v.key) (Lib.compareInt (b01 a.aft) (b01 b.aft)))
theorem cmpK_ord : Ord3 cmpK := lex_ord (ci_ord (fun c : Cu => c.e)) (lex_ord (cmpL_ord (fun c : Cu => c.v.key)) (ci_ord (fun c : Cu => b01 c.aft)))
theorem cmpC_K {a b : Cu} (ha : a.may = true) (hb : b.may = true) : cmpC a b = cmpK a b := by
  rw [cmpC_good ha hb, cmpR_key (may_v ha) (may_v hb)]; rfl
theorem cmpC_bad {a b : Cu} (h : a.may = false ∨ b.may = false) : cmpC a b = 0 := by
  unfold cmpC
  rcases h with h | h <;> rw [h] <;> simp
theorem cut_anti {a b : Cu} : cmpC b a = - cmpC a b := by
  cases ha : a.may with
  | true =>
    cases hb : b.may with
    | true => rw [cmpC_K ha hb, cmpC_K hb ha]; exact cmpK_ord.anti _ _
    | false => rw [cmpC_bad (.inl hb), cmpC_bad (.inr hb)]; rfl
  | false => rw [cmpC_bad (a := a) (.inl ha), cmpC_bad (b := a) (.inr ha)]; rfl
theorem cut_on {a b c : Cu} (ha : a.may = true) (hb : b.may = true) (hc : c.may = true) (h1 : cmpC a b ≤ 0) (h2 : cmpC b c ≤ 0) : cmpC a c ≤ 0 ∧ (cmpC a c = 0 → cmpC a b = 0 ∧ cmpC b c = 0) := by
  rw [cmpC_K ha hb] at h1 ⊢; rw [cmpC_K hb hc] at h2 ⊢; rw [cmpC_K ha hc]; exact cmpK_ord.on _ _ _ h1 h2
theorem cut_same {a b c : Cu} (ha : a.may = true) (hb : b.may = true) (hc : c.may = true) (h1 : cmpC a b = 0) (h2 : cmpC b c = 0) : cmpC a c = 0 := by
  rw [cmpC_K ha hb] at h1; rw [cmpC_K hb hc] at h2; rw [cmpC_K ha hc]; exact cmpK_ord.same _ _ _ h1 h2
theorem lex_neg (x : Int) : lex (-1) x = -1 := rfl
theorem lex_pos (x : Int) : lex 1 x = 1 := rfl
theorem lex_0 (x : Int) : lex 0 x = x := rfl
theorem lex_zero {x y : Int} : lex x y = 0 ↔ x = 0 ∧ y = 0 := by
  unfold lex
  split
  · rename_i h; exact ⟨fun e => ⟨h, e⟩, fun e => e.2⟩
  · rename_i h; exact ⟨fun e => absurd e h, fun e => absurd e.1 h⟩
theorem b01_eq {a b : Bool} (h : b01 a = b01 b) : a = b := by cases a <;> cases b <;> simp [b01] at h ⊢
theorem cut_eq {a b : Cu} (ha : a.may = true) (hb : b.may = true) : cmpC a b = 0 ↔ a = b := by
  constructor
  · intro h
    rw [cmpC_good ha hb, lex_zero, lex_zero] at h
    obtain ⟨h1, h2, h3⟩ := h
    have e2 := cmpR_zero (may_v ha) (may_v hb) h2
    have e1 := compareInt_zero h1
    have e3 := b01_eq (compareInt_zero h3)
    have ba := may_build ha
    have bb := may_build hb
    obtain ⟨ae, ⟨a1, a2, a3, a4, a5⟩, aa⟩ := a
    obtain ⟨be, ⟨b1, b2, b3, b4, b5⟩, ba'⟩ := b
    unfold coreV at e2
    dsimp only at *
    simp only [Ver.mk.injEq] at e2
    obtain ⟨rfl, rfl, rfl, rfl, _⟩ := e2
    subst ba bb e1 e3
    rfl
  · rintro rfl
    have := cut_anti (a := a) (b := a)
    omega

/-! ### Ahead of a version -/
def endC (e : Int) : Cu := ⟨e, Ver.zero, false⟩
def posC (v : Ver) : Cu := ⟨0, coreV v, false⟩
theorem first_may : (endC (-1)).may = true := by decide
theorem last_may : (endC 1).may = true := by decide
theorem posC_may {v : Ver} (h : v.may = true) : (posC v).may = true := by
  unfold posC Cu.may
  rw [if_pos rfl, core_may h]; rfl
theorem first_le {a : Cu} (ha : a.may = true) : cmpC (endC (-1)) a ≤ 0 := by
  rw [cmpC_good first_may ha]
  rcases may_e ha with ⟨h, _⟩ | ⟨h | h, h2, h3⟩
  · have : Lib.compareInt (endC (-1)).e a.e = -1 := ci_lt (by show (-1 : Int) < a.e; omega)
    rw [this, lex_neg]; decide
  · rw [show (endC (-1)).e = a.e from h.symm, compareInt_self, h2, h3]; decide
  · have : Lib.compareInt (endC (-1)).e a.e = -1 := ci_lt (by show (-1 : Int) < a.e; omega)
    rw [this, lex_neg]; decide
theorem le_last {a : Cu} (ha : a.may = true) : cmpC a (endC 1) ≤ 0 := by
  rw [cmpC_good ha last_may]
  rcases may_e ha with ⟨h, _⟩ | ⟨h | h, h2, h3⟩
  · have : Lib.compareInt a.e (endC 1).e = -1 := ci_lt (by show a.e < (1 : Int); omega)
    rw [this, lex_neg]; decide
  · have : Lib.compareInt a.e (endC 1).e = -1 := ci_lt (by show a.e < (1 : Int); omega)
    rw [this, lex_neg]; decide
  · rw [show (endC 1).e = a.e from h.symm, compareInt_self, h2, h3]; decide
def aheadC (c : Cu) (v : Ver) : Bool := c.may && v.may && (if c.e = 0 then decide (cmpR c.v v < 0 ∨ (cmpR c.v v = 0 ∧ c.aft = false)) else decide (c.e < 0))
theorem cmpR_coreR {a v : Ver} (ha : a.may = true) (hv : v.may = true) : cmpR a (coreV v) = cmpR a v := by
  rw [cmpR_key ha (core_may hv), cmpR_key ha hv]; rfl
theorem ahead_pos {c : Cu} {v : Ver} (hc : c.may = true) (hv : v.may = true) : aheadC c v = decide (cmpC c (posC v) ≤ 0) := by
  rw [cmpC_good hc (posC_may hv)]
  unfold aheadC
  rw [hc, hv]
  show (true && true && _) = decide (lex (Lib.compareInt c.e 0) (lex (cmpR c.v (coreV v)) (Lib.compareInt (b01 c.aft) (b01 false))) ≤ 0)
  rw [cmpR_coreR (may_v hc) hv]
  rcases may_e hc with ⟨h, _⟩ | ⟨h, h2, h3⟩
  · rw [if_pos h, h, compareInt_self]
    unfold lex
    rw [if_pos rfl]
    rcases cmpR_range (v := c.v) (w := v) with e | e | e <;> rw [e] <;> cases c.aft <;> decide
  · rw [if_neg (by omega)]
    rcases h with h | h <;> rw [h]
    · rw [show Lib.compareInt (-1) 0 = -1 from by decide]; unfold lex; simp
    · rw [show Lib.compareInt 1 0 = 1 from by decide]; unfold lex; simp
/-- Who stands ahead of a cut that is ahead of a version is ahead of it. -/
theorem ahead_on {a b : Cu} {v : Ver} (ha : a.may = true) (hb : b.may = true) (hv : v.may = true) (h : cmpC a b ≤ 0) (h2 : aheadC b v = true) : aheadC a v = true := by
  rw [ahead_pos hb hv, decide_eq_true_eq] at h2
  rw [ahead_pos ha hv, decide_eq_true_eq]
  exact (cut_on ha hb (posC_may hv) h h2).1
theorem ahead_first {v : Ver} (hv : v.may = true) : aheadC (endC (-1)) v = true := by
  unfold aheadC; rw [first_may, hv]; rfl
theorem ahead_last {v : Ver} (_hv : v.may = true) : aheadC (endC 1) v = false := by
  unfold aheadC; rw [if_neg (by decide), show decide ((endC 1).e < 0) = false from by decide, Bool.and_false]

/-! ### The order as the code finds it -/
def lessC (a b : Cu) : Bool := if a.e = b.e then (if cmpR a.v b.v = -1 then true else if cmpR a.v b.v = 1 then false else !a.aft && b.aft) else decide (a.e < b.e)
theorem less_cmpC {a b : Cu} (ha : a.may = true) (hb : b.may = true) : cmpC a b = if lessC a b then -1 else if lessC b a then 1 else 0 := by
  rw [cmpC_good ha hb]
  have hanti := order_anti (may_v ha) (may_v hb)
  by_cases he : a.e = b.e
  · unfold lessC
    rw [if_pos he, if_pos he.symm, he, compareInt_self, hanti, lex_0]
    rcases cmpR_range (v := a.v) (w := b.v) with e | e | e <;> rw [e] <;> cases a.aft <;> cases b.aft <;> rfl
  · have l1 : lessC a b = decide (a.e < b.e) := by unfold lessC; rw [if_neg he]
    have l2 : lessC b a = decide (b.e < a.e) := by unfold lessC; rw [if_neg (fun h => he h.symm)]
    rw [l1, l2]
    rcases Int.lt_or_gt_of_ne he with h | h
    · rw [ci_lt h, lex_neg, decide_eq_true h]; rfl
    · rw [ci_gt h, lex_pos, decide_eq_true h, decide_eq_false (by omega)]; rfl
theorem ahead_less {c : Cu} {v : Ver} : aheadC c v = (c.may && v.may && !lessC ⟨0, v, false⟩ c) := by
  cases hc : c.may with
  | false => unfold aheadC; rw [hc]; rfl
  | true =>
    cases hv : v.may with
    | false => unfold aheadC; rw [hv]; simp
    | true =>
      unfold aheadC lessC
      rw [hc, hv]
      dsimp only
      rcases may_e hc with ⟨h, _⟩ | ⟨h, _⟩
      · rw [if_pos h, if_pos h.symm, order_anti (may_v hc) hv]
        rcases cmpR_range (v := c.v) (w := v) with e | e | e <;> rw [e] <;> cases c.aft <;> decide
      · rw [if_neg (by omega), if_neg (by omega)]
        rcases h with h | h <;> rw [h] <;> rfl

/-! ### Spans -/
structure Sp where
  lo : Cu
  hi : Cu
def Sp.may (s : Sp) : Bool := decide (cmpC s.lo s.hi = -1)
def holdsC (s : Sp) (v : Ver) : Bool := s.may && aheadC s.lo v && !aheadC s.hi v
theorem span_mays {s : Sp} (h : s.may = true) : s.lo.may = true ∧ s.hi.may = true := by
  unfold Sp.may at h
  rw [decide_eq_true_eq] at h
  constructor
  · cases e : s.lo.may with
    | true => rfl
    | false => rw [cmpC_bad (.inl e)] at h; omega
  · cases e : s.hi.may with
    | true => rfl
    | false => rw [cmpC_bad (.inr e)] at h; omega
theorem span_ref (s : Sp) : (s.lo.may && s.hi.may && decide (cmpC s.lo s.hi < 0)) = s.may := by
  cases h : s.may with
  | true =>
    obtain ⟨h1, h2⟩ := span_mays h
    unfold Sp.may at h
    rw [decide_eq_true_eq] at h
    rw [h1, h2, h]; rfl
  | false =>
    unfold Sp.may at h
    rw [decide_eq_false_iff_not] at h
    have : ¬ cmpC s.lo s.hi < 0 := by rcases cmpC_range s.lo s.hi with e | e | e <;> omega
    rw [decide_eq_false this, Bool.and_false]
theorem holds_ref (s : Sp) (v : Ver) : (s.may && v.may && aheadC s.lo v && !aheadC s.hi v) = holdsC s v := by
  unfold holdsC
  cases hv : v.may with
  | true => rw [Bool.and_true]
  | false =>
    have : aheadC s.lo v = false := by unfold aheadC; rw [hv]; simp
    rw [this]; simp
theorem beside {v w : Ver} (hv : v.may = true) (hw : w.may = true) : (Sp.mk ⟨0, coreV v, false⟩ ⟨0, coreV v, true⟩).may = true ∧ holdsC ⟨⟨0, coreV v, false⟩, ⟨0, coreV v, true⟩⟩ w = decide (cmpR v w = 0) := by
  have m1 : (Cu.mk 0 (coreV v) false).may = true := posC_may hv
  have m2 : (Cu.mk 0 (coreV v) true).may = true := by unfold Cu.may; rw [if_pos rfl, core_may hv]; rfl
  have hs : (Sp.mk ⟨0, coreV v, false⟩ ⟨0, coreV v, true⟩).may = true := by
    unfold Sp.may
    rw [cmpC_good m1 m2]
    dsimp only
    rw [order_self]; rfl
  refine ⟨hs, ?_⟩
  unfold holdsC aheadC
  rw [hs, m1, m2, hw]
  dsimp only
  rw [if_pos rfl, if_pos rfl, order_core hv hw]
  rcases cmpR_range (v := v) (w := w) with e | e | e <;> rw [e] <;> rfl
theorem ahead_max {a b : Cu} {v : Ver} (ha : a.may = true) (hb : b.may = true) (hv : v.may = true) : aheadC (if cmpC a b < 0 then b else a) v = (aheadC a v && aheadC b v) := by
  by_cases h : cmpC a b < 0
  · rw [if_pos h]
    cases hB : aheadC b v with
    | true => rw [ahead_on ha hb hv (by omega) hB]; rfl
    | false => rw [Bool.and_false]
  · rw [if_neg h]
    cases hA : aheadC a v with
    | true => rw [ahead_on hb ha hv (by have := cut_anti (a := a) (b := b); omega) hA]; rfl
    | false => rw [Bool.false_and]
theorem ahead_min {a b : Cu} {v : Ver} (ha : a.may = true) (hb : b.may = true) (hv : v.may = true) : (!aheadC (if 0 < cmpC a b then b else a) v) = (!aheadC a v && !aheadC b v) := by
  by_cases h : 0 < cmpC a b
  · rw [if_pos h]
    cases hA : aheadC a v with
    | true => rw [ahead_on hb ha hv (by have := cut_anti (a := a) (b := b); omega) hA]; rfl
    | false => rw [Bool.not_false, Bool.true_and]
  · rw [if_neg h]
    cases hB : aheadC b v with
    | true => rw [ahead_on ha hb hv (by omega) hB]; rfl
    | false => rw [Bool.not_false, Bool.and_true]
theorem between {a b : Cu} {v : Ver} (ha : a.may = true) (hb : b.may = true) (hv : v.may = true) (h1 : aheadC a v = true) (h2 : aheadC b v = false) : cmpC a b = -1 := by
  have h3 : ¬ cmpC b a ≤ 0 := fun h => by rw [ahead_on hb ha hv h h1] at h2; cases h2
  have := cut_anti (a := a) (b := b)
  rcases cmpC_range a b with e | e | e <;> omega
theorem meets {s t : Sp} {v : Ver} (hs : s.may = true) (ht : t.may = true) (hv : v.may = true) :
    let m : Sp := ⟨if cmpC s.lo t.lo < 0 then t.lo else s.lo, if 0 < cmpC s.hi t.hi then t.hi else s.hi⟩
    (holdsC s v && holdsC t v) = holdsC m v ∧ (m.may || !holdsC m v) = true := by
  obtain ⟨s1, s2⟩ := span_mays hs
  obtain ⟨t1, t2⟩ := span_mays ht
  intro m
  have e1 : aheadC m.lo v = (aheadC s.lo v && aheadC t.lo v) := ahead_max s1 t1 hv
  have e2 : (!aheadC m.hi v) = (!aheadC s.hi v && !aheadC t.hi v) := ahead_min s2 t2 hv
  have m1 : m.lo.may = true := by show (if _ then _ else _ : Cu).may = true; split <;> assumption
  have m2 : m.hi.may = true := by show (if _ then _ else _ : Cu).may = true; split <;> assumption
  have hm : aheadC m.lo v = true → aheadC m.hi v = false → m.may = true := fun h1 h2 => by
    unfold Sp.may; rw [between m1 m2 hv h1 h2]; rfl
  have key : holdsC m v = (aheadC m.lo v && !aheadC m.hi v) := by
    unfold holdsC
    cases h1 : aheadC m.lo v with
    | false => simp
    | true =>
      cases h2 : aheadC m.hi v with
      | true => simp
      | false => rw [hm h1 h2]; rfl
  constructor
  · rw [key, e1, e2]
    unfold holdsC
    rw [hs, ht]
    cases aheadC s.lo v <;> cases aheadC t.lo v <;> cases aheadC s.hi v <;> cases aheadC t.hi v <;> rfl
  · cases h : holdsC m v with
    | false => simp
    | true =>
      unfold holdsC at h
      simp only [Bool.and_eq_true] at h
      rw [h.1.1]; rfl

/-! ### The cuts that numbers name -/
def genC (l : List Int) (i : Nat) : Cu :=
  if plc (atL l (i + 5)) 9 < 2 then endC (2 * plc (atL l (i + 5)) 9 - 1) else ⟨0, coreV (genV l i), decide (plc (atL l (i + 5)) 2 = 1)⟩
theorem genC_may (l : List Int) (i : Nat) : (genC l i).may = true := by
  unfold genC
  have h := plc_in (atL l (i + 5)) 9 (by omega)
  split
  · have : plc (atL l (i + 5)) 9 = 0 ∨ plc (atL l (i + 5)) 9 = 1 := by omega
    rcases this with e | e <;> rw [e] <;> decide
  · unfold Cu.may; rw [if_pos rfl, core_may (gen_may l i)]; rfl
theorem genC_pre (l : List Int) (i : Nat) : (genC l i).v.pre.length ≤ 300 := by
  unfold genC
  split
  · exact Nat.zero_le _
  · exact gen_pre l i
theorem genC_bld (l : List Int) (i : Nat) : (genC l i).v.build.length ≤ 300 := by rw [may_build (genC_may l i)]; decide
end Go.Proofs.YtndjdmbbndcohaaDoor
