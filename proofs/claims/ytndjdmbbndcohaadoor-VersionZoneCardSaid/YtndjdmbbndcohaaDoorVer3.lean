/-
  Plain mathematics for chapter 2: the order of versions. A version's key is a list of numbers; Compare is the order of keys, read as lists.
-/
import Derived.Test.YtndjdmbbndcohaaDoorVer2
import Derived.Lib.Small
namespace Go.Proofs.YtndjdmbbndcohaaDoor
open Go.RowKit

/-! ### Lists of numbers -/
def cmpL : List Nat → List Nat → Int
  | [], [] => 0
  | [], _ :: _ => -1
  | _ :: _, [] => 1
  | a :: l, b :: m => if a < b then -1 else if b < a then 1 else cmpL l m
theorem cmpL_cons (a b : Nat) (l m : List Nat) : cmpL (a :: l) (b :: m) = if a < b then -1 else if b < a then 1 else cmpL l m := rfl
theorem cmpL_self (a : List Nat) : cmpL a a = 0 := by
  induction a with
  | nil => rfl
  | cons x l ih => rw [cmpL, if_neg (by omega), if_neg (by omega)]; exact ih
theorem cmpL_anti (a : List Nat) : ∀ b, cmpL b a = - cmpL a b := by
  induction a with
  | nil => intro b; cases b <;> rfl
  | cons x l ih =>
    intro b
    cases b with
    | nil => rfl
    | cons y m =>
      rw [cmpL, cmpL]
      by_cases h1 : x < y
      · rw [if_neg (by omega), if_pos h1, if_pos h1]; rfl
      · by_cases h2 : y < x
        · rw [if_pos h2, if_neg h1, if_pos h2]
        · rw [if_neg h2, if_neg h1, if_neg h1, if_neg h2]; exact ih m
theorem cmpL_range (a : List Nat) : ∀ b, cmpL a b = -1 ∨ cmpL a b = 0 ∨ cmpL a b = 1 := by
  induction a with
  | nil => intro b; cases b <;> simp [cmpL]
  | cons x l ih =>
    intro b
    cases b with
    | nil => simp [cmpL]
    | cons y m =>
      rw [cmpL]
      split
      · simp
      · split
        · simp
        · exact ih m
theorem cmpL_zero (a : List Nat) : ∀ b, cmpL a b = 0 → a = b := by
  induction a with
  | nil => intro b; cases b <;> simp [cmpL]
  | cons x l ih =>
    intro b
    cases b with
    | nil => simp [cmpL]
    | cons y m =>
      rw [cmpL]
      split
      · intro h; omega
      · split
        · intro h; omega
        · intro h; rw [ih m h, show x = y from by omega]
theorem cmpL_trans (a : List Nat) : ∀ b c, cmpL a b ≤ 0 → cmpL b c ≤ 0 → cmpL a c ≤ 0 ∧ (cmpL a c = 0 → cmpL a b = 0 ∧ cmpL b c = 0) := by
  induction a with
  | nil =>
    intro b c h1 h2
    cases b with
    | nil => cases c <;> simp [cmpL]
    | cons y m =>
      cases c with
      | nil => simp [cmpL] at h2
      | cons z n => simp [cmpL]
  | cons x l ih =>
    intro b c h1 h2
    cases b with
    | nil => simp [cmpL] at h1
    | cons y m =>
      cases c with
      | nil => simp [cmpL] at h2
      | cons z n =>
        simp only [cmpL_cons] at h1 h2 ⊢
        by_cases a1 : x < y
        · simp only [if_pos a1] at h1 ⊢
          by_cases a2 : y < z
          · have : x < z := by omega
            simp only [if_pos this]; omega
          · by_cases a3 : z < y
            · simp only [if_neg a2, if_pos a3] at h2; omega
            · have : x < z := by omega
              simp only [if_pos this]; omega
        · by_cases a1' : y < x
          · simp only [if_neg a1, if_pos a1'] at h1; omega
          · simp only [if_neg a1, if_neg a1'] at h1 ⊢
            obtain rfl : x = y := by omega
            by_cases a2 : x < z
            · simp only [if_pos a2]; omega
            · by_cases a3 : z < x
              · simp only [if_neg a2, if_pos a3] at h2; omega
              · simp only [if_neg a2, if_neg a3] at h2 ⊢
                exact ih m n h1 h2

/-! ### Keys -/
def oneR (a b : List UInt8) : Int :=
  if numer a && numer b then Lib.compareInt (numD a) (numD b) else if numer a then -1 else if numer b then 1 else Lib.compareBytes a b
def presL : List (List UInt8) → List (List UInt8) → Int
  | [], [] => 0
  | [], _ :: _ => -1
  | _ :: _, [] => 1
  | a :: l, b :: m => if oneR a b ≠ 0 then oneR a b else presL l m
def presR (a b : List UInt8) : Int := if a = b then 0 else if a = [] then 1 else if b = [] then -1 else presL (pcs a) (pcs b)
def tagKey (t : List UInt8) : List Nat := if numer t then [1, (numD t).toNat] else 2 :: (t.map (fun c => c.toNat + 1) ++ [0])
def tailKey (l : List (List UInt8)) : List Nat := l.flatMap tagKey ++ [0]
def preKey (p : List UInt8) : List Nat := if p = [] then [3] else tailKey (pcs p)
def Ver.key (v : Ver) : List Nat := v.maj.toNat :: v.min.toNat :: v.pat.toNat :: preKey v.pre

theorem numD_nat (t : List UInt8) : 0 ≤ numD t := by unfold numD; omega
theorem cmpL_bytes (a : List UInt8) : ∀ (b : List UInt8) (x y : List Nat), cmpL (a.map (fun c => c.toNat + 1) ++ 0 :: x) (b.map (fun c => c.toNat + 1) ++ 0 :: y) = if Lib.compareBytes a b ≠ 0 then Lib.compareBytes a b else cmpL x y := by
  induction a with
  | nil =>
    intro b x y
    cases b with
    | nil => simp [cmpL, Lib.compareBytes]
    | cons c r => simp [cmpL, Lib.compareBytes]
  | cons c r ih =>
    intro b x y
    cases b with
    | nil => simp [cmpL, Lib.compareBytes]
    | cons d q =>
      simp only [List.map_cons, List.cons_append, cmpL_cons]
      by_cases h1 : c < d
      · have h1' : c.toNat < d.toNat := UInt8.lt_iff_toNat_lt.1 h1
        have e : Lib.compareBytes (c :: r) (d :: q) = -1 := by rw [Lib.compareBytes, if_pos h1]
        rw [e, if_pos (by omega)]; rfl
      · by_cases h2 : d < c
        · have h2' : d.toNat < c.toNat := UInt8.lt_iff_toNat_lt.1 h2
          have e : Lib.compareBytes (c :: r) (d :: q) = 1 := by rw [Lib.compareBytes, if_neg h1, if_pos h2]
          rw [e, if_neg (by omega), if_pos (by omega)]; rfl
        · have a1 : ¬ c.toNat < d.toNat := fun h => h1 (UInt8.lt_iff_toNat_lt.2 h)
          have a2 : ¬ d.toNat < c.toNat := fun h => h2 (UInt8.lt_iff_toNat_lt.2 h)
          have e : Lib.compareBytes (c :: r) (d :: q) = Lib.compareBytes r q := by rw [Lib.compareBytes, if_neg h1, if_neg h2]
          rw [e, if_neg (by omega), if_neg (by omega)]
          exact ih q x y
theorem cmpL_tag (a b : List UInt8) (x y : List Nat) : cmpL (tagKey a ++ x) (tagKey b ++ y) = if oneR a b ≠ 0 then oneR a b else cmpL x y := by
  unfold tagKey oneR
  cases ha : numer a <;> cases hb : numer b
  · have := cmpL_bytes a b x y
    simpa [cmpL] using this
  · simp [cmpL]
  · simp [cmpL]
  · have h1 := numD_nat a
    have h2 := numD_nat b
    simp only [Bool.and_true, if_true, List.cons_append, List.nil_append, cmpL, Lib.compareInt]
    by_cases h : numD a < numD b
    · rw [if_pos h, if_pos (by omega : (numD a).toNat < (numD b).toNat)]; rfl
    · by_cases h' : numD b < numD a
      · rw [if_neg h, if_pos h', if_neg (by omega : ¬ (numD a).toNat < (numD b).toNat), if_pos (by omega : (numD b).toNat < (numD a).toNat)]; rfl
      · rw [if_neg h, if_neg h', if_neg (by omega : ¬ (numD a).toNat < (numD b).toNat), if_neg (by omega : ¬ (numD b).toNat < (numD a).toNat)]; rfl
theorem tag_cons (a : List UInt8) : ∃ k r, tagKey a = k :: r ∧ 0 < k ∧ k < 3 := by
  unfold tagKey; split
  · exact ⟨_, _, rfl, by omega, by omega⟩
  · exact ⟨_, _, rfl, by omega, by omega⟩
theorem cmpL_tail (l : List (List UInt8)) : ∀ m, cmpL (tailKey l) (tailKey m) = presL l m := by
  induction l with
  | nil =>
    intro m
    cases m with
    | nil => rfl
    | cons b m =>
      obtain ⟨k, r, e, h, _⟩ := tag_cons b
      unfold tailKey
      rw [List.flatMap_cons, e]
      simp [cmpL, presL, h]
  | cons a l ih =>
    intro m
    cases m with
    | nil =>
      obtain ⟨k, r, e, h, _⟩ := tag_cons a
      unfold tailKey
      rw [List.flatMap_cons, e]
      simp [cmpL, presL, h]
    | cons b m =>
      have := ih m
      unfold tailKey at this ⊢
      rw [List.flatMap_cons, List.flatMap_cons, List.append_assoc, List.append_assoc, cmpL_tag, this, presL]
theorem tail_small (l : List (List UInt8)) : ∃ k r, tailKey l = k :: r ∧ k < 3 := by
  unfold tailKey
  cases l with
  | nil => exact ⟨0, [], rfl, by omega⟩
  | cons a l =>
    obtain ⟨k, r, e, _, h⟩ := tag_cons a
    exact ⟨k, r ++ (l.flatMap tagKey ++ [0]), by rw [List.flatMap_cons, e]; simp, h⟩
theorem presR_key (a b : List UInt8) : presR a b = cmpL (preKey a) (preKey b) := by
  unfold presR
  by_cases h : a = b
  · rw [if_pos h, h, cmpL_self]
  · rw [if_neg h]
    unfold preKey
    by_cases ha : a = []
    · have hb : b ≠ [] := fun e => h (ha.trans e.symm)
      rw [if_pos ha, if_pos ha, if_neg hb]
      obtain ⟨k, r, e, hk⟩ := tail_small (pcs b)
      rw [e, cmpL, if_neg (by omega), if_pos hk]
    · rw [if_neg ha, if_neg ha]
      by_cases hb : b = []
      · rw [if_pos hb, if_pos hb]
        obtain ⟨k, r, e, hk⟩ := tail_small (pcs a)
        rw [e, cmpL, if_pos hk]
      · rw [if_neg hb, if_neg hb]; exact (cmpL_tail _ _).symm

/-! ### The document's own Compare -/
def cmpN (v w : Ver) : Int :=
  if Lib.compareInt v.maj w.maj ≠ 0 then Lib.compareInt v.maj w.maj
  else if Lib.compareInt v.min w.min ≠ 0 then Lib.compareInt v.min w.min
  else Lib.compareInt v.pat w.pat
def cmpR (v w : Ver) : Int := if v.may && w.may then (if cmpN v w ≠ 0 then cmpN v w else presR v.pre w.pre) else 0
theorem may_nat {v : Ver} (h : v.may = true) : (0 ≤ v.maj ∧ v.maj ≤ 9999) ∧ (0 ≤ v.min ∧ v.min ≤ 9999) ∧ (0 ≤ v.pat ∧ v.pat ≤ 9999) := by
  obtain ⟨h1, h2, h3⟩ := may_nums h
  unfold numOkI at h1 h2 h3; simp at h1 h2 h3
  exact ⟨h1, h2, h3⟩
theorem cmpL_num {a b : Int} (ha : 0 ≤ a) (hb : 0 ≤ b) (x y : List Nat) : cmpL (a.toNat :: x) (b.toNat :: y) = if Lib.compareInt a b ≠ 0 then Lib.compareInt a b else cmpL x y := by
  rw [cmpL]
  unfold Lib.compareInt
  by_cases h : a < b
  · rw [if_pos h, if_pos (by omega)]; rfl
  · by_cases h' : b < a
    · rw [if_neg h, if_pos h', if_neg (by omega), if_pos (by omega)]; rfl
    · rw [if_neg h, if_neg h', if_neg (by omega), if_neg (by omega)]; rfl
theorem cmpR_key {v w : Ver} (hv : v.may = true) (hw : w.may = true) : cmpR v w = cmpL v.key w.key := by
  obtain ⟨v1, v2, v3⟩ := may_nat hv
  obtain ⟨w1, w2, w3⟩ := may_nat hw
  unfold cmpR
  rw [hv, hw, presR_key]
  unfold Ver.key
  rw [cmpL_num v1.1 w1.1, cmpL_num v2.1 w2.1, cmpL_num v3.1 w3.1]
  unfold cmpN
  simp only [Bool.and_true, if_true]
  by_cases h1 : Lib.compareInt v.maj w.maj = 0
  · by_cases h2 : Lib.compareInt v.min w.min = 0
    · simp [h1, h2]
    · simp [h1, h2]
  · simp [h1]

/-! ### What package version does -/
def oneP (a b : List UInt8) : Int :=
  if numI a && numI b then Lib.compareInt (numD a) (numD b) else if numI a && !b.isEmpty then -1 else if numI b && !a.isEmpty then 1 else Lib.compareBytes a b
def seqP : Nat → List (List UInt8) → List (List UInt8) → Int
  | 0, _, _ => 0
  | n + 1, l, m => if oneP (tg l 0) (tg m 0) ≠ 0 then oneP (tg l 0) (tg m 0) else seqP n l.tail m.tail
theorem numI_numer {t : List UInt8} (h : preT t = true) : numI t = numer t := by
  cases hi : numI t with
  | true =>
    unfold numI at hi
    obtain ⟨n, hn⟩ := Option.isSome_iff_exists.1 hi
    obtain ⟨e, _⟩ := numGo_back t n hn
    unfold numer
    have h1 := (dec_fold n).1
    rw [e, h1]
    cases hd : Lib.decDigits n with
    | nil => have := congrArg List.length hd; rw [Lib.decDigits_length] at this; have := Lib.nDigits_pos n; simp at *; omega
    | cons _ _ => rfl
  | false => unfold preT at h; rw [hi, Bool.or_false] at h; simpa using h.symm
def fine (t : List UInt8) : Bool := tagOk t && preT t
theorem fine_ne {t : List UInt8} (h : fine t = true) : t ≠ [] := by
  unfold fine at h; rw [Bool.and_eq_true] at h
  have := (tagOk_len h.1).1
  intro e; subst e; simp at this
theorem oneP_one {a b : List UInt8} (ha : fine a = true) (hb : fine b = true) : oneP a b = oneR a b := by
  have n1 := fine_ne ha
  have n2 := fine_ne hb
  unfold fine at ha hb; rw [Bool.and_eq_true] at ha hb
  unfold oneP oneR
  rw [numI_numer ha.2, numI_numer hb.2]
  have e1 : a.isEmpty = false := by cases a <;> simp_all
  have e2 : b.isEmpty = false := by cases b <;> simp_all
  rw [e1, e2]; simp
theorem oneP_nil : oneP [] [] = 0 := by decide
theorem oneP_left {b : List UInt8} (h : b ≠ []) : oneP [] b = -1 := by
  unfold oneP
  have e : numI [] = false := by decide
  rw [e]
  cases b with
  | nil => exact absurd rfl h
  | cons c r => simp [Lib.compareBytes]
theorem oneP_right {a : List UInt8} (h : a ≠ []) : oneP a [] = 1 := by
  unfold oneP
  have e : numI [] = false := by decide
  rw [e]
  cases a with
  | nil => exact absurd rfl h
  | cons c r => simp [Lib.compareBytes]
theorem seqP_pres (n : Nat) : ∀ l m, l.length ≤ n → m.length ≤ n → l.all fine = true → m.all fine = true → seqP n l m = presL l m := by
  induction n with
  | zero =>
    intro l m hl hm _ _
    obtain rfl : l = [] := List.eq_nil_of_length_eq_zero (by omega)
    obtain rfl : m = [] := List.eq_nil_of_length_eq_zero (by omega)
    rfl
  | succ n ih =>
    intro l m hl hm fl fm
    unfold seqP
    match l, m with
    | [], [] =>
      rw [show tg [] 0 = [] from rfl, oneP_nil]
      simpa using ih [] [] (by simp) (by simp) rfl rfl
    | [], b :: m =>
      rw [List.all_cons, Bool.and_eq_true] at fm
      rw [show tg [] 0 = [] from rfl, show tg (b :: m) 0 = b from rfl, oneP_left (fine_ne fm.1)]
      rfl
    | a :: l, [] =>
      rw [List.all_cons, Bool.and_eq_true] at fl
      rw [show tg [] 0 = [] from rfl, show tg (a :: l) 0 = a from rfl, oneP_right (fine_ne fl.1)]
      rfl
    | a :: l, b :: m =>
      rw [List.all_cons, Bool.and_eq_true] at fl fm
      rw [show tg (a :: l) 0 = a from rfl, show tg (b :: m) 0 = b from rfl, oneP_one fl.1 fm.1, presL]
      simp at hl hm
      rw [show (a :: l).tail = l from rfl, show (b :: m).tail = m from rfl, ih l m hl hm fl.2 fm.2]
/-- What comparePre returns. -/
def cpre (a b : List UInt8) : Int := if a = [] then 1 else if b = [] then -1 else seqP 4 (lst a).1 (lst b).1
theorem pre_fine {p : List UInt8} (h : preOk p = true) (hne : p ≠ []) : (lst p).1 = pcs p ∧ (pcs p).all fine = true ∧ (pcs p).length ≤ 4 := by
  have e : p.isEmpty = false := by cases p <;> simp_all
  have hl : listOk p = true := by unfold preOk at h; rw [Bool.and_eq_true] at h; exact h.1
  have h1 := lst_all p hl
  rw [e] at h1
  have h1' : (lst p).1 = pcs p := by simpa using h1
  refine ⟨h1', ?_, ?_⟩
  · unfold preOk at h; rw [e, Bool.false_or, Bool.and_eq_true] at h
    unfold listOk at hl; rw [e, Bool.false_or, Bool.and_eq_true] at hl
    rw [List.all_eq_true]
    intro x hx
    unfold fine
    rw [List.all_eq_true.1 hl.2 x hx, List.all_eq_true.1 h.2 x hx]; rfl
  · rw [← h1']; exact lst_len p
theorem cpre_pres {a b : List UInt8} (ha : preOk a = true) (hb : preOk b = true) (hne : a ≠ b) : cpre a b = presR a b := by
  unfold cpre presR
  rw [if_neg hne]
  by_cases h1 : a = []
  · rw [if_pos h1, if_pos h1]
  · rw [if_neg h1, if_neg h1]
    by_cases h2 : b = []
    · rw [if_pos h2, if_pos h2]
    · rw [if_neg h2, if_neg h2]
      obtain ⟨e1, f1, l1⟩ := pre_fine ha h1
      obtain ⟨e2, f2, l2⟩ := pre_fine hb h2
      rw [e1, e2]
      exact seqP_pres 4 _ _ l1 l2 f1 f2
theorem cmpR_bad {v w : Ver} (h : v.may = false ∨ w.may = false) : cmpR v w = 0 := by
  unfold cmpR
  rw [if_neg]
  rcases h with h | h <;> simp [h]
def coreV (v : Ver) : Ver := { v with build := [] }
theorem compareInt_self (x : Int) : Lib.compareInt x x = 0 := by unfold Lib.compareInt; simp
theorem cmpR_core {v w : Ver} (h : coreV v = coreV w) : cmpR v w = 0 := by
  unfold coreV at h
  simp only [Ver.mk.injEq, and_true] at h
  obtain ⟨h1, h2, h3, h4⟩ := h
  unfold cmpR cmpN presR
  rw [h1, h2, h3, h4]
  simp [compareInt_self]
theorem compareInt_zero {a b : Int} (h : Lib.compareInt a b = 0) : a = b := by
  unfold Lib.compareInt at h
  split at h
  · omega
  · split at h
    · omega
    · omega
theorem cmpR_go {v w : Ver} (hv : v.may = true) (hw : w.may = true) (hc : ¬ coreV v = coreV w) : cmpR v w = if cmpN v w ≠ 0 then cmpN v w else cpre v.pre w.pre := by
  unfold cmpR
  rw [hv, hw]
  simp only [Bool.and_true, if_true]
  by_cases h : cmpN v w = 0
  · rw [if_neg (by simpa using h), if_neg (by simpa using h)]
    refine (cpre_pres ?_ ?_ ?_).symm
    · unfold Ver.may at hv; simp only [Bool.and_eq_true] at hv; exact hv.1.2
    · unfold Ver.may at hw; simp only [Bool.and_eq_true] at hw; exact hw.1.2
    · intro e
      apply hc
      unfold cmpN at h
      have h1 : Lib.compareInt v.maj w.maj = 0 := by
        by_cases g : Lib.compareInt v.maj w.maj = 0
        · exact g
        · rw [if_pos g] at h; exact absurd h g
      rw [if_neg (by simpa using h1)] at h
      have h2 : Lib.compareInt v.min w.min = 0 := by
        by_cases g : Lib.compareInt v.min w.min = 0
        · exact g
        · rw [if_pos g] at h; exact absurd h g
      rw [if_neg (by simpa using h2)] at h
      unfold coreV
      rw [compareInt_zero h1, compareInt_zero h2, compareInt_zero h, e]
  · rw [if_pos h, if_pos h]
end Go.Proofs.YtndjdmbbndcohaaDoor
