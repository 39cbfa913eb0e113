/-
  Plain mathematics for chapter 2: versions, their strings, and that a string is read back.
-/
import Derived.Test.YtndjdmbbndcohaaDoorVer1
import Derived.Test.YtndjdmbbndcohaaDoorSplitR
namespace Go.Proofs.YtndjdmbbndcohaaDoor
open Go.RowKit

structure Ver where
  maj : Int
  min : Int
  pat : Int
  pre : List UInt8
  build : List UInt8
deriving DecidableEq

def numOkI (n : Int) : Bool := decide (0 ≤ n ∧ n ≤ 9999)
def Ver.may (v : Ver) : Bool := numOkI v.maj && numOkI v.min && numOkI v.pat && preOk v.pre && listOk v.build
def Ver.zero : Ver := ⟨0, 0, 0, [], []⟩
def Ver.rel (a b c : Int) : Ver := ⟨a, b, c, [], []⟩
def tailS (c : UInt8) (l : List UInt8) : List UInt8 := if l.isEmpty then [] else c :: l
def numsL (v : Ver) : List UInt8 := Lib.itoa v.maj ++ 46 :: (Lib.itoa v.min ++ 46 :: Lib.itoa v.pat)
def Ver.text (v : Ver) : List UInt8 := numsL v ++ tailS 45 v.pre ++ tailS 43 v.build
def Ver.print (v : Ver) : List UInt8 := if v.may then v.text else []

/-! ### The numbers -/
theorem dec_more (n d : Nat) (hn : 1 ≤ n) (hd : d < 10) : Lib.decDigits (n * 10 + d) = Lib.decDigits n ++ [UInt8.ofNat (48 + d)] := by
  rw [Lib.decDigits, dif_neg (by omega), show (n * 10 + d) / 10 = n from by omega, show (n * 10 + d) % 10 = d from by omega]
theorem dig_byte {c : UInt8} (h : digB c.toNat = true) : c.toNat - 48 < 10 ∧ UInt8.ofNat (48 + (c.toNat - 48)) = c := by
  unfold digB at h; simp at h
  refine ⟨by omega, ?_⟩
  rw [show 48 + (c.toNat - 48) = c.toNat from by omega]; exact UInt8.ofNat_toNat
theorem numGo_tail (l : List UInt8) : ∀ n m, 1 ≤ n → n ≤ 9999 → numGo n false l = some m → Lib.decDigits m = Lib.decDigits n ++ l ∧ m ≤ 9999 := by
  induction l with
  | nil => intro n m _ h9 h; simp [numGo] at h; subst h; simp [h9]
  | cons c r ih =>
    intro n m hn h9 h
    by_cases hd : digB c.toNat = true
    · by_cases hb : n * 10 + (c.toNat - 48) ≤ 9999
      · rw [numGo_on n false c r hd (by omega) hb] at h
        obtain ⟨h1, h2⟩ := dig_byte hd
        obtain ⟨i1, i2⟩ := ih _ m (by omega) hb h
        rw [dec_more n _ hn h1, h2] at i1
        exact ⟨by rw [i1]; simp, i2⟩
      · rw [numGo_big n false c r hb] at h; cases h
    · rw [numGo_bad n false c r (Bool.eq_false_iff.2 hd)] at h; cases h
theorem numGo_back (l : List UInt8) (n : Nat) (h : numGo 0 true l = some n) : l = Lib.decDigits n ∧ n ≤ 9999 := by
  cases l with
  | nil => simp [numGo] at h
  | cons c r =>
    by_cases hd : digB c.toNat = true
    · obtain ⟨h1, h2⟩ := dig_byte hd
      rw [numGo_on 0 true c r hd (by simp) (by omega), show 0 * 10 + (c.toNat - 48) = c.toNat - 48 from by omega] at h
      by_cases h0 : c.toNat - 48 = 0
      · rw [h0] at h h2
        cases r with
        | nil => simp [numGo] at h; subst h; rw [← h2, Lib.decDigits, dif_pos (by omega)]; simp
        | cons c2 r2 => rw [numGo_zero] at h; cases h
      · obtain ⟨i1, i2⟩ := numGo_tail r _ n (by omega) (by omega) h
        rw [Lib.decDigits_one h1, h2] at i1
        exact ⟨by rw [i1]; rfl, i2⟩
    · rw [numGo_bad 0 true c r (Bool.eq_false_iff.2 hd)] at h; cases h
theorem dig_mem (u : Nat) : ∀ x ∈ Lib.decDigits u, digB x.toNat = true := by
  have h := (dec_fold u).1
  unfold allDig at h
  exact List.all_eq_true.1 h
theorem itoa_nat {n : Int} (h : numOkI n = true) : Lib.itoa n = Lib.decDigits n.toNat := by
  unfold numOkI at h; simp at h
  unfold Lib.itoa; rw [if_neg (by omega)]
theorem num_itoa {n : Int} (h : numOkI n = true) : numGo 0 true (Lib.itoa n) = some n.toNat := by
  rw [itoa_nat h, num_dec, if_pos]
  unfold numOkI at h; simp at h; omega
theorem dig_free {n : Int} (h : numOkI n = true) (b : UInt8) (hb : digB b.toNat = false) : b ∉ Lib.itoa n := by
  rw [itoa_nat h]
  intro hm
  have := dig_mem _ _ hm
  rw [this] at hb; cases hb
/-! ### Tags hold no plus; their lists neither -/
theorem splitL_acc (b : UInt8) (l : List UInt8) : ∀ acc, ∀ c ∈ acc, ∃ x ∈ splitL b acc l, c ∈ x := by
  induction l with
  | nil => intro acc c h; exact ⟨acc, by simp [splitL], h⟩
  | cons d r ih =>
    intro acc c hc
    rw [show splitL b acc (d :: r) = if d = b then acc :: splitL b [] r else splitL b (acc ++ [d]) r from rfl]
    by_cases h : d = b
    · rw [if_pos h]; exact ⟨acc, by simp, hc⟩
    · rw [if_neg h]; exact ih _ c (by simp [hc])
theorem splitL_mem (b : UInt8) (l : List UInt8) : ∀ acc, ∀ c ∈ l, c = b ∨ ∃ x ∈ splitL b acc l, c ∈ x := by
  induction l with
  | nil => intro acc c h; cases h
  | cons d r ih =>
    intro acc c hc
    rw [show splitL b acc (d :: r) = if d = b then acc :: splitL b [] r else splitL b (acc ++ [d]) r from rfl]
    by_cases h : d = b
    · rw [if_pos h]
      rcases List.mem_cons.1 hc with rfl | hc
      · exact .inl h
      · rcases ih [] c hc with e | ⟨x, hx, hcx⟩
        · exact .inl e
        · exact .inr ⟨x, List.mem_cons_of_mem _ hx, hcx⟩
    · rw [if_neg h]
      rcases List.mem_cons.1 hc with rfl | hc
      · exact .inr (splitL_acc b r (acc ++ [c]) c (by simp))
      · exact ih _ c hc
theorem listOk_free (s : List UInt8) (h : listOk s = true) : (43 : UInt8) ∉ s := by
  intro hm
  unfold listOk at h
  rcases splitL_mem 46 s [] 43 hm with e | ⟨x, hx, hc⟩
  · revert e; decide
  · have hne : s.isEmpty = false := by cases s with
      | nil => cases hm
      | cons _ _ => rfl
    rw [hne, Bool.false_or, Bool.and_eq_true] at h
    have := List.all_eq_true.1 h.2 x hx
    unfold tagOk at this
    rw [Bool.and_eq_true] at this
    have := List.all_eq_true.1 this.2 _ hc
    revert this; decide
/-! ### Reading a string: what package version guesses, and the document's own answer -/
def numD (l : List UInt8) : Int := ((numGo 0 true l).getD 0 : Nat)
def guess (s : List UInt8) : Ver :=
  let r := (cutAt 43 s).1
  let q := (cutAt 45 r).1
  let x := cutAt 46 q
  let y := cutAt 46 x.2.1
  ⟨numD x.1, numD y.1, numD y.2.1, (cutAt 45 r).2.1, (cutAt 43 s).2.1⟩
def three (l : List (List UInt8)) : Option (Int × Int × Int) :=
  match l with
  | [x, y, z] => if numI x && numI y && numI z then some (numD x, numD y, numD z) else none
  | _ => none
def parseR (s : List UInt8) : Option Ver :=
  let b := cutAt 43 s
  let p := cutAt 45 b.1
  match three (pcs p.1) with
  | none => none
  | some (x, y, z) =>
    if (p.2.2 && p.2.1.isEmpty) || (b.2.2 && b.2.1.isEmpty) then none
    else if (Ver.mk x y z p.2.1 b.2.1).may then some ⟨x, y, z, p.2.1, b.2.1⟩ else none
def parseI (s : List UInt8) : Option Ver := if (guess s).print = s then some (guess s) else none

theorem numsL_free {v : Ver} (h : v.may = true) (b : UInt8) (hb : digB b.toNat = false) (h46 : b ≠ 46) : b ∉ numsL v := by
  unfold Ver.may at h; simp only [Bool.and_eq_true] at h
  obtain ⟨⟨⟨⟨h1, h2⟩, h3⟩, _⟩, _⟩ := h
  unfold numsL
  simp only [List.mem_append, List.mem_cons, not_or]
  exact ⟨dig_free h1 b hb, h46, dig_free h2 b hb, h46, dig_free h3 b hb⟩
theorem cut_tail (c : UInt8) (x y : List UInt8) (h : c ∉ x) : cutAt c (x ++ tailS c y) = (x, y, !y.isEmpty) := by
  unfold tailS
  cases y with
  | nil => simp [cutAt_miss c x h]
  | cons a r => simp [cutAt_hit c x (a :: r) h]
theorem cut_text {v : Ver} (h : v.may = true) : cutAt 43 v.text = (numsL v ++ tailS 45 v.pre, v.build, !v.build.isEmpty) ∧ cutAt 45 (numsL v ++ tailS 45 v.pre) = (numsL v, v.pre, !v.pre.isEmpty) := by
  have hp : (43 : UInt8) ∉ v.pre := by
    unfold Ver.may preOk at h; simp only [Bool.and_eq_true] at h
    exact listOk_free _ h.1.2.1
  refine ⟨?_, cut_tail _ _ _ (numsL_free h 45 (by decide) (by decide))⟩
  unfold Ver.text
  refine cut_tail _ _ _ ?_
  simp only [List.mem_append, not_or]
  refine ⟨numsL_free h 43 (by decide) (by decide), ?_⟩
  unfold tailS
  split
  · simp
  · simp; exact hp
theorem numD_itoa {n : Int} (h : numOkI n = true) : numD (Lib.itoa n) = n := by
  unfold numD; rw [num_itoa h]
  unfold numOkI at h; simp at h
  show ((n.toNat : Nat) : Int) = n; omega
theorem may_nums {v : Ver} (h : v.may = true) : numOkI v.maj = true ∧ numOkI v.min = true ∧ numOkI v.pat = true := by
  unfold Ver.may at h; simp only [Bool.and_eq_true] at h
  exact ⟨h.1.1.1.1, h.1.1.1.2, h.1.1.2⟩
theorem guess_text {v : Ver} (h : v.may = true) : guess v.text = v := by
  obtain ⟨c1, c2⟩ := cut_text h
  obtain ⟨h1, h2, h3⟩ := may_nums h
  unfold guess
  simp only [c1, c2]
  unfold numsL
  rw [cutAt_hit 46 _ _ (dig_free h1 46 (by decide))]
  dsimp only
  rw [cutAt_hit 46 _ _ (dig_free h2 46 (by decide))]
  dsimp only
  rw [numD_itoa h1, numD_itoa h2, numD_itoa h3]
theorem pcs_nums {v : Ver} (h : v.may = true) : pcs (numsL v) = [Lib.itoa v.maj, Lib.itoa v.min, Lib.itoa v.pat] := by
  obtain ⟨h1, h2, h3⟩ := may_nums h
  unfold pcs numsL
  rw [cutAt_split, cutAt_hit 46 _ _ (dig_free h1 46 (by decide))]
  simp only [List.nil_append, if_true]
  rw [cutAt_split, cutAt_hit 46 _ _ (dig_free h2 46 (by decide))]
  simp only [List.nil_append, if_true]
  rw [cutAt_split, cutAt_miss 46 _ (dig_free h3 46 (by decide))]
  simp
theorem numI_itoa {n : Int} (h : numOkI n = true) : numI (Lib.itoa n) = true := by unfold numI; rw [num_itoa h]; rfl
theorem parseR_text {v : Ver} (h : v.may = true) : parseR v.text = some v := by
  obtain ⟨c1, c2⟩ := cut_text h
  obtain ⟨h1, h2, h3⟩ := may_nums h
  unfold parseR
  simp only [c1, c2, pcs_nums h]
  unfold three
  simp only [numI_itoa h1, numI_itoa h2, numI_itoa h3, numD_itoa h1, numD_itoa h2, numD_itoa h3, Bool.and_true, if_true]
  rw [if_neg (by cases v.pre <;> cases v.build <;> simp), if_pos h]
theorem numI_back {x : List UInt8} (h : numI x = true) : numOkI (numD x) = true ∧ Lib.itoa (numD x) = x := by
  unfold numI at h
  obtain ⟨n, hn⟩ := Option.isSome_iff_exists.1 h
  obtain ⟨e, h9⟩ := numGo_back x n hn
  have hd : numD x = (n : Nat) := by unfold numD; rw [hn]; rfl
  rw [hd]
  have hk : numOkI (n : Nat) = true := by unfold numOkI; simp; omega
  refine ⟨hk, ?_⟩
  rw [itoa_nat hk, e]; rfl
theorem cut_back (c : UInt8) (s : List UInt8) (h : ((cutAt c s).2.2 && (cutAt c s).2.1.isEmpty) = false) : s = (cutAt c s).1 ++ tailS c (cutAt c s).2.1 := by
  have h1 := cutAt_back c s
  have h2 := cutAt_none c s
  unfold tailS
  cases hf : (cutAt c s).2.2 with
  | true => rw [hf] at h h1; rw [Bool.true_and] at h; rw [h, if_neg (by simp)]; rw [if_pos rfl] at h1; exact h1
  | false => rw [hf] at h1; rw [h2 hf]; simpa using h1
theorem parseR_back {s : List UInt8} {v : Ver} (h : parseR s = some v) : v.may = true ∧ v.text = s := by
  unfold parseR at h
  dsimp only at h
  split at h
  · cases h
  · rename_i x y z h3
    split at h
    · cases h
    · rename_i hne
      split at h
      · rename_i hm
        cases h
        refine ⟨hm, ?_⟩
        simp only [Bool.or_eq_true, not_or, Bool.not_eq_true] at hne
        unfold Ver.text
        have e1 := cut_back 43 s hne.2
        have e2 := cut_back 45 _ hne.1
        rw [show (Ver.mk x y z (cutAt 45 (cutAt 43 s).1).2.1 (cutAt 43 s).2.1).build = (cutAt 43 s).2.1 from rfl, show (Ver.mk x y z (cutAt 45 (cutAt 43 s).1).2.1 (cutAt 43 s).2.1).pre = (cutAt 45 (cutAt 43 s).1).2.1 from rfl]
        suffices hn : numsL (Ver.mk x y z (cutAt 45 (cutAt 43 s).1).2.1 (cutAt 43 s).2.1) = (cutAt 45 (cutAt 43 s).1).1 by
          rw [hn, ← e2, ← e1]
        have hj := join_split 46 (cutAt 45 (cutAt 43 s).1).1 []
        unfold pcs at h3
        unfold three at h3
        split at h3
        · rename_i a b c hp
          rw [hp] at hj
          split at h3
          · rename_i hI
            simp only [Bool.and_eq_true] at hI
            cases h3
            unfold numsL
            rw [(numI_back hI.1.1).2, (numI_back hI.1.2).2, (numI_back hI.2).2]
            simpa [joinL] using hj
          · cases h3
        · cases h3
      · cases h
theorem print_eq {v : Ver} (h : v.may = true) : v.print = v.text := by unfold Ver.print; rw [if_pos h]
theorem print_bad {v : Ver} (h : v.may = false) : v.print = [] := by unfold Ver.print; rw [if_neg (by simp [h])]
theorem parse_eq (s : List UInt8) : parseI s = parseR s := by
  unfold parseI
  by_cases h : (guess s).print = s
  · rw [if_pos h]
    by_cases hm : (guess s).may = true
    · rw [print_eq hm] at h
      have := parseR_text hm
      rw [h] at this; exact this.symm
    · rw [print_bad (Bool.eq_false_iff.2 hm)] at h
      subst h
      exact absurd (by decide) hm
  · rw [if_neg h]
    cases hr : parseR s with
    | none => rfl
    | some v =>
      obtain ⟨hm, ht⟩ := parseR_back hr
      subst ht
      rw [guess_text hm, print_eq hm] at h
      exact absurd rfl h
theorem parseR_print {v : Ver} (h : v.may = true) : parseR v.print = some v := by rw [print_eq h]; exact parseR_text h
theorem print_inj {v w : Ver} (hv : v.may = true) (hw : w.may = true) (h : v.print = w.print) : v = w := by
  have h1 := parseR_print hv
  rw [h, parseR_print hw] at h1
  exact (Option.some.inj h1).symm
end Go.Proofs.YtndjdmbbndcohaaDoor
