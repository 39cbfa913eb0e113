/-
  Plain mathematics for chapter 2: tags, lists of tags (read piece by piece with an early end, and at once), cutting a string at its first byte of a kind.
-/
import Derived.Test.YtndjdmbbndcohaaDoorPlain2
import Derived.Test.YtndjdmbbndcohaaDoorPlain3
import Derived.Lib.CutLaws
namespace Go.Proofs.YtndjdmbbndcohaaDoor
open Go.RowKit

def tagC (c : UInt8) : Bool := letB c.toNat || digB c.toNat || decide ((c.toNat : Int) = 45)
def tagOk (t : List UInt8) : Bool := decide (1 ≤ t.length ∧ t.length ≤ 8) && t.all tagC
def numer (t : List UInt8) : Bool := !t.isEmpty && allDig t
def numI (t : List UInt8) : Bool := (numGo 0 true t).isSome
def pcs (s : List UInt8) : List (List UInt8) := splitL 46 [] s
def listOk (s : List UInt8) : Bool := s.isEmpty || (decide ((pcs s).length ≤ 4) && (pcs s).all tagOk)
def preT (t : List UInt8) : Bool := !numer t || numI t
def preOk (s : List UInt8) : Bool := listOk s && (s.isEmpty || (pcs s).all preT)

/-- Cut at the first byte b. -/
def cutAt (b : UInt8) : List UInt8 → List UInt8 × List UInt8 × Bool
  | [] => ([], [], false)
  | c :: r => if c = b then ([], r, true) else ((c :: (cutAt b r).1), (cutAt b r).2.1, (cutAt b r).2.2)
theorem cutAt_cut (b : UInt8) (l : List UInt8) : Lib.cut l [b] = cutAt b l := by
  induction l with
  | nil => rfl
  | cons c r ih =>
    have hge := Lib.index_ge r [b]
    unfold Lib.cut at ih ⊢
    unfold cutAt
    rw [Lib.index]
    by_cases h : c = b
    · subst h; simp
    · have e1 : ([b].isPrefixOf (c :: r)) = false := by simp [List.isPrefixOf]; exact fun e => h e.symm
      rw [e1, if_neg h, ← ih]
      by_cases hm : Lib.index r [b] = -1
      · rw [if_neg (by simp : ¬ (false = true))]; simp [hm]
      · have e3 : (if (Lib.index r [b] == -1) = true then (-1 : Int) else Lib.index r [b] + 1) = Lib.index r [b] + 1 := if_neg (by simpa using hm)
        rw [if_neg (by simp : ¬ (false = true)), e3, if_pos (by omega), if_pos (by omega)]
        have e2 : (Lib.index r [b] + 1).toNat = (Lib.index r [b]).toNat + 1 := by omega
        simp only [e2, List.take_succ_cons, List.length_cons, List.length_nil, Prod.mk.injEq, and_true, true_and]
        rw [show (Lib.index r [b]).toNat + 1 + (0 + 1) = ((Lib.index r [b]).toNat + (0 + 1)) + 1 from by omega, List.drop_succ_cons]
theorem cutAt_le (b : UInt8) (l : List UInt8) : (cutAt b l).1.length + (cutAt b l).2.1.length ≤ l.length := by
  induction l with
  | nil => simp [cutAt]
  | cons c r ih => unfold cutAt; split <;> simp <;> omega
theorem cutAt_split (b : UInt8) (l : List UInt8) : ∀ acc, splitL b acc l = (acc ++ (cutAt b l).1) :: (if (cutAt b l).2.2 then splitL b [] (cutAt b l).2.1 else []) := by
  induction l with
  | nil => intro acc; simp [splitL, cutAt]
  | cons c r ih =>
    intro acc
    rw [show splitL b acc (c :: r) = if c = b then acc :: splitL b [] r else splitL b (acc ++ [c]) r from rfl, show cutAt b (c :: r) = if c = b then ([], r, true) else ((c :: (cutAt b r).1), (cutAt b r).2.1, (cutAt b r).2.2) from rfl]
    by_cases h : c = b
    · rw [if_pos h, if_pos h]; simp
    · rw [if_neg h, if_neg h, ih]; simp
theorem cutAt_back (b : UInt8) (l : List UInt8) : l = (cutAt b l).1 ++ (if (cutAt b l).2.2 then b :: (cutAt b l).2.1 else []) := by
  induction l with
  | nil => simp [cutAt]
  | cons c r ih =>
    unfold cutAt
    by_cases h : c = b
    · simp [h]
    · rw [if_neg h]; simp only [List.cons_append, ← ih]
theorem cutAt_none (b : UInt8) (l : List UInt8) : (cutAt b l).2.2 = false → (cutAt b l).2.1 = [] := by
  induction l with
  | nil => simp [cutAt]
  | cons c r ih => unfold cutAt; split <;> simp; exact ih
theorem cutAt_hit (b : UInt8) (x y : List UInt8) (h : b ∉ x) : cutAt b (x ++ b :: y) = (x, y, true) := by
  induction x with
  | nil => simp [cutAt]
  | cons c r ih =>
    simp at h
    rw [List.cons_append, cutAt, if_neg (fun e => h.1 e.symm), ih h.2]
theorem cutAt_miss (b : UInt8) (x : List UInt8) (h : b ∉ x) : cutAt b x = (x, [], false) := by
  induction x with
  | nil => simp [cutAt]
  | cons c r ih =>
    simp at h
    rw [cutAt, if_neg (fun e => h.1 e.symm), ih h.2]
theorem cutAt_free (b : UInt8) (l : List UInt8) : b ∉ (cutAt b l).1 := by
  induction l with
  | nil => simp [cutAt]
  | cons c r ih =>
    unfold cutAt
    by_cases h : c = b
    · simp [h]
    · rw [if_neg h]; simp; exact ⟨fun e => h e.symm, ih⟩

/-- The list read tag by tag, at most n of them: the tags, and whether that was all. -/
def cutGo : Nat → List UInt8 → List (List UInt8) × Bool
  | 0, _ => ([], false)
  | n + 1, s =>
    if tagOk (cutAt 46 s).1 then
      (if (cutAt 46 s).2.2 then ((cutAt 46 s).1 :: (cutGo n (cutAt 46 s).2.1).1, (cutGo n (cutAt 46 s).2.1).2)
       else ([(cutAt 46 s).1], true))
    else ([], false)
theorem cutGo_ok (n : Nat) : ∀ s, (cutGo n s).2 = (decide ((pcs s).length ≤ n) && (pcs s).all tagOk) := by
  induction n with
  | zero =>
    intro s
    have := splitL_ne 46 s []
    have h : (pcs s).length ≠ 0 := by unfold pcs; simpa using this
    unfold cutGo
    simp [Nat.le_zero_eq, List.length_eq_zero_iff] at h ⊢
    intro e; exact absurd e h
  | succ n ih =>
    intro s
    have e := cutAt_split 46 s []
    rw [List.nil_append] at e
    unfold cutGo
    rw [show pcs s = _ from e]
    by_cases h : tagOk (cutAt 46 s).1 = true
    · rw [if_pos h]
      by_cases h2 : (cutAt 46 s).2.2 = true
      · rw [if_pos h2, if_pos h2]
        show (cutGo n (cutAt 46 s).2.1).2 = _
        rw [ih]; unfold pcs; simp [h]
      · rw [if_neg h2, if_neg h2]
        simp [h]
    · rw [if_neg h]; simp [h]
theorem cutGo_all (n : Nat) : ∀ s, (cutGo n s).2 = true → (cutGo n s).1 = pcs s := by
  induction n with
  | zero => intro s h; cases h
  | succ n ih =>
    intro s
    have e := cutAt_split 46 s []
    rw [List.nil_append] at e
    unfold cutGo
    rw [show pcs s = _ from e]
    by_cases h : tagOk (cutAt 46 s).1 = true
    · rw [if_pos h]
      by_cases h2 : (cutAt 46 s).2.2 = true
      · rw [if_pos h2, if_pos h2]
        intro h3
        show _ :: _ = _
        rw [ih _ h3]; rfl
      · rw [if_neg h2, if_neg h2]; intro _; rfl
    · rw [if_neg h]; intro h3; cases h3
theorem cutGo_len (n : Nat) : ∀ s, (cutGo n s).1.length ≤ n := by
  induction n with
  | zero => intro s; simp [cutGo]
  | succ n ih =>
    intro s
    unfold cutGo
    split
    · split
      · have := ih (cutAt 46 s).2.1; simp; exact this
      · simp
    · simp
theorem cutGo_le (n : Nat) : ∀ s, ∀ x ∈ (cutGo n s).1, tagOk x = true := by
  induction n with
  | zero => intro s x h; simp [cutGo] at h
  | succ n ih =>
    intro s x hx
    unfold cutGo at hx
    split at hx
    · rename_i h
      split at hx
      · rcases List.mem_cons.1 hx with rfl | hx
        · exact h
        · exact ih _ x hx
      · simp at hx; rw [hx]; exact h
    · simp at hx
/-- The four places that list fills. -/
def tg (l : List (List UInt8)) (i : Nat) : List UInt8 := (l[i]?).getD []
def lst (s : List UInt8) : List (List UInt8) × Bool := if s.isEmpty then ([], true) else cutGo 4 s
theorem lst_ok (s : List UInt8) : (lst s).2 = listOk s := by
  unfold lst listOk
  by_cases h : s.isEmpty = true
  · rw [if_pos h, h]; rfl
  · rw [if_neg h, Bool.eq_false_iff.2 h, Bool.false_or]; exact cutGo_ok 4 s
theorem lst_all (s : List UInt8) (h : listOk s = true) : (lst s).1 = if s.isEmpty then [] else pcs s := by
  rw [← lst_ok] at h
  unfold lst at h ⊢
  split
  · rfl
  · rename_i h2; rw [if_neg h2] at h; exact cutGo_all 4 s h
theorem lst_len (s : List UInt8) : (lst s).1.length ≤ 4 := by
  unfold lst; split
  · simp
  · exact cutGo_len 4 s
theorem lst_tag (s : List UInt8) : ∀ x ∈ (lst s).1, tagOk x = true := by
  unfold lst; split
  · intro x h; cases h
  · exact cutGo_le 4 s
theorem tagOk_len {t : List UInt8} (h : tagOk t = true) : 1 ≤ t.length ∧ t.length ≤ 8 := by
  unfold tagOk at h; simp at h; exact h.1
theorem tg_len (s : List UInt8) (i : Nat) : (tg (lst s).1 i).length ≤ 8 := by
  unfold tg
  cases h : (lst s).1[i]? with
  | none => simp
  | some x => exact (tagOk_len (lst_tag s x (List.mem_of_getElem? h))).2
theorem tg_all {p : List UInt8 → Bool} (hp : p [] = true) (l : List (List UInt8)) (h : l.length ≤ 4) : (p (tg l 0) && p (tg l 1) && p (tg l 2) && p (tg l 3)) = l.all p := by
  match l, h with
  | [], _ => simp [tg, hp]
  | [a], _ => simp [tg, hp]
  | [a, b], _ => simp [tg, hp]
  | [a, b, c], _ => simp [tg, hp, Bool.and_assoc]
  | [a, b, c, d], _ => simp [tg, Bool.and_assoc]
theorem preT_nil : preT [] = true := by decide
theorem preOk_lst (s : List UInt8) : preOk s = ((lst s).2 && (lst s).1.all preT) := by
  rw [lst_ok]
  unfold preOk
  by_cases h : listOk s = true
  · rw [h, Bool.true_and, Bool.true_and, lst_all s h]
    split
    · rename_i h2; rw [h2]; rfl
    · rename_i h2; rw [Bool.eq_false_iff.2 h2, Bool.false_or]
  · rw [Bool.eq_false_iff.2 h]; rfl
end Go.Proofs.YtndjdmbbndcohaaDoor
