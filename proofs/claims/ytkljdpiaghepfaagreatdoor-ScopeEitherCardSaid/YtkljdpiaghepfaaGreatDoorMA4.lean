/-
  What the statement's proof leans on: the ways of walking, plain mathematics, and what the program's functions return; each theorem says on what conditions.
-/
import Derived.Deep.RegionHeld3
import Derived.Outline
import Derived.Lib.SplitLaws
import Derived.Lib.TrimByte
import Derived.Lib.Join
import Derived.Lib.MakeNoZero
import Derived.Laws.IdiomCopy
import Derived.Test.YtkljdpiaghepfaaGreatDoorMA3
set_option maxRecDepth 1000000
set_option maxHeartbeats 8000000
set_option linter.unusedVariables false
set_option linter.unusedSimpArgs false
namespace Go.Proofs.YtkljdpiaghepfaaGreatDoor
open Go.RowKit

section
structure Co where
  op : Int
  parts : Int
  v : Ver
deriving DecidableEq
def yC (op : Int) : List UInt8 := if op = 1 then [61] else if op = 2 then [33, 61] else if op = 3 then [60] else if op = 4 then [60, 61] else if op = 5 then [62] else if op = 6 then [62, 61] else if op = 7 then [94] else if op = 8 then [126] else []
def Co.may (c : Co) : Bool := decide (1 ≤ c.op ∧ c.op ≤ 9) && c.v.may && decide (c.v.build = []) && (if c.op = 9 then decide (0 ≤ c.parts ∧ c.parts ≤ 2) else decide (1 ≤ c.parts ∧ c.parts ≤ 3)) && decide (3 ≤ c.parts ∨ c.v.pre = []) && decide (0 < c.parts ∨ c.v.maj = 0) && decide (1 < c.parts ∨ c.v.min = 0) && decide (2 < c.parts ∨ c.v.pat = 0)
theorem Co.facts {c : Co} (h : c.may = true) : (1 ≤ c.op ∧ c.op ≤ 9) ∧ c.v.may = true ∧ c.v.build = [] ∧ (c.op = 9 → 0 ≤ c.parts ∧ c.parts ≤ 2) ∧ (¬ c.op = 9 → 1 ≤ c.parts ∧ c.parts ≤ 3) ∧ (3 ≤ c.parts ∨ c.v.pre = []) ∧ (0 < c.parts ∨ c.v.maj = 0) ∧ (1 < c.parts ∨ c.v.min = 0) ∧ (2 < c.parts ∨ c.v.pat = 0) := by
  unfold Co.may at h
  simp only [Bool.and_eq_true, decide_eq_true_eq] at h
  obtain ⟨⟨⟨⟨⟨⟨⟨h1, h2⟩, h3⟩, h4⟩, h5⟩, h6⟩, h7⟩, h8⟩ := h
  refine ⟨h1, h2, h3, fun e => ?_, fun e => ?_, h5, h6, h7, h8⟩
  · rw [if_pos e] at h4; exact of_decide_eq_true h4
  · rw [if_neg e] at h4; exact of_decide_eq_true h4
theorem Co.may_iff {c : Co} : c.may = true ↔ (1 ≤ c.op ∧ c.op ≤ 9) ∧ c.v.may = true ∧ c.v.build = [] ∧ (c.op = 9 → 0 ≤ c.parts ∧ c.parts ≤ 2) ∧ (¬ c.op = 9 → 1 ≤ c.parts ∧ c.parts ≤ 3) ∧ (3 ≤ c.parts ∨ c.v.pre = []) ∧ (0 < c.parts ∨ c.v.maj = 0) ∧ (1 < c.parts ∨ c.v.min = 0) ∧ (2 < c.parts ∨ c.v.pat = 0) := by
  refine ⟨Co.facts, fun ⟨h1, h2, h3, k9, kn, h5, h6, h7, h8⟩ => ?_⟩
  unfold Co.may
  rw [decide_eq_true h1, h2, decide_eq_true h3, decide_eq_true h5, decide_eq_true h6, decide_eq_true h7, decide_eq_true h8]
  by_cases e : c.op = 9
  · rw [if_pos e, decide_eq_true (k9 e)]; rfl
  · rw [if_neg e, decide_eq_true (kn e)]; rfl
def yN (v : Ver) (n : Nat) : List (List UInt8) := [Lib.itoa v.maj, Lib.itoa v.min, Lib.itoa v.pat].take n
def Co.rest (c : Co) : List UInt8 := if c.op = 9 then yK 46 (yN c.v c.parts.toNat ++ [[42]]) else yK 46 (yN c.v c.parts.toNat) ++ wY 45 c.v.pre
def Co.text (c : Co) : List UInt8 := yC c.op ++ c.rest
def Co.print (c : Co) : List UInt8 := if c.may then c.text else []
def xF (s t : List UInt8) : Bool := decide (s.take t.length = t)
def dN (s : List UInt8) : Int × List UInt8 :=
  if xF s [33, 61] then (2, s.drop 2) else if xF s [60, 61] then (4, s.drop 2) else if xF s [62, 61] then (6, s.drop 2) else if xF s [61] then (1, s.drop 1)
  else if xF s [60] then (3, s.drop 1) else if xF s [62] then (5, s.drop 1) else if xF s [94] then (7, s.drop 1) else if xF s [126] then (8, s.drop 1)
  else if s.getLast? = some 42 then (9, s) else (7, s)
def f0 (op : Int) (rest : List UInt8) : List (List UInt8) := if op = 9 then (pcs (y8 45 rest).1).dropLast else pcs (y8 45 rest).1
def guessC (op : Int) (rest : List UInt8) : Option Co :=
  if (f0 op rest).length ≤ 3 ∧ (f0 op rest).all gE = true then
    some ⟨op, (f0 op rest).length, ⟨zP (tg (f0 op rest) 0), zP (tg (f0 op rest) 1), zP (tg (f0 op rest) 2), (y8 45 rest).2.1, []⟩⟩
  else none
def fits (s : List UInt8) (c : Co) : Bool := !decide (c.print = []) && (decide (c.print = s) || decide (c.print = 94 :: s))
def gU (s : List UInt8) : Option Co := (guessC (dN s).1 (dN s).2).filter (fits s)
theorem print_may {c : Co} (h : ¬ c.print = []) : c.may = true := by
  cases hm : c.may with
  | true => rfl
  | false => exact absurd (show c.print = [] by unfold Co.print; rw [hm]; rfl) h
theorem vG {c : Co} (h : c.may = true) : c.print = c.text := by unfold Co.print; rw [h]; rfl
theorem parseC_back {s : List UInt8} {c : Co} (h : gU s = some c) : c.may = true ∧ (c.text = s ∨ c.text = 94 :: s) := by
  unfold gU at h
  obtain ⟨_, h⟩ := Option.filter_eq_some_iff.1 h
  unfold fits at h
  simp only [Bool.and_eq_true, Bool.not_eq_true', decide_eq_false_iff_not, Bool.or_eq_true, decide_eq_true_eq] at h
  have hm := print_may h.1
  rw [vG hm] at h
  exact ⟨hm, h.2⟩
theorem pcs_cons {x y : List UInt8} (h : (46 : UInt8) ∉ x) : pcs (x ++ 46 :: y) = x :: pcs y := by
  unfold pcs
  rw [jW, tN 46 _ _ h]
  simp
theorem pcs_one {x : List UInt8} (h : (46 : UInt8) ∉ x) : pcs x = [x] := by
  unfold pcs
  rw [jW, uU 46 _ h]
  simp
theorem pcs_join : ∀ (l : List (List UInt8)), l ≠ [] → (∀ x ∈ l, (46 : UInt8) ∉ x) → pcs (yK 46 l) = l
  | [], h, _ => absurd rfl h
  | [x], _, h => pcs_one (h x (List.mem_singleton.2 rfl))
  | x :: y :: r, _, h => by
    rw [yK, pcs_cons (h x (List.mem_cons_self ..)), pcs_join (y :: r) (by simp) fun z hz => h z (List.mem_cons_of_mem _ hz)]
theorem nums_mem {v : Ver} (hv : v.may = true) {n : Nat} {x : List UInt8} (h : x ∈ yN v n) : ∃ k : Int, yH k = true ∧ x = Lib.itoa k := by
  obtain ⟨h1, h2, h3⟩ := j4 hv
  unfold yN at h
  have h := List.mem_of_mem_take h
  simp only [List.mem_cons, List.not_mem_nil, or_false] at h
  rcases h with rfl | rfl | rfl
  · exact ⟨_, h1, rfl⟩
  · exact ⟨_, h2, rfl⟩
  · exact ⟨_, h3, rfl⟩
theorem qL {v : Ver} (hv : v.may = true) {n : Nat} (b : UInt8) (hb : kB b.toNat = false) : ∀ x ∈ yN v n, b ∉ x := fun x hx => by
  obtain ⟨k, hk, rfl⟩ := nums_mem hv hx
  exact dig_free hk b hb
theorem vT (b : UInt8) (hb : b ≠ 46) : ∀ (l : List (List UInt8)), (∀ x ∈ l, b ∉ x) → b ∉ yK 46 l
  | [], _ => by simp [yK]
  | [x], h => h x (List.mem_singleton.2 rfl)
  | x :: y :: r, h => by
    rw [yK]
    simp only [List.mem_append, List.mem_cons, not_or]
    exact ⟨h x (List.mem_cons_self ..), hb, vT b hb (y :: r) fun z hz => h z (List.mem_cons_of_mem _ hz)⟩
theorem jI (v : Ver) {n : Nat} (h : n ≤ 3) : (yN v n).length = n := by
  unfold yN
  rw [List.length_take]
  simp; omega
theorem nums_num {v : Ver} (hv : v.may = true) (n : Nat) : (yN v n).all gE = true := List.all_eq_true.2 fun x hx => by
  obtain ⟨k, hk, rfl⟩ := nums_mem hv hx
  exact numI_itoa hk
theorem nums_back {v : Ver} (hv : v.may = true) {n : Nat} (h : n ≤ 3) (h0 : 0 < n ∨ v.maj = 0) (h1 : 1 < n ∨ v.min = 0) (h2 : 2 < n ∨ v.pat = 0) : zP (tg (yN v n) 0) = v.maj ∧ zP (tg (yN v n) 1) = v.min ∧ zP (tg (yN v n) 2) = v.pat := by
  obtain ⟨m1, m2, m3⟩ := j4 hv
  have e1 := bJ m1
  have e2 := bJ m2
  have e3 := bJ m3
  match n, h with
  | 0, _ => exact ⟨(h0.resolve_left (by decide)).symm, (h1.resolve_left (by decide)).symm, (h2.resolve_left (by decide)).symm⟩
  | 1, _ => exact ⟨e1, (h1.resolve_left (by decide)).symm, (h2.resolve_left (by decide)).symm⟩
  | 2, _ => exact ⟨e1, e2, (h2.resolve_left (by decide)).symm⟩
  | 3, _ => exact ⟨e1, e2, e3⟩
theorem guess_rest {c : Co} (h : c.may = true) : guessC c.op c.rest = some c := by
  obtain ⟨_, hv, hb, h9, hn, hp, k0, k1, k2⟩ := Co.facts h
  obtain ⟨op, parts, v⟩ := c
  simp only at hv hb h9 hn hp k0 k1 k2 ⊢
  have hparts : (parts.toNat : Int) = parts ∧ parts.toNat ≤ 3 := by
    by_cases e : op = 9
    · have := h9 e; omega
    · have := hn e; omega
  have key : f0 op (Co.rest ⟨op, parts, v⟩) = yN v parts.toNat ∧ (y8 45 (Co.rest ⟨op, parts, v⟩)).2.1 = v.pre := by
    unfold f0 Co.rest
    by_cases e : op = 9
    · rw [if_pos e]
      dsimp only
      rw [if_pos e]
      have f : ∀ b : UInt8, kB b.toNat = false → b ≠ 42 → ∀ x ∈ yN v parts.toNat ++ [[42]], b ∉ x := fun b hb hb2 x hx => by
        rcases List.mem_append.1 hx with hx | hx
        · exact qL hv b hb x hx
        · rw [List.mem_singleton.1 hx]
          intro hm
          exact hb2 (List.mem_singleton.1 hm)
      rw [uU 45 _ (vT 45 (by decide) _ (f 45 (by decide) (by decide)))]
      have hpre : v.pre = [] := hp.resolve_left (by have := h9 e; omega)
      exact ⟨by
        show (pcs (yK 46 (yN v parts.toNat ++ [[42]]))).dropLast = _
        rw [pcs_join _ (by simp) (f 46 (by decide) (by decide)), List.dropLast_concat], hpre.symm⟩
    · rw [if_neg e]
      dsimp only
      rw [if_neg e]
      have hne : yN v parts.toNat ≠ [] := fun h0 => by
        have := jI v hparts.2
        rw [h0] at this
        have := hn e
        simp at *; omega
      rw [cut_tail 45 _ _ (vT 45 (by decide) _ (qL hv 45 (by decide)))]
      exact ⟨pcs_join _ hne (qL hv 46 (by decide)), rfl⟩
  unfold guessC
  rw [key.1, key.2, if_pos ⟨by rw [jI v hparts.2]; exact hparts.2, nums_num hv _⟩]
  obtain ⟨e1, e2, e3⟩ := nums_back hv hparts.2 (by omega) (by omega) (by omega)
  rw [e1, e2, e3, jI v hparts.2, hparts.1]
  obtain ⟨a, b, p, q, r⟩ := v
  simp only at hb
  rw [hb]
theorem itoa_head {k : Int} (h : yH k = true) : ∃ d r, Lib.itoa k = d :: r ∧ kB d.toNat = true := by
  have hm := num_itoa h
  cases e : Lib.itoa k with
  | nil => rw [e] at hm; cases hm
  | cons d r => exact ⟨d, r, rfl, by
      have := dig_mem k.toNat d (by rw [← pH h, e]; exact List.mem_cons_self)
      exact this⟩
theorem join_head {x : List UInt8} {l : List (List UInt8)} {d : UInt8} {r : List UInt8} (h : x = d :: r) : ∃ r', yK 46 (x :: l) = d :: r' := by
  subst h
  cases l with
  | nil => exact ⟨r, rfl⟩
  | cons y t => exact ⟨_, rfl⟩
theorem bH {c : Co} (h : c.may = true) (hn : ¬ c.op = 9) : ∃ d r, c.rest = d :: r ∧ kB d.toNat = true := by
  obtain ⟨_, hv, _, _, h9, _⟩ := Co.facts h
  obtain ⟨d, r, e, hd⟩ := itoa_head (j4 hv).1
  obtain ⟨n, en⟩ : ∃ n, c.parts.toNat = n + 1 := ⟨c.parts.toNat - 1, by have := h9 hn; omega⟩
  obtain ⟨r', e'⟩ := join_head (l := [Lib.itoa c.v.min, Lib.itoa c.v.pat].take n) e
  refine ⟨d, r' ++ wY 45 c.v.pre, ?_, hd⟩
  unfold Co.rest yN
  rw [if_neg hn, en, List.take_succ_cons, e']; rfl
theorem fK {c : Co} (h : c.may = true) (hn : c.op = 9) : ∃ d r, c.rest = d :: r ∧ (kB d.toNat = true ∨ d = 42) := by
  obtain ⟨_, hv, _, h9, _⟩ := Co.facts h
  obtain ⟨d, r, e, hd⟩ := itoa_head (j4 hv).1
  unfold Co.rest yN
  rw [if_pos hn]
  cases hp : c.parts.toNat with
  | zero => exact ⟨42, [], rfl, .inr rfl⟩
  | succ n =>
    obtain ⟨r', e'⟩ := join_head (l := [Lib.itoa c.v.min, Lib.itoa c.v.pat].take n ++ [[42]]) e
    exact ⟨d, r', by rw [List.take_succ_cons, List.cons_append, e'], .inl hd⟩
theorem qG {d : UInt8} {r : List UInt8} {a : UInt8} {t : List UInt8} (h : d ≠ a) : xF (d :: r) (a :: t) = false := decide_eq_false fun e => by
  rw [List.length_cons, List.take_succ_cons] at e
  injection e with e1 _
  exact h e1
theorem split_plain {d : UInt8} {r : List UInt8} (h : kB d.toNat = true ∨ d = 42) : dN (d :: r) = if (d :: r).getLast? = some 42 then (9, d :: r) else (7, d :: r) := by
  have hd : ∀ a : UInt8, kB a.toNat = false → a ≠ 42 → d ≠ a := fun a ha h42 e => by
    subst e
    rcases h with h | h
    · rw [ha] at h; cases h
    · exact h42 h
  unfold dN
  rw [qG (hd 33 (by decide) (by decide)), qG (hd 60 (by decide) (by decide)), qG (hd 62 (by decide) (by decide)), qG (hd 61 (by decide) (by decide)), qG (hd 60 (by decide) (by decide)), qG (hd 62 (by decide) (by decide)), qG (hd 94 (by decide) (by decide)), qG (hd 126 (by decide) (by decide))]
  rfl
theorem split_sign {op : Int} (h1 : 1 ≤ op) (h8 : op ≤ 8) {d : UInt8} {r : List UInt8} (hd : kB d.toNat = true) : dN (yC op ++ d :: r) = (op, d :: r) := by
  have h61 : d ≠ 61 := fun e => by subst e; revert hd; decide
  have hop : op = 1 ∨ op = 2 ∨ op = 3 ∨ op = 4 ∨ op = 5 ∨ op = 6 ∨ op = 7 ∨ op = 8 := by omega
  rcases hop with rfl | rfl | rfl | rfl | rfl | rfl | rfl | rfl <;> simp [yC, dN, xF, h61]
theorem tG (x : List UInt8) : ∀ (l : List (List UInt8)), (yK 46 (l ++ [x ++ [42]])).getLast? = some 42
  | [] => by simp [yK]
  | [y] => by
    show (y ++ 46 :: (x ++ [42])).getLast? = some 42
    rw [show y ++ 46 :: (x ++ [42]) = (y ++ 46 :: x) ++ [42] from by simp, List.getLast?_concat]
  | y :: z :: r => by
    have := tG x (z :: r)
    show (y ++ 46 :: yK 46 (z :: r ++ [x ++ [42]])).getLast? = some 42
    rw [List.getLast?_append]
    cases hj : yK 46 (z :: r ++ [x ++ [42]]) with
    | nil => rw [hj] at this; cases this
    | cons a b => rw [hj] at this; rw [List.getLast?_cons_cons, this]; rfl
theorem star_free (s : List UInt8) (h : qA s = true) : (42 : UInt8) ∉ s := by
  intro hm
  unfold qA at h
  rcases mP 46 s [] 42 hm with e | ⟨x, hx, hc⟩
  · revert e; decide
  · have hne : s.isEmpty = false := by cases s with
      | nil => cases hm
      | cons _ _ => rfl
    rw [hne, Bool.false_or, Bool.and_eq_true] at h
    have := List.all_eq_true.1 h.2 x hx
    unfold gB at this
    rw [Bool.and_eq_true] at this
    have := List.all_eq_true.1 this.2 _ hc
    revert this; decide
theorem rest_star {c : Co} (h : c.may = true) (hn : ¬ c.op = 9) : (42 : UInt8) ∉ c.rest := by
  obtain ⟨_, hv, _⟩ := Co.facts h
  have hl : qA c.v.pre = true := by
    have := fP hv
    unfold vO at this
    exact (Bool.and_eq_true_iff.1 this).1
  unfold Co.rest
  rw [if_neg hn]
  intro hm
  rcases List.mem_append.1 hm with hm | hm
  · exact vT 42 (by decide) _ (qL hv 42 (by decide)) hm
  · unfold wY at hm
    split at hm
    · cases hm
    · rcases List.mem_cons.1 hm with e | hm
      · revert e; decide
      · exact star_free _ hl hm
theorem split_text {c : Co} (h : c.may = true) : dN c.text = (c.op, c.rest) := by
  obtain ⟨ho, _⟩ := Co.facts h
  unfold Co.text
  by_cases hn : c.op = 9
  · obtain ⟨d, r, e, hd⟩ := fK h hn
    have hl : c.rest.getLast? = some 42 := by unfold Co.rest; rw [if_pos hn]; exact tG [] _
    rw [hn, show yC 9 = [] from rfl, List.nil_append]
    rw [e] at hl ⊢
    rw [split_plain hd, if_pos hl]
  · obtain ⟨d, r, e, hd⟩ := bH h hn
    rw [e]
    exact split_sign ho.1 (by omega) hd
theorem parseC_text {c : Co} (h : c.may = true) : gU c.text = some c := by
  unfold gU
  rw [split_text h, guess_rest h]
  refine Option.filter_eq_some_iff.2 ⟨rfl, ?_⟩
  have hne : ¬ c.text = [] := fun e => by
    unfold Co.text at e
    have e2 := (List.append_eq_nil_iff.1 e).2
    by_cases hn : c.op = 9
    · obtain ⟨d, r, e3, _⟩ := fK h hn; rw [e3] at e2; cases e2
    · obtain ⟨d, r, e3, _⟩ := bH h hn; rw [e3] at e2; cases e2
  unfold fits
  rw [vG h, decide_eq_false hne, decide_eq_true rfl]; rfl
theorem parseC_caret {c : Co} {s : List UInt8} (h : c.may = true) (hs : c.text = 94 :: s) : gU s = some c := by
  obtain ⟨ho, _⟩ := Co.facts h
  have hop : c.op = 7 ∧ c.rest = s := by
    unfold Co.text at hs
    by_cases hn : c.op = 9
    · obtain ⟨d, r, e, hd⟩ := fK h hn
      rw [hn, show yC 9 = [] from rfl, List.nil_append, e] at hs
      injection hs with e1 _
      rw [e1] at hd
      exact absurd hd (by decide)
    · have hop : c.op = 1 ∨ c.op = 2 ∨ c.op = 3 ∨ c.op = 4 ∨ c.op = 5 ∨ c.op = 6 ∨ c.op = 7 ∨ c.op = 8 := by omega
      rcases hop with e | e | e | e | e | e | e | e <;> rw [e] at hs <;> simp [yC] at hs
      exact ⟨e, hs⟩
  obtain ⟨d, r, e, hd⟩ := bH h (by omega)
  have h42 : ¬ s.getLast? = some 42 := fun hl => by
    have := List.mem_of_getLast? hl
    rw [← hop.2] at this
    exact rest_star h (by omega) this
  unfold gU
  have hsp : dN s = (7, s) := by
    rw [← hop.2, e, split_plain (.inl hd), if_neg (by rw [← e, hop.2]; exact h42)]
  rw [hsp]
  have hg := guess_rest h
  rw [hop.1, hop.2] at hg
  rw [hg]
  refine Option.filter_eq_some_iff.2 ⟨rfl, ?_⟩
  unfold fits
  rw [vG h, hs, decide_eq_false (by simp), decide_eq_true rfl, Bool.or_true]; rfl
theorem uN (s : List UInt8) (c : Co) : gU s = some c ↔ c.may = true ∧ (c.text = s ∨ c.text = 94 :: s) :=
  ⟨parseC_back, fun ⟨hm, h⟩ => h.elim (fun e => e ▸ parseC_text hm) (fun e => parseC_caret hm e)⟩
end
section
end
section
def qB (v : Ver) : Nat → Cu
  | 0 => if y9 v 0 then ⟨0, yX v 0, false⟩ else zY 1
  | k + 1 => if y9 v ((k + 1 : Nat) : Int) then ⟨0, yX v ((k + 1 : Nat) : Int), false⟩ else qB v k
def turnsK (c : Co) : Nat := if 0 < c.v.maj ∨ c.parts = 1 then 0 else if 0 < c.v.min ∨ c.parts = 2 then 1 else 2
def Co.low (c : Co) : Cu := ⟨0, kG c.v, false⟩
def Co.aft (c : Co) : Cu := if c.parts < 3 ∧ 0 < c.parts then qB c.v (c.parts - 1).toNat else ⟨0, kG c.v, true⟩
def Co.span (c : Co) : Cu × Cu :=
  if c.op = 1 ∨ c.op = 2 then (c.low, c.aft) else if c.op = 3 then (zY (-1), c.low) else if c.op = 4 then (zY (-1), c.aft) else if c.op = 5 then (c.aft, zY 1) else if c.op = 6 then (c.low, zY 1)
  else if c.op = 7 then (c.low, qB c.v (turnsK c)) else if c.op = 8 then (c.low, qB c.v (min (c.parts - 1) 1).toNat) else if c.parts = 0 then (zY (-1), zY 1) else (c.low, qB c.v (c.parts - 1).toNat)
def xY (lo hi : Cu) : List Sp := gS [] lo hi
def Co.region (c : Co) : List Sp := if c.may then (if c.op = 2 then vW (xY c.span.1 c.span.2) else xY c.span.1 c.span.2) else []
def Co.zone (c : Co) : List Sp := if c.may && !decide (c.v.pre = []) then [⟨⟨0, { c.v with pre := [48], build := [] }, false⟩, ⟨0, { c.v with pre := [], build := [] }, false⟩⟩] else []
theorem oneRow_may (lo hi : Cu) : zK (xY lo hi) = true := add_ok rfl (fun t h => by cases h)
theorem before_may {v : Ver} (h : v.may = true) (a : Bool) : (⟨0, kG v, a⟩ : Cu).may = true := by
  have h2 := f8 h
  unfold Cu.may
  rw [if_pos rfl]
  show ((kG v).may && ([] : List UInt8).isEmpty) = true
  rw [h2]; rfl
theorem bump_rel {v : Ver} {k : Int} (h : y9 v k = true) : ∃ a b c, yX v k = Ver.rel a b c := by
  unfold yX
  rw [if_pos h]
  unfold bumpN
  split
  · exact ⟨_, _, _, rfl⟩
  · split
    · exact ⟨_, _, _, rfl⟩
    · exact ⟨_, _, _, rfl⟩
def upN (v : Ver) (k : Nat) : Int := if k = 0 then (v.maj + 1) * 100000000 else if k = 1 then v.maj * 100000000 + (v.min + 1) * 10000 else v.code + 1
def ordB (op n : Int) : Bool := if op = 1 then decide (n = 0) else if op = 2 then decide (¬ n = 0) else if op = 3 then decide (n < 0) else if op = 4 then decide (n ≤ 0) else if op = 5 then decide (0 < n) else decide (0 ≤ n)
end
section
def uD (c : Co) (v : Ver) (p : Int) : Bool := (decide (p < 1) || decide (v.maj = c.v.maj)) && (decide (p < 2) || decide (v.min = c.v.min)) && (decide (p < 3) || decide (v.pat = c.v.pat))
def overB (c : Co) (v : Ver) : Bool := if ¬ v.maj = c.v.maj ∨ c.parts = 1 then decide (c.v.maj < v.maj) else if ¬ v.min = c.v.min ∨ c.parts = 2 then decide (c.v.min < v.min) else decide (c.v.pat < v.pat)
def saysN (c : Co) : Int := if 0 < c.v.maj ∨ c.parts = 1 then 1 else if 0 < c.v.min ∨ c.parts = 2 then 2 else 3
def saysB (c : Co) (v : Ver) : Bool :=
  if c.op = 1 ∨ c.op = 9 then uD c v c.parts else if c.op = 2 then !uD c v c.parts else if c.op = 3 then !uD c v c.parts && !overB c v else if c.op = 4 then uD c v c.parts || !overB c v
  else if c.op = 5 then overB c v else if c.op = 6 then uD c v c.parts || overB c v else if c.op = 8 then uD c v (min c.parts 2) && (uD c v c.parts || overB c v)
  else uD c v (saysN c) && (uD c v c.parts || overB c v)
def truncN (v : Ver) (q : Nat) : Int := if q = 1 then v.maj * 100000000 else if q = 2 then v.maj * 100000000 + v.min * 10000 else v.code
end
section
def dZ (v : Ver) : Ver := { v with pre := [48], build := [] }
def bareV (v : Ver) : Ver := { v with pre := [], build := [] }
theorem least_may {v : Ver} (h : v.may = true) : (dZ v).may = true ∧ (bareV v).may = true := by
  obtain ⟨h1, h2, h3⟩ := j4 h
  have k : vO [48] = true := by decide
  unfold Ver.may dZ bareV
  dsimp only
  rw [h1, h2, h3, k]
  exact ⟨rfl, rfl⟩
theorem zone_row {c : Co} (h : c.may = true) (hp : ¬ c.v.pre = []) : c.zone = [⟨⟨0, dZ c.v, false⟩, ⟨0, bareV c.v, false⟩⟩] := by
  unfold Co.zone
  rw [h, decide_eq_false hp]; rfl
theorem zone_sp {v : Ver} (h : v.may = true) : (Sp.mk ⟨0, dZ v, false⟩ ⟨0, bareV v, false⟩).may = true := by
  obtain ⟨m1, m2⟩ := least_may h
  refine bA ?_
  have c1 : (⟨0, dZ v, false⟩ : Cu).may = true := before_may m1 false
  have c2 : (⟨0, bareV v, false⟩ : Cu).may = true := before_may m2 false
  rw [qM c1 c2]
  have e : xJ (dZ v) (bareV v) = -1 := by
    rw [bU m1 m2]
    have e1 : (dZ v).code = (bareV v).code := rfl
    rw [e1, if_neg (by omega), if_neg (by omega)]; rfl
  show lex (Lib.compareInt 0 0) (lex (xJ (dZ v) (bareV v)) (Lib.compareInt (b01 false) (b01 false))) < 0
  rw [e]
  decide
theorem zone_may {c : Co} : zK c.zone = true := by
  by_cases h : c.may = true
  · by_cases hp : c.v.pre = []
    · unfold Co.zone; rw [h, decide_eq_true hp]; rfl
    · rw [zone_row h hp]; exact zone_sp (Co.facts h).2.1
  · unfold Co.zone
    rw [Bool.eq_false_iff.2 h]; rfl
def withO (c : Co) (o : Int) : Co := { c with op := o }
end
section
def gC (sep : List UInt8) : List (List UInt8) → List UInt8
  | [] => []
  | [x] => x
  | x :: y :: l => x ++ sep ++ gC sep (y :: l)
theorem bM (sep x y : List UInt8) (l : List (List UInt8)) : gC sep (x :: y :: l) = x ++ sep ++ gC sep (y :: l) := rfl
theorem joinB_snoc (sep x : List UInt8) : ∀ (l : List (List UInt8)), gC sep (l ++ [x]) = if l = [] then x else gC sep l ++ sep ++ x
  | [] => rfl
  | [y] => rfl
  | y :: z :: l => by
    rw [if_neg (by simp)]
    show y ++ sep ++ gC sep ((z :: l) ++ [x]) = y ++ sep ++ gC sep (z :: l) ++ sep ++ x
    rw [joinB_snoc sep x (z :: l), if_neg (by simp)]
    simp only [List.append_assoc]
def sumN : List Nat → Nat
  | [] => 0
  | n :: l => n + sumN l
theorem joinB_len (sep : List UInt8) : ∀ (l : List (List UInt8)), (gC sep l).length = sumN (l.map (·.length)) + (l.length - 1) * sep.length
  | [] => by simp [gC, sumN]
  | [x] => by simp [gC, sumN]
  | x :: y :: l => by
    rw [bM, List.length_append, List.length_append, joinB_len sep (y :: l)]
    show x.length + sep.length + (sumN ((y :: l).map (·.length)) + ((y :: l).length - 1) * sep.length) = x.length + sumN ((y :: l).map (·.length)) + ((y :: l).length + 1 - 1) * sep.length
    have e : ((y :: l).length + 1 - 1) * sep.length = ((y :: l).length - 1) * sep.length + sep.length := by
      rw [show (y :: l).length + 1 - 1 = ((y :: l).length - 1) + 1 from by simp, Nat.add_mul, Nat.one_mul]
    omega
def kR (a : List Co) : List UInt8 := gC [44, 32] (a.map Co.print)
def qZ (r : List (List Co)) : List UInt8 := gC [32, 124, 124, 32] (r.map kR)
def fewA (a : List Co) : Bool := decide (1 ≤ a.length ∧ a.length ≤ 6) && a.all Co.may
def fewR (r : List (List Co)) : Bool := decide (1 ≤ r.length ∧ r.length ≤ 6) && r.all fewA
def rgMay (r : List (List Co)) : Bool := fewR r && decide ((qZ r).length ≤ 96)
def d6 (r : List (List Co)) : List UInt8 := if rgMay r then qZ r else []
theorem fewA.facts {a : List Co} (h : fewA a = true) : (1 ≤ a.length ∧ a.length ≤ 6) ∧ ∀ c ∈ a, c.may = true := by
  unfold fewA at h
  rw [Bool.and_eq_true, decide_eq_true_eq] at h
  exact ⟨h.1, List.all_eq_true.1 h.2⟩
theorem fewR.facts {r : List (List Co)} (h : fewR r = true) : (1 ≤ r.length ∧ r.length ≤ 6) ∧ ∀ a ∈ r, fewA a = true := by
  unfold fewR at h
  rw [Bool.and_eq_true, decide_eq_true_eq] at h
  exact ⟨h.1, List.all_eq_true.1 h.2⟩
theorem rgMay.facts {r : List (List Co)} (h : rgMay r = true) : fewR r = true ∧ (qZ r).length ≤ 96 := by
  unfold rgMay at h
  rw [Bool.and_eq_true, decide_eq_true_eq] at h
  exact h
def kI : List UInt8 → List UInt8
  | [] => []
  | c :: l => if c = 32 then kI l else c :: l
def xU (s : List UInt8) : List UInt8 := (kI (kI s).reverse).reverse
def xG : List UInt8 → List UInt8 → List (List UInt8)
  | acc, [] => [acc]
  | acc, [c] => [acc ++ [c]]
  | acc, c :: d :: r => if c = 124 ∧ d = 124 then acc :: xG [] r else xG (acc ++ [c]) (d :: r)
def jZ {α β : Type} (f : α → Option β) : List α → Option (List β)
  | [] => some []
  | x :: l => match f x, jZ f l with
    | some y, some m => some (y :: m)
    | _, _ => none
theorem allO_cons {α β : Type} {f : α → Option β} {x : α} {l : List α} {y : β} {m : List β} (h1 : f x = some y) (h2 : jZ f l = some m) : jZ f (x :: l) = some (y :: m) := by
  show (match f x, jZ f l with | some y, some m => some (y :: m) | _, _ => none) = _
  rw [h1, h2]
theorem pT {α β : Type} {f : α → Option β} {x : α} {l : List α} {m : List β} (h : jZ f (x :: l) = some m) : ∃ y m', m = y :: m' ∧ f x = some y ∧ jZ f l = some m' := by
  have h : (match f x, jZ f l with | some y, some m => some (y :: m) | _, _ => none) = some m := h
  cases h1 : f x with
  | none => rw [h1] at h; cases h
  | some y =>
    cases h2 : jZ f l with
    | none => rw [h1, h2] at h; cases h
    | some m' => rw [h1, h2] at h; injection h with h; exact ⟨y, m', h.symm, rfl, rfl⟩
theorem tZ {α β : Type} {f : α → Option β} : ∀ {l : List α} {x : α}, x ∈ l → f x = none → jZ f l = none
  | y :: l, x, hx, h => by
    show (match f y, jZ f l with | some y, some m => some (y :: m) | _, _ => none) = _
    rcases List.mem_cons.1 hx with rfl | hx
    · rw [h]
    · rw [tZ hx h]; cases f y <;> rfl
theorem bW {α β : Type} {f : α → Option β} : ∀ {l : List α} {m : List β}, jZ f l = some m → m.length = l.length
  | [], m, h => by injection h with h; subst h; rfl
  | x :: l, m, h => by
    obtain ⟨y, m', rfl, _, h2⟩ := pT h
    rw [List.length_cons, List.length_cons, bW h2]
theorem allO_app {α β : Type} {f : α → Option β} {b : List α} {n : List β} (hb : jZ f b = some n) : ∀ {a : List α} {m : List β}, jZ f a = some m → jZ f (a ++ b) = some (m ++ n)
  | [], m, h => by injection h with h; subst h; exact hb
  | x :: a, m, h => by
    obtain ⟨y, m', rfl, h1, h2⟩ := pT h
    exact allO_cons h1 (allO_app hb h2)
theorem allO_snoc {α β : Type} {f : α → Option β} {a : List α} {m : List β} {x : α} {y : β} (h : jZ f a = some m) (h1 : f x = some y) : jZ f (a ++ [x]) = some (m ++ [y]) := allO_app (allO_cons h1 rfl) h
theorem allO_mem {α β : Type} {f : α → Option β} : ∀ {l : List α} {m : List β}, jZ f l = some m → ∀ x ∈ l, ∃ y ∈ m, f x = some y
  | z :: l, m, h, x, hx => by
    obtain ⟨y, m', rfl, h1, h2⟩ := pT h
    rcases List.mem_cons.1 hx with rfl | hx
    · exact ⟨y, List.mem_cons_self .., h1⟩
    · obtain ⟨w, hw, e⟩ := allO_mem h2 x hx
      exact ⟨w, List.mem_cons_of_mem _ hw, e⟩
theorem allO_back {α β : Type} {f : α → Option β} : ∀ {l : List α} {m : List β}, jZ f l = some m → ∀ y ∈ m, ∃ x ∈ l, f x = some y
  | [], m, h, y, hy => by injection h with h; subst h; cases hy
  | z :: l, m, h, y, hy => by
    obtain ⟨w, m', rfl, h1, h2⟩ := pT h
    rcases List.mem_cons.1 hy with rfl | hy
    · exact ⟨z, List.mem_cons_self .., h1⟩
    · obtain ⟨x, hx, e⟩ := allO_back h2 y hy
      exact ⟨x, List.mem_cons_of_mem _ hx, e⟩
def parseP (s : List UInt8) : Option Co := gU (xU s)
def mW (s : List UInt8) : Option (List Co) := jZ parseP (yR 44 [] s)
def kU (s : List UInt8) : Option (List (List Co)) := jZ mW (xG [] s)
def zM (s : List UInt8) : Option (List (List Co)) := if 96 < s.length then none else (kU s).filter rgMay
def yW (s : List UInt8) : Int := if 96 < s.length then 3 else match kU s with
  | none => 6
  | some r => if fewR r then (if (qZ r).length ≤ 96 then 0 else 3) else 6
theorem text_free {c : Co} (h : c.may = true) (b : UInt8) (h1 : uL b = false) (h2 : b ≠ 46 ∧ b ≠ 42) (h3 : b ∉ ([61, 33, 60, 62, 94, 126] : List UInt8)) : b ∉ c.text := by
  obtain ⟨_, hv, _⟩ := Co.facts h
  have hd : kB b.toNat = false := by
    unfold uL at h1
    rw [Bool.or_eq_false_iff, Bool.or_eq_false_iff] at h1
    exact h1.1.2
  have h45 : b ≠ 45 := fun e => by subst e; revert h1; decide
  have hl : qA c.v.pre = true := by
    have := fP hv
    unfold vO at this
    exact (Bool.and_eq_true_iff.1 this).1
  have hp : b ∉ c.v.pre := by
    intro hm
    unfold qA at hl
    rcases mP 46 c.v.pre [] b hm with e | ⟨x, hx, hc⟩
    · exact h2.1 e
    · have hne : c.v.pre.isEmpty = false := by cases hc2 : c.v.pre with
        | nil => rw [hc2] at hm; cases hm
        | cons _ _ => rfl
      rw [hne, Bool.false_or, Bool.and_eq_true] at hl
      have := List.all_eq_true.1 hl.2 x hx
      unfold gB at this
      rw [Bool.and_eq_true] at this
      have := List.all_eq_true.1 this.2 _ hc
      rw [h1] at this; cases this
  unfold Co.text
  intro hm
  rcases List.mem_append.1 hm with hm | hm
  · apply h3
    unfold yC at hm
    repeat' split at hm
    all_goals (simp at hm ⊢)
    all_goals (rcases hm with rfl | rfl <;> simp) <;> skip
  · unfold Co.rest at hm
    split at hm
    · refine vT b h2.1 _ (fun x hx => ?_) hm
      rcases List.mem_append.1 hx with hx | hx
      · exact qL hv b hd x hx
      · rw [List.mem_singleton.1 hx]
        intro e; exact h2.2 (List.mem_singleton.1 e)
    · rcases List.mem_append.1 hm with hm | hm
      · exact vT b h2.1 _ (qL hv b hd) hm
      · unfold wY at hm
        split at hm
        · cases hm
        · rcases List.mem_cons.1 hm with e | hm
          · exact h45 e
          · exact hp hm
theorem text_no124 {c : Co} (h : c.may = true) : (124 : UInt8) ∉ c.text := text_free h 124 (by decide) (by decide) (by decide)
def blanks (n : Nat) : List UInt8 := List.replicate n 32
theorem tU {b : UInt8} : ∀ {s : List UInt8}, b ∈ s → b ≠ 32 → b ∈ kI s
  | c :: l, h, hb => by
    rw [kI]
    split
    · rename_i hc
      rcases List.mem_cons.1 h with e | h
      · exact absurd (e.trans hc) hb
      · exact tU h hb
    · exact h
theorem bareL_mem {b : UInt8} {s : List UInt8} (h : b ∈ s) (hb : b ≠ 32) : b ∈ xU s := List.mem_reverse.2 (tU (List.mem_reverse.2 (tU h hb)) hb)
theorem altsL_free : ∀ (x acc : List UInt8), (124 : UInt8) ∉ x → xG acc x = [acc ++ x]
  | [], acc, _ => by simp [xG]
  | [c], acc, _ => rfl
  | c :: d :: r, acc, h => by
    rw [xG, if_neg (by rintro ⟨rfl, _⟩; exact h (List.mem_cons_self ..)), altsL_free (d :: r) _ fun e => h (List.mem_cons_of_mem _ e)]
    simp
theorem altsL_hit : ∀ (x acc t : List UInt8), (124 : UInt8) ∉ x → xG acc (x ++ 124 :: 124 :: t) = (acc ++ x) :: xG [] t
  | [], acc, t, _ => by
    rw [List.nil_append, xG, if_pos ⟨rfl, rfl⟩, List.append_nil]
  | [c], acc, t, h => by
    show xG acc (c :: 124 :: 124 :: t) = _
    rw [xG, if_neg (by rintro ⟨rfl, _⟩; exact h (List.mem_cons_self ..)), xG, if_pos ⟨rfl, rfl⟩]
  | c :: d :: r, acc, t, h => by
    show xG acc (c :: d :: (r ++ 124 :: 124 :: t)) = _
    rw [xG, if_neg (by rintro ⟨rfl, _⟩; exact h (List.mem_cons_self ..))]
    have := altsL_hit (d :: r) (acc ++ [c]) t fun e => h (List.mem_cons_of_mem _ e)
    rw [List.cons_append] at this
    rw [this]; simp
theorem alts_join : ∀ (l : List (List UInt8)), l ≠ [] → (∀ x ∈ l, (124 : UInt8) ∉ x) → xG [] (gC [124, 124] l) = l
  | [], h, _ => absurd rfl h
  | [x], _, h => altsL_free x [] (h x (List.mem_singleton.2 rfl))
  | x :: y :: r, _, h => by
    rw [bM, List.append_assoc]
    show xG [] (x ++ 124 :: 124 :: gC [124, 124] (y :: r)) = _
    rw [altsL_hit x [] _ (h x (List.mem_cons_self ..)), alts_join (y :: r) (by simp) fun z hz => h z (List.mem_cons_of_mem _ hz)]
    rfl
theorem fB : ∀ (s acc : List UInt8), xG acc s ≠ []
  | [], acc => by simp [xG]
  | [c], acc => by simp [xG]
  | c :: d :: r, acc => by
    rw [xG]
    split
    · simp
    · exact fB (d :: r) _
theorem joinB_cons (sep x : List UInt8) {l : List (List UInt8)} (h : l ≠ []) : gC sep (x :: l) = x ++ sep ++ gC sep l := by
  cases l with
  | nil => exact absurd rfl h
  | cons y l => rfl
theorem tI : ∀ (s acc : List UInt8), gC [124, 124] (xG acc s) = acc ++ s
  | [], acc => by simp [xG, gC]
  | [c], acc => by simp [xG, gC]
  | c :: d :: r, acc => by
    rw [xG]
    split
    · rename_i h
      rw [joinB_cons _ _ (fB r []), tI r [], h.1, h.2]
      simp
    · rw [tI (d :: r) (acc ++ [c])]; simp
theorem pS : ∀ (s acc : List UInt8), ∀ x ∈ xG acc s, x.length ≤ acc.length + s.length
  | [], acc, x, hx => by
    have : x = acc := by simpa [xG] using hx
    subst this; simp
  | [c], acc, x, hx => by
    have : x = acc ++ [c] := by simpa [xG] using hx
    subst this; simp
  | c :: d :: r, acc, x, hx => by
    rw [xG] at hx
    split at hx
    · rcases List.mem_cons.1 hx with rfl | hx
      · simp only [List.length_cons]; omega
      · have := pS r [] x hx
        simp only [List.length_cons, List.length_nil] at this ⊢; omega
    · have := pS (d :: r) (acc ++ [c]) x hx
      simp only [List.length_append, List.length_cons, List.length_nil] at this ⊢; omega
theorem nO : ∀ (s acc : List UInt8), (xG acc s).length ≤ s.length + 1
  | [], acc => by simp [xG]
  | [c], acc => by simp [xG]
  | c :: d :: r, acc => by
    rw [xG]
    split
    · have := nO r []; simp only [List.length_cons]; omega
    · have := nO (d :: r) (acc ++ [c]); simp only [List.length_cons] at this ⊢; omega
inductive Two {α β : Type} (R : α → β → Prop) : List α → List β → Prop
  | nil : Two R [] []
  | cons {x : α} {y : β} {l : List α} {m : List β} (h : R x y) (t : Two R l m) : Two R (x :: l) (y :: m)
def SpellC (s : List UInt8) (c : Co) : Prop := ∃ n m, s = blanks n ++ c.text ++ blanks m
def SpellA (s : List UInt8) (a : List Co) : Prop := ∃ ps, s = yK 44 ps ∧ Two SpellC ps a ∧ ps ≠ []
def SpellR (s : List UInt8) (r : List (List Co)) : Prop := ∃ l, s = gC [124, 124] l ∧ Two SpellA l r ∧ l ≠ []
theorem text_ne {c : Co} (h : c.may = true) : c.text ≠ [] := by
  intro e
  have := (uN c.text c).2 ⟨h, .inl rfl⟩
  rw [e] at this
  revert this
  have : gU [] = none := by decide
  rw [this]; simp
theorem jA {s : List UInt8} {r : List (List Co)} (h : zM s = some r) : yW s = 0 ∧ rgMay r = true ∧ kU s = some r ∧ s.length ≤ 96 := by
  unfold zM at h
  split at h
  · cases h
  · rename_i hl
    cases hp : kU s with
    | none => rw [hp] at h; cases h
    | some q =>
      rw [hp] at h
      unfold Option.filter at h
      simp only at h
      split at h
      · rename_i hm
        injection h with h
        subst h
        obtain ⟨k1, k2⟩ := rgMay.facts hm
        refine ⟨?_, hm, rfl, by omega⟩
        unfold yW
        rw [if_neg hl, hp]
        simp only
        rw [if_pos k1, if_pos k2]
      · cases h
theorem err_none {s : List UInt8} (h : zM s = none) : yW s = 3 ∨ yW s = 6 := by
  unfold zM at h
  unfold yW
  split at h
  · rename_i hl; rw [if_pos hl]; exact .inl rfl
  · rename_i hl
    rw [if_neg hl]
    cases hp : kU s with
    | none => exact .inr rfl
    | some q =>
      rw [hp] at h
      simp only
      cases h1 : fewR q with
      | false => exact .inr rfl
      | true =>
        rw [if_pos rfl]
        by_cases h2 : (qZ q).length ≤ 96
        · exfalso
          have : rgMay q = true := by unfold rgMay; rw [h1, decide_eq_true h2]; rfl
          simp [Option.filter, this] at h
        · rw [if_neg h2]; exact .inl rfl
end
section
theorem nodup_le {α : Type} [DecidableEq α] : ∀ (l m : List α), l.Nodup → (∀ x ∈ l, x ∈ m) → l.length ≤ m.length
  | [], m, _, _ => Nat.zero_le _
  | x :: l, m, hn, hs => by
    have hx := hs x (List.mem_cons_self ..)
    have h1 := List.length_erase_of_mem hx
    have hn2 := List.nodup_cons.1 hn
    have h2 := nodup_le l (m.erase x) hn2.2 fun y hy => (List.mem_erase_of_ne (by rintro rfl; exact hn2.1 hy)).2 (hs y (List.mem_cons_of_mem _ hy))
    have h3 : 0 < m.length := List.length_pos_of_mem hx
    rw [List.length_cons]; omega
def flatC : List Sp → List Cu
  | [] => []
  | s :: l => s.lo :: s.hi :: flatC l
theorem flatC_len : ∀ (l : List Sp), (flatC l).length = 2 * l.length
  | [] => rfl
  | s :: l => by show (flatC l).length + 1 + 1 = 2 * (l.length + 1); rw [flatC_len l]; omega
theorem fU : ∀ {l : List Sp} {x : Cu}, x ∈ flatC l → ∃ s ∈ l, x = s.lo ∨ x = s.hi
  | s :: l, x, h => by
    rcases List.mem_cons.1 h with e | h
    · exact ⟨s, List.mem_cons_self .., .inl e⟩
    · rcases List.mem_cons.1 h with e | h
      · exact ⟨s, List.mem_cons_self .., .inr e⟩
      · obtain ⟨t, ht, e⟩ := fU h
        exact ⟨t, List.mem_cons_of_mem _ ht, e⟩
theorem flatC_nodup : ∀ {l : List Sp}, zK l = true → (flatC l).Nodup
  | [], _ => List.nodup_nil
  | s :: l, h => by
    have hs := xP h
    have hm := zZ hs
    have hlt := u7 hs
    have haf := kZ h
    have far : ∀ x ∈ flatC l, zL s.hi x < 0 := fun x hx => by
      obtain ⟨t, ht, e⟩ := fU hx
      have tm := x4 (kL h) t ht
      have t2 := zZ tm
      rcases e with rfl | rfl
      · exact haf t ht
      · exact xM hm.2 t2.1 t2.2 (haf t ht) (u7 tm)
    have xm : ∀ x ∈ flatC l, x.may = true := fun x hx => by
      obtain ⟨t, ht, e⟩ := fU hx
      have t2 := zZ (x4 (kL h) t ht)
      rcases e with rfl | rfl
      · exact t2.1
      · exact t2.2
    refine List.nodup_cons.2 ⟨fun hx => ?_, List.nodup_cons.2 ⟨fun hx => ?_, flatC_nodup (kL h)⟩⟩
    · rcases List.mem_cons.1 hx with e | hx
      · rw [e, kW] at hlt; omega
      · have := xM hm.1 hm.2 (xm _ hx) hlt (far _ hx)
        rw [kW] at this; omega
    · have := far _ hx
      rw [kW] at this; omega
theorem row_half {l : List Sp} {C : List Cu} (h : zK l = true) (hc : ∀ s ∈ l, s.lo ∈ C ∧ s.hi ∈ C) : 2 * l.length ≤ C.length := by
  rw [← flatC_len]
  refine nodup_le _ _ (flatC_nodup h) fun x hx => ?_
  obtain ⟨s, hs, e⟩ := fU hx
  rcases e with rfl | rfl
  · exact (hc s hs).1
  · exact (hc s hs).2
theorem nJ {p : Cu → Cu → Bool} {l : List Sp} (hl : ∀ s ∈ l, s.may = true) (h : zK (kP p [] (kV l)) = true) : (kP p [] (kV l)).length ≤ 1 + l.length := by
  have h1 := row_half h (nK p (· ∈ kV l) (kV l) [] (fun c hc => hc) (fun s hs => by simp at hs))
  have h2 := cuts_len hl
  omega
theorem RF.make1 {l : List Sp} {n : Nat} (hl : ∀ s ∈ l, s.may = true) (hn : l.length ≤ n) : RF (vE l) (1 + n) := ⟨(uC hl).1, by
  have := nJ (p := inL l) hl (uC hl).1
  unfold vE; omega⟩
theorem RF.or1 {a b : List Sp} {n m : Nat} (ha : RF a n) (hb : RF b m) : RF (orL a b) (1 + (n + m)) := RF.make1 (uY ha.may hb.may) (by rw [List.length_append]; have := ha.len; have := hb.len; omega)
theorem RF.and1 {a b : List Sp} {n m : Nat} (ha : RF a n) (hb : RF b m) : RF (wC a b) (1 + (n + m)) := ⟨(tX ha.may hb.may).1, by
  have h1 := nJ (p := fun c d => inL a c d && inL b c d) (uY ha.may hb.may) (tX ha.may hb.may).1
  have := ha.len; have := hb.len
  rw [List.length_append] at h1
  unfold wC; omega⟩
theorem RF.not1 {a : List Sp} {n : Nat} (ha : RF a n) : RF (vW a) (1 + n) := ⟨(wQ ha.may).1, by
  have h1 := nJ (p := fun c d => !inL a c d) (x4 ha.may) (wQ ha.may).1
  have := ha.len
  unfold vW; omega⟩
theorem RF.rel1 {a : List Sp} {n : Nat} (ha : RF a n) : RF (gG a) (1 + n) := RF.make1 (dA a) (by
  have := List.length_filter_le (fun s : Sp => s.may) (a.map jD)
  rw [List.length_map] at this
  have := ha.len; omega)
theorem SF.or1 {a b : St} {n m : Nat} (ha : SF a n) (hb : SF b m) : SF (orT a b) (1 + (n + m)) := ⟨ha.rel.or1 hb.rel, ha.pre.or1 hb.pre, ha.right.or hb.right⟩
theorem one_r1 (lo hi : Cu) : RF (xY lo hi) 1 := ⟨oneRow_may lo hi, by have := m6 [] lo hi; unfold xY; simpa using this⟩
theorem uG (c : Co) : RF c.region 2 := by
  unfold Co.region
  split
  · split
    · exact (one_r1 _ _).not1
    · exact (one_r1 _ _).le (by decide)
  · exact nil_rf.le (by decide)
theorem fE (c : Co) : RF c.zone 1 := ⟨zone_may, by unfold Co.zone; split <;> simp⟩
def xK (a : List Co) : List Sp := a.foldl (fun l c => wC l c.region) mK
def xI (a : List Co) : List Sp := a.foldl (fun l c => orL l c.zone) []
def x1 (a : List Co) : St := ⟨gG (xK a), wC (xK a) (xI a)⟩
def x5 (r : List (List Co)) : St := r.foldl (fun s a => orT s (x1 a)) g9
def zU (r : List (List Co)) : St := if rgMay r then x5 r else g9
theorem fC (a : List Co) (c : Co) : xK (a ++ [c]) = wC (xK a) c.region := by unfold xK; rw [List.foldl_append]; rfl
theorem dF (a : List Co) (c : Co) : xI (a ++ [c]) = orL (xI a) c.zone := by unfold xI; rw [List.foldl_append]; rfl
theorem uO (r : List (List Co)) (a : List Co) : x5 (r ++ [a]) = orT (x5 r) (x1 a) := by unfold x5; rw [List.foldl_append]; rfl
theorem jS {α : Type} {P : List α → Prop} (h0 : P []) (h1 : ∀ l x, P l → P (l ++ [x])) (l : List α) : P l := by
  have : ∀ n (l : List α), l.length = n → P l := by
    intro n
    induction n with
    | zero => intro l hl; rw [List.length_eq_zero_iff.1 hl]; exact h0
    | succ n ih =>
      intro l hl
      have hne : l ≠ [] := by rintro rfl; simp at hl
      rw [← List.dropLast_concat_getLast hne]
      exact h1 _ _ (ih _ (by rw [List.length_dropLast, hl]; rfl))
  exact this _ l rfl
theorem vV (a : List Co) : RF (xK a) (1 + 3 * a.length) :=
  jS (P := fun a => RF (xK a) (1 + 3 * a.length)) whole_rf (fun l x h => by
    rw [fC, List.length_append]
    exact (h.and1 (uG x)).le (by simp; omega)) a
theorem wA (a : List Co) : RF (xI a) (2 * a.length) :=
  jS (P := fun a => RF (xI a) (2 * a.length)) nil_rf (fun l x h => by
    rw [dF, List.length_append]
    exact (h.or1 (fE x)).le (by simp; omega)) a
theorem uK (a : List Co) : SF (x1 a) (2 + 5 * a.length) := ⟨(vV a).rel1.le (by omega), ((vV a).and1 (wA a)).le (by omega), makeRel_right (x4 (vV a).may)⟩
theorem orAll_sf {n : Nat} (r : List (List Co)) : (∀ a ∈ r, a.length ≤ n) → SF (x5 r) (r.length * (3 + 5 * n)) :=
  jS (P := fun r => (∀ a ∈ r, a.length ≤ n) → SF (x5 r) (r.length * (3 + 5 * n))) (fun _ => by rw [List.length_nil, Nat.zero_mul]; exact none_sf) (fun l x h ha => by
    rw [uO, List.length_append]
    have h1 := h fun a hm => ha a (List.mem_append.2 (.inl hm))
    have h2 := (uK x).le (m := 2 + 5 * n) (by have := ha x (by simp); omega)
    refine (h1.or1 h2).le ?_
    show _ ≤ (l.length + 1) * (3 + 5 * n)
    rw [Nat.add_mul, Nat.one_mul]; omega) r
theorem orAll_few {r : List (List Co)} (h : fewR r = true) : SF (x5 r) 198 := by
  obtain ⟨h1, h2⟩ := fewR.facts h
  refine (orAll_sf (n := 6) r fun a ha => ((fewA.facts (h2 a ha)).1).2).le ?_
  show r.length * 33 ≤ 198
  omega
theorem v8 (r : List (List Co)) : SF (zU r) 198 := by
  unfold zU
  split
  · rename_i h; exact orAll_few (rgMay.facts h).1
  · exact none_sf.le (by decide)
theorem altRel_den (a : List Co) {x : Cu} (hx : x.may = true) (he : zL x (zY 1) < 0) : den (xK a) x = a.all fun c => den c.region x :=
  jS (P := fun a => den (xK a) x = a.all fun c => den c.region x) (whole_den hx he) (fun l c h => by
    rw [fC, (tX (vV l).may (uG c).may).2 x hx he, h]; simp) a
theorem altZone_den (a : List Co) {x : Cu} (hx : x.may = true) (he : zL x (zY 1) < 0) : den (xI a) x = a.any fun c => den c.zone x :=
  jS (P := fun a => den (xI a) x = a.any fun c => den c.zone x) rfl (fun l c h => by
    rw [dF, (or_ok (wA l).may (fE c).may).2 x hx he, h]; simp) a
theorem altRel_has (a : List Co) {v : Ver} (hv : v.may = true) : xH (xK a) v = a.all fun c => xH c.region v := by
  rw [vH (vV a).may hv, altRel_den a (qI hv) (jH hv)]
  congr 1; funext c; rw [vH (uG c).may hv]
theorem altZone_has (a : List Co) {v : Ver} (hv : v.may = true) : xH (xI a) v = a.any fun c => xH c.zone v := by
  rw [vH (wA a).may hv, altZone_den a (qI hv) (jH hv)]
  congr 1; funext c; rw [vH (fE c).may hv]
theorem altSet_has (a : List Co) {v : Ver} (hv : v.may = true) : q6 (x1 a) v = ((a.all fun c => xH c.region v) && (decide (v.pre = []) || a.any fun c => xH c.zone v)) := by
  rw [has_may (uK a) hv, ← altRel_has a hv, ← altZone_has a hv]
  by_cases hp : v.pre = []
  · rw [if_pos hp, decide_eq_true hp, Bool.true_or, Bool.and_true]
    exact makeRel_has (vV a).may hv hp
  · rw [if_neg hp, decide_eq_false hp, Bool.false_or]
    exact has_and4 (vV a).may (wA a).may hv
theorem uH (r : List (List Co)) : ∃ n, SF (x5 r) n := by
  have : ∃ n, ∀ a ∈ r, a.length ≤ n := by
    induction r with
    | nil => exact ⟨0, fun a h => by simp at h⟩
    | cons a r ih =>
      obtain ⟨n, h⟩ := ih
      refine ⟨a.length + n, fun b hb => ?_⟩
      rcases List.mem_cons.1 hb with rfl | hb
      · omega
      · have := h b hb; omega
  obtain ⟨n, h⟩ := this
  exact ⟨_, orAll_sf r h⟩
theorem orAll_has (r : List (List Co)) {v : Ver} (hv : v.may = true) : q6 (x5 r) v = r.any fun a => q6 (x1 a) v :=
  jS (P := fun r => q6 (x5 r) v = r.any fun a => q6 (x1 a) v) setHas_none (fun l a h => by
    obtain ⟨n, hl⟩ := uH l
    rw [uO, setHas_or hl (uK a) hv, h]; simp) r
theorem tB (r : List (List Co)) {x : Cu} (hx : x.may = true) (he : zL x (zY 1) < 0) : den (x5 r).rel x = r.any fun a => den (x1 a).rel x :=
  jS (P := fun r => den (x5 r).rel x = r.any fun a => den (x1 a).rel x) rfl (fun l a h => by
    obtain ⟨n, hl⟩ := uH l
    rw [uO]
    show den (orL _ _) x = _
    rw [(or_ok hl.rel.may (uK a).rel.may).2 x hx he, h]; simp) r
theorem tC (r : List (List Co)) {x : Cu} (hx : x.may = true) (he : zL x (zY 1) < 0) : den (x5 r).pre x = r.any fun a => den (x1 a).pre x :=
  jS (P := fun r => den (x5 r).pre x = r.any fun a => den (x1 a).pre x) rfl (fun l a h => by
    obtain ⟨n, hl⟩ := uH l
    rw [uO]
    show den (orL _ _) x = _
    rw [(or_ok hl.pre.may (uK a).pre.may).2 x hx he, h]; simp) r
theorem orAll_app (r q : List (List Co)) : x5 (r ++ q) = orT (x5 r) (x5 q) := by
  obtain ⟨n, hr⟩ := uH r
  obtain ⟨m, hq⟩ := uH q
  obtain ⟨k, hk⟩ := uH (r ++ q)
  refine St.eq (wJ _ _ hk.rel.may (hr.rel.or1 hq.rel).may fun x hx he => ?_) (wJ _ _ hk.pre.may (hr.pre.or1 hq.pre).may fun x hx he => ?_)
  · show _ = den (orL _ _) x
    rw [tB _ hx he, (or_ok hr.rel.may hq.rel.may).2 x hx he, tB r hx he, tB q hx he, List.any_append]
  · show _ = den (orL _ _) x
    rw [tC _ hx he, (or_ok hr.pre.may hq.pre.may).2 x hx he, tC r hx he, tC q hx he, List.any_append]
theorem rgSet_has {r : List (List Co)} (h : rgMay r = true) {v : Ver} (hv : v.may = true) : q6 (zU r) v = r.any fun a => (a.all fun c => xH c.region v) && (decide (v.pre = []) || a.any fun c => xH c.zone v) := by
  unfold zU
  rw [if_pos h, orAll_has r hv]
  congr 1; funext a; exact altSet_has a hv
theorem parseC_no124 {s : List UInt8} {c : Co} (h : gU s = some c) : (124 : UInt8) ∉ s := by
  obtain ⟨hm, e⟩ := (uN s c).1 h
  intro hx
  refine text_no124 hm ?_
  rcases e with e | e
  · rw [e]; exact hx
  · rw [e]; exact List.mem_cons_of_mem _ hx
theorem parseA_no124 {s : List UInt8} {a : List Co} (h : mW s = some a) : (124 : UInt8) ∉ s := by
  intro hx
  rcases mP 44 s [] 124 hx with e | ⟨x, hm, hc⟩
  · revert e; decide
  · obtain ⟨y, _, e⟩ := allO_mem h x hm
    exact parseC_no124 e (bareL_mem hc (by decide))
theorem mH {s : List UInt8} {r : List (List Co)} (h : kU s = some r) : ∃ l, s = gC [124, 124] l ∧ l ≠ [] ∧ (∀ x ∈ l, (124 : UInt8) ∉ x) ∧ jZ mW l = some r :=
  ⟨xG [] s, by rw [tI]; rfl, fB s [], fun x hx => by obtain ⟨y, _, e⟩ := allO_mem h x hx; exact parseA_no124 e, h⟩
theorem joinB_app (sep : List UInt8) : ∀ {l m : List (List UInt8)}, l ≠ [] → m ≠ [] → gC sep (l ++ m) = gC sep l ++ sep ++ gC sep m
  | [], _, h, _ => absurd rfl h
  | [x], m, _, h => joinB_cons sep x h
  | x :: y :: l, m, _, h => by
    show x ++ sep ++ gC sep ((y :: l) ++ m) = x ++ sep ++ gC sep (y :: l) ++ sep ++ gC sep m
    rw [joinB_app sep (by simp) h]; simp only [List.append_assoc]
theorem parseAll_either {s t : List UInt8} {r q : List (List Co)} (h : kU s = some r) (k : kU t = some q) : kU (s ++ [124, 124] ++ t) = some (r ++ q) := by
  obtain ⟨l, rfl, l1, l2, l3⟩ := mH h
  obtain ⟨m, rfl, m1, m2, m3⟩ := mH k
  rw [← joinB_app _ l1 m1]
  unfold kU
  rw [alts_join (l ++ m) (by simp [l1]) fun x hx => (List.mem_append.1 hx).elim (l2 x) (m2 x)]
  exact allO_app m3 l3
theorem either_set {s t : List UInt8} {r q : List (List Co)} (h : zM s = some r) (k : zM t = some q) : (zM (s ++ [124, 124] ++ t) = some (r ++ q) ∧ zU (r ++ q) = orT (zU r) (zU q)) ∨ zM (s ++ [124, 124] ++ t) = none := by
  obtain ⟨_, h1, h2, _⟩ := jA h
  obtain ⟨_, k1, k2, _⟩ := jA k
  unfold zM
  split
  · exact .inr rfl
  · rw [parseAll_either h2 k2]
    cases hm : rgMay (r ++ q) with
    | false => right; simp [Option.filter, hm]
    | true =>
      left
      refine ⟨by simp [Option.filter, hm], ?_⟩
      unfold zU
      rw [if_pos h1, if_pos k1, if_pos hm, orAll_app]
theorem either_nil : zM ([] ++ [124, 124] ++ []) = none := by decide
end
section
end
section
def ordSp (c d : Cu) : Sp := if 0 < zL c d then ⟨d, c⟩ else ⟨c, d⟩
def spG (l : List Int) (i n : Nat) : Sp := ordSp (genC l (i + 12 * n - 11)) (genC l (i + 12 * n - 5))
def spansG (l : List Int) (i : Nat) : Nat → List Sp
  | 0 => []
  | n + 1 => (if (spG l i (n + 1)).may then [spG l i (n + 1)] else []) ++ spansG l i n
structure SpI (l : List Int) (i N n : Nat) (z : Int) (u : Value) (acc : List Sp) (ob : List Blk) : Prop where
  z : z = (n : Int)
  sl : SlS u acc ob
  len : acc.length + n ≤ N
  eq : acc ++ spansG l i n = spansG l i N
end
section
def rowG (l : List Int) (i : Nat) : List Sp := vE (spansG l i (plc (atL l i) (4 + 1 : Nat)).toNat)
end
section
end
section
theorem core_short {v : Ver} (h : v.short) : (kG v).short := ⟨h.1, by show ([] : List UInt8).length ≤ _; exact Nat.zero_le _⟩
theorem tF (v : Ver) : (yY v).pre = [] ∧ (yY v).build = [] := by
  cases h : v.may with
  | false => unfold yY; rw [h]; exact ⟨rfl, rfl⟩
  | true =>
    rcases next_is h with ⟨h1, h2, _⟩ | ⟨_, a, b, c, e, _⟩
    · unfold gA at h1
      rw [h, h2] at h1
      simp at h1
      unfold yY
      simp [h, h2, h1]
      exact ⟨rfl, rfl⟩
    · rw [e]; exact ⟨rfl, rfl⟩
theorem next_short (v : Ver) : (yY v).short := ⟨by rw [(tF v).1]; exact Nat.zero_le _, by rw [(tF v).2]; exact Nat.zero_le _⟩
theorem relV_short (v : Ver) : (m7 v).short := ⟨by show ([] : List UInt8).length ≤ _; exact Nat.zero_le _, by show ([] : List UInt8).length ≤ _; exact Nat.zero_le _⟩
theorem rleast_any (v : Ver) (W : World) : Calls Tryz.prog 97 #[yE v] W fun e w' => e = .returned (.bool (qO v)) ∧ Below W.heap.size W w' := by
  refine zR (n := 16) Tryz.func97 rfl (by kernel_rfl) (by kernel_rfl) (ZO (Zb (yE v) (fun b1 => Zv (.bool false) (ZR (Zv (.pointer (some ⟨b1, 0, none⟩)) (Zl 0 ⟨b1, (yE v).cells, 44⟩ (off := 0) (.int .i64 v.maj) ?_))))))
  by_cases h1 : (v.maj : Int) = 0
  · refine yI (p := (v.maj : Int) = 0) true (by kernel_rfl) (fun _ => by kernel_rfl) (decide_eq_true (h1)) ?_
    refine Zv (.bool true) (Zv (.pointer (some ⟨b1, 1, none⟩)) (Zl 0 ⟨b1, (yE v).cells, 44⟩ (off := 1) (.int .i64 v.min) ?_))
    by_cases h2 : (v.min : Int) = 0
    · refine yI (p := (v.min : Int) = 0) true (by kernel_rfl) (fun _ => by kernel_rfl) (decide_eq_true (h2)) ?_
      refine Zv (.bool true) (Zv (.bool true) (Zv (.pointer (some ⟨b1, 2, none⟩)) (Zl 0 ⟨b1, (yE v).cells, 44⟩ (off := 2) (.int .i64 v.pat) ?_)))
      by_cases h3 : (v.pat : Int) = 0
      · refine yI (p := (v.pat : Int) = 0) true (by kernel_rfl) (fun _ => by kernel_rfl) (decide_eq_true (h3)) ?_
        exact Zv (.bool true) (Zv (.bool true) (ZN (zD (ZF (.bool true) Tryz.results97 (fun w hO => ⟨by simp [qO, h1, h2, h3], hO.below⟩)))))
      exact Zd (p := (v.pat : Int) = 0) false (decide_eq_false (h3)) (Zv (.bool false) (Zv (.bool false) (ZN (zD (ZF (.bool false) Tryz.results97 (fun w hO => ⟨by simp [qO, h1, h2, h3], hO.below⟩))))))
    refine Zd (p := (v.min : Int) = 0) false (decide_eq_false (h2)) (Zv (.bool false) (Zv (.bool false) (Zk (Zk (Zk (Zv (.bool false) (Zv (.bool false) (ZN (zD (ZF (.bool false) Tryz.results97 ?_))))))))))
    exact fun w hO => ⟨by simp [qO, h1, h2], hO.below⟩
  refine Zd (p := (v.maj : Int) = 0) false (decide_eq_false (h1)) (Zv (.bool false) (Zk (Zk (Zk (Zv (.bool false) (Zv (.bool false) (Zk (Zk (Zk (Zv (.bool false) (Zv (.bool false) ?_)))))))))))
  exact ZN (zD (ZF (.bool false) Tryz.results97 (fun w hO => ⟨by simp [qO, h1], hO.below⟩)))
theorem rright_any (c : Cu) (W : World) : Calls Tryz.prog 55 #[zA c] W fun e w' => e = .returned (.bool (x2 c)) ∧ Below W.heap.size W w' := by
  refine zR (n := 23) Tryz.func55 rfl (by kernel_rfl) (by kernel_rfl) (ZO (Zb (zA c) (fun b1 => Zv (.bool false) (ZR (Zv (.pointer (some ⟨b1, 0, none⟩)) (Zl 0 ⟨b1, (zA c).cells, 78⟩ (off := 0) (.int .i64 c.e) ?_))))))
  by_cases h1 : (c.e : Int) = 0
  · refine vL (p := (c.e : Int) = 0) true (by kernel_rfl) (fun _ => by kernel_rfl) (decide_eq_true (h1)) ?_
    refine Zv (.bool false) (Zv (.pointer (some ⟨b1, 6, none⟩)) (Zl 0 ⟨b1, (zA c).cells, 78⟩ (off := 6) (.bool c.aft) ?_))
    cases h2 : c.aft with
    | true =>
      refine Zv (.bool false) (Zv (.bool false) (Zk (Zk (Zk (Zk (Zv (.bool false) (Zv (.bool false) (Zk (Zk (Zk (Zk ?_)))))))))))
      exact Zv (.bool false) (Zv (.bool false) (Zv (.bool false) (ZN (zD (ZF (.bool false) Tryz.results55 (fun w hO => ⟨by simp [x2, h1, h2], hO.below⟩))))))
    | false =>
      refine Zv (.bool true) (Zv (.bool true) (Zv (.pointer (some ⟨b1, 1, none⟩)) (Zv (.pointer (some ⟨b1, 4, none⟩)) (Zl 0 ⟨b1, (zA c).cells, 78⟩ (off := 4) (.string (mkS c.v.pre)) ?_))))
      by_cases h3 : (c.v.pre : List UInt8) = []
      · refine y5 (.bool true) (by kernel_rfl) (yZ (a := c.v.pre) (b := ([])) rfl (by kernel_rfl) (by kernel_rfl) (decide_eq_true (h3))) ?_
        refine Zv (.bool true) (Zv (.bool true) (Zv (.pointer (some ⟨b1, 1, none⟩)) (Zl 0 ⟨b1, (zA c).cells, 78⟩ (off := 1) (.agg #[.int .i64 c.v.maj, .int .i64 c.v.min, .int .i64 c.v.pat, .string (mkS c.v.pre), .string (mkS c.v.build)]) (Zc (k := 97) (args := #[.agg #[.int .i64 c.v.maj, .int .i64 c.v.min, .int .i64 c.v.pat, .string (mkS c.v.pre), .string (mkS c.v.build)]]) (.bool (qO c.v)) (fun w _ => rleast_any c.v w) ?_))))
        cases h4 : qO c.v with
        | true =>
          exact Zv (.bool false) (Zv (.bool false) (Zv (.bool false) (Zv (.bool false) (ZN (zD (ZF (.bool false) Tryz.results55 (fun w hO => ⟨by simp [x2, h1, h2, h3, h4], hO.below⟩)))))))
        | false =>
          exact Zv (.bool true) (Zv (.bool true) (Zv (.bool true) (Zv (.bool true) (ZN (zD (ZF (.bool true) Tryz.results55 (fun w hO => ⟨by simp [x2, h1, h2, h3, h4], hO.below⟩)))))))
      refine y5 (.bool false) (by kernel_rfl) (yZ (a := c.v.pre) (b := ([])) rfl (by kernel_rfl) (by kernel_rfl) (decide_eq_false (h3))) (Zv (.bool false) (Zv (.bool false) (Zk (Zk (Zk (Zk (Zv (.bool false) (Zv (.bool false) (Zv (.bool false) (zT (zC ?_)))))))))))
      exact zD (ZF (.bool false) Tryz.results55 (fun w hO => ⟨by simp [x2, h1, h2, h3], hO.below⟩))
  refine Zn (p := (c.e : Int) = 0) false (decide_eq_false (h1)) (Zv (.bool true) (Zk (Zk (Zk (Zk (Zk (Zk (Zk (Zk (Zk (Zk ?_)))))))))))
  exact Zk (Zk (Zk (Zk (Zk (Zv (.bool true) (Zv (.bool true) (ZN (zD (ZF (.bool true) Tryz.results55 (fun w hO => ⟨by simp [x2, h1], hO.below⟩))))))))))
theorem t7 (W : World) : Calls Tryz.prog 34 #[] W fun e w' => e = .returned (.agg #[.slice none 0 0, .slice none 0 0]) ∧ Below W.heap.size W w' := by
  refine zR (n := 2) Tryz.func34 rfl (by kernel_rfl) (by kernel_rfl) (ZO (Za (.agg #[.slice none 0 0, .slice none 0 0]) (fun b1 => ZR (Zv (.agg #[.slice none 0 0, .slice none 0 0]) (Zs 0 ⟨b1, #[.slice none 0 0, .slice none 0 0], 31⟩ (off := 0) (.agg #[.slice none 0 0, .slice none 0 0]) (zT (zC ?_)))))))
  exact zD (ZC 0 ⟨b1, #[.slice none 0 0, .slice none 0 0], 31⟩ (off := 0) (.agg #[.slice none 0 0, .slice none 0 0]) Tryz.results34 (fun w hO => ⟨rfl, hO.below⟩))
end
section
structure SetIn (w : World) (B : Nat) (A A' : Option Addr) (a : St) : Prop where
  rel : Reads yT w B A a.rel
  pre : Reads yT w B A' a.pre
  lr : a.rel.length ≤ 100000
  lp : a.pre.length ≤ 100000
  sr : yU a.rel
  sp : yU a.pre
theorem SetIn.on {w w' : World} {B B' : Nat} {A A' : Option Addr} {a : St} (h : SetIn w B A A' a) (hb : Below B w w') (hB : B ≤ B') : SetIn w' B' A A' a := ⟨h.rel.on hb hB, h.pre.on hb hB, h.lr, h.lp, h.sr, h.sp⟩
theorem all_take (p : Sp → Bool) {l : List Sp} {k : Nat} (hk : k < l.length) (h : (l.take k).all p = true) (hs : p l[k] = true) : (l.take (k + 1)).all p = true := by
  rw [List.take_succ_eq_append_getElem hk, List.all_append, h]
  simp [hs]
theorem all_not (p : Sp → Bool) {l : List Sp} {k : Nat} (hk : k < l.length) (hs : p l[k] = false) : l.all p = false := by
  cases h : l.all p with
  | false => rfl
  | true => rw [List.all_eq_true.1 h _ (List.getElem_mem hk)] at hs; cases hs
theorem dQ (A B : Option Addr) (c d : Nat) (a : St) (W : World) (hs : SetIn W W.heap.size A B a) : Calls Tryz.prog 29 #[.agg #[.slice A a.rel.length c, .slice B a.pre.length d]] W fun e w' => e = .returned (.bool a.may) ∧ Below W.heap.size W w' := by
  refine zR (n := 39) Tryz.func29 rfl (by kernel_rfl) (by kernel_rfl) (ZO (Zb (.agg #[.slice A a.rel.length c, .slice B a.pre.length d]) (fun b1 => Zv (.bool false) (ZN (z7 (ZO (Zv (.pointer (some ⟨b1, 0, none⟩)) (Zl 0 ⟨b1, #[.slice A a.rel.length c, .slice B a.pre.length d], 31⟩ (off := 0) (.slice A a.rel.length c) ?_))))))))
  refine Zc (k := 54) (args := #[.slice A a.rel.length c]) (.bool (zK a.rel)) (fun w hO => qQ A c a.rel w (hs.rel.on hO.below hO.below.size) (Nat.le_trans hs.lr (by decide)) hs.sr) ?_
  cases h1 : zK a.rel with
  | true =>
    refine Zv (.bool false) (Zv (.bool false) (Zv (.pointer (some ⟨b1, 1, none⟩)) (Zl 0 ⟨b1, #[.slice A a.rel.length c, .slice B a.pre.length d], 31⟩ (off := 1) (.slice B a.pre.length d) (Zc (k := 54) (args := #[.slice B a.pre.length d]) (.bool (zK a.pre)) (fun w hO => qQ B d a.pre w (hs.pre.on hO.below hO.below.size) (Nat.le_trans hs.lp (by decide)) hs.sp) ?_))))
    cases h2 : zK a.pre with
    | true =>
      refine Zv (.bool false) (Zv (.bool false) (ZX (ZB (z7 (ZO (Zv (.int .i64 0) (zT ?_)))))))
      refine zC (zN (x9 (fun L f m => ∃ (k : Nat) (j : Nat → Value), (k ≤ a.rel.length ∧ (a.rel.take k).all (fun x => x2 x.lo && x2 x.hi) = true) ∧ L = [⟨b1, #[.slice A a.rel.length c, .slice B a.pre.length d], 31⟩] ∧ f = g7 j [(1, .pointer (some ⟨b1, 0, none⟩)), (3, .int .i64 (k : Int))] ∧ m = a.rel.length - k) (a.rel.length - 0) ⟨0, _, ⟨Nat.zero_le _, by rw [List.take_zero]; rfl⟩, rfl, ZU, rfl⟩ ?_))
      rintro L f m ⟨k, j, hrel, rfl, rfl, rfl⟩
      have hkl := hrel.1; have hln := hs.lr
      refine z7 (ZO (Zv (.int .i64 (k : Int)) (Zv (.pointer (some ⟨b1, 0, none⟩)) (Zl 0 ⟨b1, #[.slice A a.rel.length c, .slice B a.pre.length d], 31⟩ (off := 0) (.slice A a.rel.length c) (Zv (.int .i64 (a.rel.length : Int)) ?_)))))
      by_cases h3 : (k : Int) < (a.rel.length : Int)
      · have hk : k < a.rel.length := by omega
        obtain ⟨b, off, hA, hlt, hcell⟩ := hs.rel (by omega)
        obtain ⟨s, he⟩ : ∃ s, a.rel[k] = s := ⟨_, rfl⟩
        refine Zd (p := (k : Int) < (a.rel.length : Int)) true (decide_eq_true (h3)) (ZY (ZB (z7 (zN (ZO (Zv (.pointer (some ⟨b1, 0, none⟩)) (Zl 0 ⟨b1, #[.slice A a.rel.length c, .slice B a.pre.length d], 31⟩ (off := 0) (.slice A a.rel.length c) ?_)))))))
        refine Zv (.int .i64 (k : Int)) (y5 (.pointer (some ⟨b, off + k * 14, none⟩)) (by kernel_rfl) (ZA (b := b) (off := off) (c := c) (n := a.rel.length) (k := .i64) (j := (k : Int)) (e := 80) (sz := 14) hA) (Zv (.pointer (some ⟨b, off + k * 14 + 0, none⟩)) (Zo (zA s.lo) (a := ⟨b, off + k * 14 + 0, none⟩) (fun w hO => yP zV (fun j u h => (hO.below.cell (p := ⟨b, off + j, none⟩) hlt).trans (hcell j u h)) k 0 hk (by omega) _ (by rw [he]; kernel_rfl)) (Zc (k := 55) (args := #[zA s.lo]) (.bool (x2 s.lo)) (fun w _ => rright_any s.lo w) ?_))))
        cases h4 : x2 s.lo with
        | true =>
          refine Zv (.bool false) (Zv (.bool false) (Zv (.pointer (some ⟨b1, 0, none⟩)) (Zl 0 ⟨b1, #[.slice A a.rel.length c, .slice B a.pre.length d], 31⟩ (off := 0) (.slice A a.rel.length c) (Zv (.int .i64 (k : Int)) (y5 (.pointer (some ⟨b, off + k * 14, none⟩)) (by kernel_rfl) (ZA (b := b) (off := off) (c := c) (n := a.rel.length) (k := .i64) (j := (k : Int)) (e := 80) (sz := 14) hA) (Zv (.pointer (some ⟨b, off + k * 14 + 7, none⟩)) (Zo (zA s.hi) (a := ⟨b, off + k * 14 + 7, none⟩) (fun w hO => yP zV (fun j u h => (hO.below.cell (p := ⟨b, off + j, none⟩) hlt).trans (hcell j u h)) k 7 hk (by omega) _ (by rw [he]; kernel_rfl)) (Zc (k := 55) (args := #[zA s.hi]) (.bool (x2 s.hi)) (fun w _ => rright_any s.hi w) ?_))))))))
          cases h5 : x2 s.hi with
          | true =>
            refine Zv (.bool false) (Zv (.bool false) (ZX (xB (zS (zC (zB (Zv (.int .i64 (k : Int)) (Zu (k := .i64) (((k + 1 : Nat) : Int)) (IntWalk.i64_in _ (by omega)) (Zv (.int .i64 ((k + 1 : Nat) : Int)) ?_)))))))))
            refine zT ?_
            have hnext : (a.rel.take (k + 1)).all (fun x => x2 x.lo && x2 x.hi) = true := all_take _ hk hrel.2 (by simp [he, h1, h2, h3, h4, h5])
            exact zW (m' := a.rel.length - (k + 1)) (by omega) ⟨k + 1, _, ⟨by omega, hnext⟩, rfl, ZU, rfl⟩
          | false =>
            refine Zv (.bool true) (Zv (.bool true) (ZY (ZO (Zv (.bool false) (ZN (zD (zI ?_)))))))
            exact z6 (yB (zI (z6 (ZF (.bool false) Tryz.results29 (fun w hO => ⟨by unfold St.may; rw [all_not _ hk (by simp [he, h1, h2, h3, h4, h5])]; simp, hO.below⟩)))))
        | false =>
          refine Zv (.bool true) (Zv (.bool true) (Zk (Zk (Zk (Zk (Zk (Zk (Zk (Zk (Zv (.bool true) (zT ?_)))))))))))
          refine zC (Zt (ZO (Zv (.bool false) (ZN (zD (zI (z6 (yB (zI ?_)))))))))
          exact z6 (ZF (.bool false) Tryz.results29 (fun w hO => ⟨by unfold St.may; rw [all_not _ hk (by simp [he, h1, h2, h3, h4])]; simp, hO.below⟩))
      have hall : a.rel.all (fun x => x2 x.lo && x2 x.hi) = true := by have h := hrel.2; rwa [List.take_of_length_le (by omega)] at h
      refine Zd (p := (k : Int) < (a.rel.length : Int)) false (decide_eq_false (h3)) (ZX (y7 (z8 (zQ (zJ (zC (ZO (Zv (.bool true) ?_))))))))
      exact ZN (zD (ZF (.bool true) Tryz.results29 (fun w hO => ⟨by unfold St.may; simp [hall, h1, h2, h3], hO.below⟩)))
    | false =>
      refine Zv (.bool true) (Zv (.bool true) (ZY (ZO (Zv (.bool false) (ZN (zD (z6 ?_)))))))
      exact ZF (.bool false) Tryz.results29 (fun w hO => ⟨by unfold St.may; simp [h1, h2], hO.below⟩)
  | false =>
    refine Zv (.bool true) (Zv (.bool true) (Zk (Zk (Zk (Zk (Zv (.bool true) (ZY (z7 (zB ?_)))))))))
    exact Zv (.bool false) (ZN (zD (z6 (ZF (.bool false) Tryz.results29 (fun w hO => ⟨by unfold St.may; simp [h1], hO.below⟩)))))
theorem rsetHas_any (A B : Option Addr) (c d : Nat) (a : St) (v : Ver) (W : World) (hs : SetIn W W.heap.size A B a) (hv : v.short) : Calls Tryz.prog 30 #[.agg #[.slice A a.rel.length c, .slice B a.pre.length d], yE v] W fun e w' => e = .returned (.bool (q6 a v)) ∧ Below W.heap.size W w' := by
  refine zR (n := 24) Tryz.func30 rfl (by kernel_rfl) (by kernel_rfl) (ZO (Zb (.agg #[.slice A a.rel.length c, .slice B a.pre.length d]) (fun b1 => Zb (yE v) (fun b2 => Zv (.bool false) (ZN (z7 (ZO (Zl 1 ⟨b1, #[.slice A a.rel.length c, .slice B a.pre.length d], 31⟩ (off := 0) (.agg #[.slice A a.rel.length c, .slice B a.pre.length d]) ?_))))))))
  refine Zc (k := 29) (args := #[.agg #[.slice A a.rel.length c, .slice B a.pre.length d]]) (.bool a.may) (fun w hO => dQ A B c d a w (hs.on hO.below hO.size)) ?_
  cases h1 : a.may with
  | true =>
    refine Zv (.bool false) (Zv (.bool false) (Zl 0 ⟨b2, (yE v).cells, 44⟩ (off := 0) (yE v) (Zc (k := 56) (args := #[yE v]) (.bool v.may) (fun w _ => bC v w hv.1 hv.2) ?_)))
    cases h2 : v.may with
    | true =>
      refine Zv (.bool false) (Zv (.bool false) (ZX (ZB (z7 (ZO (Zv (.pointer (some ⟨b2, 3, none⟩)) (Zl 0 ⟨b2, (yE v).cells, 44⟩ (off := 3) (.string (mkS v.pre)) ?_)))))))
      by_cases h3 : (v.pre : List UInt8) = []
      · refine y5 (.bool true) (by kernel_rfl) (yZ (a := v.pre) (b := ([])) rfl (by kernel_rfl) (by kernel_rfl) (decide_eq_true (h3))) ?_
        refine ZY (ZO (Zv (.pointer (some ⟨b1, 0, none⟩)) (Zl 1 ⟨b1, #[.slice A a.rel.length c, .slice B a.pre.length d], 31⟩ (off := 0) (.slice A a.rel.length c) (Zl 0 ⟨b2, (yE v).cells, 44⟩ (off := 0) (yE v) (Zc (k := 52) (args := #[.slice A a.rel.length c, yE v]) (.bool (xH a.rel v)) (fun w hO => rrowHas_any A c a.rel v w (hs.rel.on hO.below hO.below.size) (Nat.le_trans hs.lr (by decide)) hs.sr hv) (Zv (.bool (xH a.rel v)) (zT (zC ?_))))))))
        exact zD (z6 (ZF (.bool (xH a.rel v)) Tryz.results30 (fun w hO => ⟨by simp [q6, h1, h2, h3], hO.below⟩)))
      refine y5 (.bool false) (by kernel_rfl) (yZ (a := v.pre) (b := ([])) rfl (by kernel_rfl) (by kernel_rfl) (decide_eq_false (h3))) (ZX (ZB (ZO (Zv (.pointer (some ⟨b1, 1, none⟩)) (Zl 1 ⟨b1, #[.slice A a.rel.length c, .slice B a.pre.length d], 31⟩ (off := 1) (.slice B a.pre.length d) (Zl 0 ⟨b2, (yE v).cells, 44⟩ (off := 0) (yE v) (Zc (k := 52) (args := #[.slice B a.pre.length d, yE v]) (.bool (xH a.pre v)) (fun w hO => rrowHas_any B d a.pre v w (hs.pre.on hO.below hO.below.size) (Nat.le_trans hs.lp (by decide)) hs.sp hv) ?_)))))))
      exact Zv (.bool (xH a.pre v)) (ZN (zD (ZF (.bool (xH a.pre v)) Tryz.results30 (fun w hO => ⟨by simp [q6, h1, h2, h3], hO.below⟩))))
    | false =>
      refine Zv (.bool true) (Zv (.bool true) (ZY (ZO (Zv (.bool false) (ZN (zD (z6 ?_)))))))
      exact ZF (.bool false) Tryz.results30 (fun w hO => ⟨by simp [q6, h1, h2], hO.below⟩)
  | false =>
    refine Zv (.bool true) (Zv (.bool true) (Zk (Zk (Zk (Zv (.bool true) (ZY (ZO (Zv (.bool false) ?_))))))))
    exact ZN (zD (z6 (ZF (.bool false) Tryz.results30 (fun w hO => ⟨by simp [q6, h1], hO.below⟩))))
theorem p4 (A B A' B' : Option Addr) (c d c' d' : Nat) (a b : St) (W : World) (hs : SetIn W W.heap.size A B a) (ht : SetIn W W.heap.size A' B' b) : Calls Tryz.prog 17 #[.agg #[.slice A a.rel.length c, .slice B a.pre.length d], .agg #[.slice A' b.rel.length c', .slice B' b.pre.length d']] W fun e w' => e = .returned (.bool (decide (a.rel = b.rel) && decide (a.pre = b.pre))) ∧ Below W.heap.size W w' := by
  refine zR (n := 17) Tryz.func17 rfl (by kernel_rfl) (by kernel_rfl) (ZO (Zb (.agg #[.slice A a.rel.length c, .slice B a.pre.length d]) (fun b1 => Zb (.agg #[.slice A' b.rel.length c', .slice B' b.pre.length d']) (fun b2 => Zv (.bool false) (ZR (Zv (.pointer (some ⟨b1, 0, none⟩)) (Zl 1 ⟨b1, #[.slice A a.rel.length c, .slice B a.pre.length d], 31⟩ (off := 0) (.slice A a.rel.length c) ?_)))))))
  refine Zv (.pointer (some ⟨b2, 0, none⟩)) (Zl 0 ⟨b2, #[.slice A' b.rel.length c', .slice B' b.pre.length d'], 31⟩ (off := 0) (.slice A' b.rel.length c') (Zc (k := 46) (args := #[.slice A a.rel.length c, .slice A' b.rel.length c']) (.bool (decide (a.rel = b.rel))) (fun w hO => rsame_any A A' c c' a.rel b.rel w (hs.rel.on hO.below hO.size) (ht.rel.on hO.below hO.size) (Nat.le_trans hs.lr (by decide)) (Nat.le_trans ht.lr (by decide))) (Zv (.bool (decide (a.rel = b.rel))) ?_)))
  cases h1 : decide (a.rel = b.rel) with
  | true =>
    exact Zv (.pointer (some ⟨b1, 1, none⟩)) (Zl 1 ⟨b1, #[.slice A a.rel.length c, .slice B a.pre.length d], 31⟩ (off := 1) (.slice B a.pre.length d) (Zv (.pointer (some ⟨b2, 1, none⟩)) (Zl 0 ⟨b2, #[.slice A' b.rel.length c', .slice B' b.pre.length d'], 31⟩ (off := 1) (.slice B' b.pre.length d') (Zc (k := 46) (args := #[.slice B a.pre.length d, .slice B' b.pre.length d']) (.bool (decide (a.pre = b.pre))) (fun w hO => rsame_any B B' d d' a.pre b.pre w (hs.pre.on hO.below hO.size) (ht.pre.on hO.below hO.size) (Nat.le_trans hs.lp (by decide)) (Nat.le_trans ht.lp (by decide))) (Zv (.bool (decide (a.pre = b.pre))) (Zv (.bool (decide (a.pre = b.pre))) (ZN (zD (ZF (.bool (decide (a.pre = b.pre))) Tryz.results17 (fun w hO => ⟨by simp [h1], hO.below⟩))))))))))
  | false =>
    exact Zk (Zk (Zk (Zk (Zk (Zv (.bool false) (Zv (.bool false) (ZN (zD (ZF (.bool false) Tryz.results17 (fun w hO => ⟨by simp [h1], hO.below⟩))))))))))
end
section
section
variable {M : List Nat} {P : Program} {n : Nat} {ops : Array Oper} {W : World} {L0 : List Blk} {Q : Exit → Act → World → Prop} {fuel : Nat} {listed : Array Bool} {L : List Blk} {f : Nat → Value}
theorem h_loadm (i : Nat) (E : List Blk) (oi : Oper) (x : Blk) {ty : TypeId} {p : Operand} {off : Nat} (v : Value) (hi : ops[i]? = some oi) (hs : Region.noSelect ops = true) (hf : Region.free .any ops listed i = true) (hr : (Region.ready .any ops listed).contains i = true)
    (hQ : PQ Q) (hw : xN ops n f oi = true) (ho : oi.op = .load ty p) (hL : x ∈ L0) (hp : ev n f p = .pointer (some ⟨x.b, off, none⟩)) (hv : kS P ty x.cs off = some v)
    (h : gW M P n ops W L0 Q fuel (listed.setIfInBounds i true) (E ++ L0) (upd f oi.dst v)) : gW M P n ops W L0 Q (fuel + 1) listed (E ++ L0) f :=
  jK i E oi v hi hs hf hr hQ hw (fun _ hO => gN ho hp (gT hv (hO.held x hL))) h
theorem h_drop (E : List Blk) (h : gW M P n ops W L0 Q fuel listed L0 f) : gW M P n ops W L0 Q fuel listed (E ++ L0) f := ⟨fun w hO => h.go w (Own.sub E hO)⟩
theorem hs_front {i : Nat} {E E' : List Blk} (p : E.Perm E') (h : u9 M P n ops W L0 Q fuel listed i (E' ++ L0) f) : u9 M P n ops W L0 Q fuel listed i (E ++ L0) f := ⟨fun w hO => h.go w (hO.perm (p.append_right L0))⟩
end
theorem gZ {M : List Nat} {W w : World} {L : List Blk} (h : Own M W w L) : Own M W w [] := h.sublist (List.nil_sublist _)
theorem own_mid {M : List Nat} {W w : World} {x : Blk} {A B L0 : List Blk} (h : Own M W w ((x :: (A ++ (B ++ []))) ++ L0)) : Own M W w (A ++ B) := by
  rw [List.append_nil] at h
  exact h.sublist ((List.sublist_append_left (A ++ B) L0).cons x)
end
section
theorem wI {A : Option Addr} {n c : Nat} {l : List Sp} {ob : List Blk} (h : SlS (.slice A n c) l ob) : l.length ≤ c := by
  rcases h.2 with ⟨h1, h2, _⟩ | ⟨g, c', cur, h1, _, h3, _⟩
  · rw [h2]; exact Nat.zero_le _
  · simp only [Value.slice.injEq] at h1
    rw [h1.2.2]; exact h3
def SetO (v : Value) (a : St) (ob : List Blk) : Prop := ∃ v1 v2 o1 o2, v = .agg #[v1, v2] ∧ ob = o2 ++ o1 ∧ SlS v1 a.rel o1 ∧ SlS v2 a.pre o2
theorem SetO.form {v : Value} {a : St} {ob : List Blk} (h : SetO v a ob) : ∃ A B c d, v = .agg #[.slice A a.rel.length c, .slice B a.pre.length d] := by
  obtain ⟨v1, v2, o1, o2, rfl, _, h1, h2⟩ := h
  obtain ⟨A, c, rfl⟩ := h1.form
  obtain ⟨B, d, rfl⟩ := h2.form
  exact ⟨A, B, c, d, rfl⟩
theorem agg_two {a b c d : Value} (h : (Value.agg #[a, b]) = .agg #[c, d]) : a = c ∧ b = d := by
  injection h with h
  have h2 := congrArg Array.toList h
  simp only [List.cons.injEq, and_true] at h2
  exact h2
theorem SetO.inn {A B : Option Addr} {c d n : Nat} {a : St} {ob L : List Blk} {M : List Nat} {W w : World} (h : SetO (.agg #[.slice A a.rel.length c, .slice B a.pre.length d]) a ob) (hO : Own M W w L) (hob : ∀ x ∈ ob, x ∈ L) (hf : SF a n) (hn : n ≤ 100000) : SetIn w w.heap.size A B a := by
  obtain ⟨v1, v2, o1, o2, e, rfl, h1, h2⟩ := h
  obtain ⟨rfl, rfl⟩ := agg_two e
  exact ⟨Sl.reads h1 rfl hO (fun x hx => hob x (by simp [hx])), Sl.reads h2 rfl hO (fun x hx => hob x (by simp [hx])), Nat.le_trans hf.rel.len hn, Nat.le_trans hf.pre.len hn, hf.rel.short, hf.pre.short⟩
theorem SetO.caps {A B : Option Addr} {c d : Nat} {a : St} {ob : List Blk} (h : SetO (.agg #[.slice A a.rel.length c, .slice B a.pre.length d]) a ob) : a.rel.length ≤ c ∧ a.pre.length ≤ d := by
  obtain ⟨v1, v2, o1, o2, e, rfl, h1, h2⟩ := h
  obtain ⟨rfl, rfl⟩ := agg_two e
  exact ⟨wI h1, wI h2⟩
theorem SetO.none : SetO (.agg #[.slice none 0 0, .slice none 0 0]) g9 [] := ⟨_, _, [], [], rfl, rfl, Sl.nil _ _, Sl.nil _ _⟩
theorem rsetOr_any (A B A' B' : Option Addr) (c d c' d' : Nat) (a b : St) (W : World) (hs : SetIn W W.heap.size A B a) (ht : SetIn W W.heap.size A' B' b) : Calls Tryz.prog 35 #[.agg #[.slice A a.rel.length c, .slice B a.pre.length d], .agg #[.slice A' b.rel.length c', .slice B' b.pre.length d']] W fun e w' => ∃ v' ob', e = .returned v' ∧ SetO v' (if a.may && b.may then orT a b else g9) ob' ∧ Own [] W w' ob' := by
  refine zR (n := 25) Tryz.func35 rfl (by kernel_rfl) (by kernel_rfl) (ZO (Zb (.agg #[.slice A a.rel.length c, .slice B a.pre.length d]) (fun b1 => Zb (.agg #[.slice A' b.rel.length c', .slice B' b.pre.length d']) (fun b2 => Za (.agg #[.slice none 0 0, .slice none 0 0]) (fun b3 => ZN (z7 (ZO (Zl 2 ⟨b1, #[.slice A a.rel.length c, .slice B a.pre.length d], 31⟩ (off := 0) (.agg #[.slice A a.rel.length c, .slice B a.pre.length d]) ?_))))))))
  refine Zc (k := 29) (args := #[.agg #[.slice A a.rel.length c, .slice B a.pre.length d]]) (.bool a.may) (fun w hO => dQ A B c d a w (hs.on hO.below hO.size)) ?_
  cases h1 : a.may with
  | true =>
    refine Zv (.bool false) (Zv (.bool false) (Zl 1 ⟨b2, #[.slice A' b.rel.length c', .slice B' b.pre.length d'], 31⟩ (off := 0) (.agg #[.slice A' b.rel.length c', .slice B' b.pre.length d']) (Zc (k := 29) (args := #[.agg #[.slice A' b.rel.length c', .slice B' b.pre.length d']]) (.bool b.may) (fun w hO => dQ A' B' c' d' b w (ht.on hO.below hO.size)) ?_)))
    cases h2 : b.may with
    | true =>
      refine Zv (.bool false) (Zv (.bool false) (ZX (ZB (z7 (kM [⟨b2, #[.slice A' b.rel.length c', .slice B' b.pre.length d'], 31⟩, ⟨b1, #[.slice A a.rel.length c, .slice B a.pre.length d], 31⟩] (by kernel_rfl) (fun w hO => Own.sub [⟨b3, #[.slice none 0 0, .slice none 0 0], 31⟩] hO) (ZT 0 [⟨b3, #[.slice none 0 0, .slice none 0 0], 31⟩] _ (.pointer (some ⟨b1, 0, none⟩)) (zF zG) rfl (ZL 1 [⟨b3, #[.slice none 0 0, .slice none 0 0], 31⟩] _ 1 ⟨b1, #[.slice A a.rel.length c, .slice B a.pre.length d], 31⟩ (off := 0) (.slice A a.rel.length c) (zF zG) rfl rfl (ZT 2 [⟨b3, #[.slice none 0 0, .slice none 0 0], 31⟩] _ (.pointer (some ⟨b2, 0, none⟩)) (zF zG) rfl ?_))))))))
      refine ZL 3 [⟨b3, #[.slice none 0 0, .slice none 0 0], 31⟩] _ 0 ⟨b2, #[.slice A' b.rel.length c', .slice B' b.pre.length d'], 31⟩ (off := 0) (.slice A' b.rel.length c') (zF zG) rfl rfl (ZT 5 [⟨b3, #[.slice none 0 0, .slice none 0 0], 31⟩] _ (.pointer (some ⟨b1, 1, none⟩)) (zF zG) rfl (ZL 6 [⟨b3, #[.slice none 0 0, .slice none 0 0], 31⟩] _ 1 ⟨b1, #[.slice A a.rel.length c, .slice B a.pre.length d], 31⟩ (off := 1) (.slice B a.pre.length d) (zF zG) rfl rfl (ZT 7 [⟨b3, #[.slice none 0 0, .slice none 0 0], 31⟩] _ (.pointer (some ⟨b2, 1, none⟩)) (zF zG) rfl (ZL 8 [⟨b3, #[.slice none 0 0, .slice none 0 0], 31⟩] _ 0 ⟨b2, #[.slice A' b.rel.length c', .slice B' b.pre.length d'], 31⟩ (off := 1) (.slice B' b.pre.length d') (zF zG) rfl rfl (zX 4 (by kernel_rfl) (gO _ (k := 58) (args := #[.slice A a.rel.length c, .slice A' b.rel.length c']) (fun v' L' => ∃ ob', L' = ob' ++ ([⟨b3, #[.slice none 0 0, .slice none 0 0], 31⟩] ++ ([⟨b2, #[.slice A' b.rel.length c', .slice B' b.pre.length d'], 31⟩, ⟨b1, #[.slice A a.rel.length c, .slice B a.pre.length d], 31⟩])) ∧ SlS v' (orL a.rel b.rel) ob') rfl (by kernel_rfl) (fun _ => by kernel_rfl) (fun w hO => (ror_any A A' c c' a.rel b.rel w (hs.rel.on hO.below hO.size) (ht.rel.on hO.below hO.size) hs.lr ht.lr hs.sr ht.sr).mono fun e w' ⟨v', ob', k1, k2, k3⟩ => ⟨v', _, k1, ⟨ob', rfl, by rw [if_pos (by rw [(St.facts h1).1, (St.facts h2).1]; rfl)] at k2; exact k2⟩, Own.joinN hO k3⟩) (fun v' L' ⟨ob', e, _⟩ w hO => by subst e; exact Own.sub [⟨b3, #[.slice none 0 0, .slice none 0 0], 31⟩] (Own.sub ob' hO)) (fun v1 L2 hv2 => ?_)))))))
      obtain ⟨o1, rfl, hr1⟩ := hv2
      obtain ⟨V1, c1, rfl⟩ := hr1.form
      refine v6 (L' := (o1 ++ ([⟨b3, #[.slice none 0 0, .slice none 0 0], 31⟩] : List Blk)) ++ ([⟨b2, #[.slice A' b.rel.length c', .slice B' b.pre.length d'], 31⟩, ⟨b1, #[.slice A a.rel.length c, .slice B a.pre.length d], 31⟩])) (List.append_assoc _ _ _).symm (zX 9 (by kernel_rfl) (gO _ (k := 58) (args := #[.slice B a.pre.length d, .slice B' b.pre.length d']) (fun v' L' => ∃ ob', L' = ob' ++ ((o1 ++ ([⟨b3, #[.slice none 0 0, .slice none 0 0], 31⟩] : List Blk)) ++ ([⟨b2, #[.slice A' b.rel.length c', .slice B' b.pre.length d'], 31⟩, ⟨b1, #[.slice A a.rel.length c, .slice B a.pre.length d], 31⟩])) ∧ SlS v' (orL a.pre b.pre) ob') rfl (by kernel_rfl) (fun _ => by kernel_rfl) (fun w hO => (ror_any B B' d d' a.pre b.pre w (hs.pre.on hO.below hO.size) (ht.pre.on hO.below hO.size) hs.lp ht.lp hs.sp ht.sp).mono fun e w' ⟨v', ob', k1, k2, k3⟩ => ⟨v', _, k1, ⟨ob', rfl, by rw [if_pos (by rw [(St.facts h1).2.1, (St.facts h2).2.1]; rfl)] at k2; exact k2⟩, Own.joinN hO k3⟩) (fun v' L' ⟨ob', e, _⟩ w hO => by subst e; exact Own.sub (o1 ++ ([⟨b3, #[.slice none 0 0, .slice none 0 0], 31⟩] : List Blk)) (Own.sub ob' hO)) (fun v2 L2 hv2 => ?_)))
      obtain ⟨o2, rfl, hr2⟩ := hv2
      obtain ⟨V2, c2, rfl⟩ := hr2.form
      exact v6 (L' := (o2 ++ (o1 ++ ([⟨b3, #[.slice none 0 0, .slice none 0 0], 31⟩] : List Blk))) ++ ([⟨b2, #[.slice A' b.rel.length c', .slice B' b.pre.length d'], 31⟩, ⟨b1, #[.slice A a.rel.length c, .slice B a.pre.length d], 31⟩])) (List.append_assoc _ _ _).symm (ZT 10 (o2 ++ (o1 ++ ([⟨b3, #[.slice none 0 0, .slice none 0 0], 31⟩] : List Blk))) _ (.agg #[.slice V1 ((orL a.rel b.rel).length) c1, .slice V2 ((orL a.pre b.pre).length) c2]) (zF zG) rfl (zX 11 (by kernel_rfl) (hs_front (E' := (⟨b3, #[.slice none 0 0, .slice none 0 0], 31⟩ :: (o2 ++ (o1 ++ ([] : List Blk))))) (by simpa [List.append_assoc] using (List.perm_middle (a := ⟨b3, #[.slice none 0 0, .slice none 0 0], 31⟩) (l₁ := (o2 ++ (o1 ++ ([] : List Blk)))) (l₂ := []))) (ZS (⟨b3, #[.slice none 0 0, .slice none 0 0], 31⟩ :: (o2 ++ (o1 ++ ([] : List Blk)))) _ 0 ⟨b3, #[.slice none 0 0, .slice none 0 0], 31⟩ (off := 0) (.agg #[.slice V1 ((orL a.rel b.rel).length) c1, .slice V2 ((orL a.pre b.pre).length) c2]) rfl rfl (x3 (by kernel_rfl) (zC (zD (ZC 0 ⟨b3, #[.slice V1 ((orL a.rel b.rel).length) c1, .slice V2 ((orL a.pre b.pre).length) c2], 31⟩ (off := 0) (.agg #[.slice V1 ((orL a.rel b.rel).length) c1, .slice V2 ((orL a.pre b.pre).length) c2]) Tryz.results35 (fun w hO => ⟨_, _, rfl, by rw [if_pos (by simp [h1, h2])]; exact ⟨_, _, o1, o2, rfl, rfl, hr1, hr2⟩, own_mid hO⟩)))))))))
    | false =>
      refine Zv (.bool true) (Zv (.bool true) (ZY (ZO (Zc (k := 34) (args := #[]) (.agg #[.slice none 0 0, .slice none 0 0]) (fun w _ => t7 w) (Zs 0 ⟨b3, #[.slice none 0 0, .slice none 0 0], 31⟩ (off := 0) (.agg #[.slice none 0 0, .slice none 0 0]) (ZN (zD ?_)))))))
      exact z6 (ZC 0 ⟨b3, #[.slice none 0 0, .slice none 0 0], 31⟩ (off := 0) (.agg #[.slice none 0 0, .slice none 0 0]) Tryz.results35 (fun w hO => ⟨_, [], rfl, by rw [if_neg (by simp [h1, h2])]; exact SetO.none, gZ hO⟩))
  | false =>
    refine Zv (.bool true) (Zv (.bool true) (Zk (Zk (Zk (Zv (.bool true) (ZY (ZO (Zc (k := 34) (args := #[]) (.agg #[.slice none 0 0, .slice none 0 0]) (fun w _ => t7 w) ?_))))))))
    exact Zs 0 ⟨b3, #[.slice none 0 0, .slice none 0 0], 31⟩ (off := 0) (.agg #[.slice none 0 0, .slice none 0 0]) (ZN (zD (z6 (ZC 0 ⟨b3, #[.slice none 0 0, .slice none 0 0], 31⟩ (off := 0) (.agg #[.slice none 0 0, .slice none 0 0]) Tryz.results35 (fun w hO => ⟨_, [], rfl, by rw [if_neg (by simp [h1])]; exact SetO.none, gZ hO⟩)))))
end
section
def coV (c : Co) : Value := .agg #[.int .i64 c.op, .int .i64 c.parts, .int .i64 c.v.maj, .int .i64 c.v.min, .int .i64 c.v.pat, .string (mkS c.v.pre), .string (mkS c.v.build)]
def Co.short (c : Co) : Prop := c.v.short
def toldV (p : Int) (v : Ver) : Ver := ⟨if p < 1 then 0 else v.maj, if p < 2 then 0 else v.min, if p < 3 then 0 else v.pat, if p < 3 then [] else v.pre, []⟩
def genCo (l : List Int) (i : Nat) : Co :=
  ⟨1 + plc (atL l (i + 5)) 9, if 1 + plc (atL l (i + 5)) 9 = 9 then plc (atL l (i + 6)) 3 else 1 + plc (atL l (i + 6)) 3, toldV (if 1 + plc (atL l (i + 5)) 9 = 9 then plc (atL l (i + 6)) 3 else 1 + plc (atL l (i + 6)) 3) (genV l i)⟩
end
section
end
section
end
section
end
section
def SlT (v : Value) (l : List (List UInt8)) (ob : List Blk) : Prop := Sl 9 1 v l.length (vK l) ob
theorem SlT.form {v : Value} {l : List (List UInt8)} {ob : List Blk} (h : SlT v l ob) : ∃ A cap, v = .slice A l.length cap := by
  rcases h.2 with ⟨h1, h2, _⟩ | ⟨g, cap, cur, h1, _⟩
  · exact ⟨none, 0, by rw [h1, h2]⟩
  · exact ⟨_, _, h1⟩
def nU (x : List UInt8) : List Value := [.string (mkS x)]
theorem wZ (x : List UInt8) : (nU x).length = 1 := rfl
theorem uE : ∀ (l : List (List UInt8)), vK l = l.flatMap nU
  | [] => rfl
  | x :: l => by
    show Value.string (mkS x) :: vK l = [Value.string (mkS x)] ++ l.flatMap nU
    rw [uE l]; rfl
theorem SlT.reads {A : Option Addr} {n cap : Nat} {l : List (List UInt8)} {ob L : List Blk} {M : List Nat} {W w : World} (h : SlT (.slice A n cap) l ob) (hn : l.length = n) (hO : Own M W w L) (hs : ∀ x ∈ ob, x ∈ L) : Reads nU w w.heap.size A l := by
  subst hn
  unfold SlT at h
  rw [uE] at h
  exact Sl.reads h rfl hO hs
theorem SlT.readsT {v : Value} {l : List (List UInt8)} {ob L : List Blk} {M : List Nat} {W w : World} (h : SlT v l ob) (hO : Own M W w L) (hs : ∀ x ∈ ob, x ∈ L) : ReadsT w w.heap.size v l := by
  obtain ⟨A, cap, rfl⟩ := h.form
  refine ⟨A, cap, rfl, fun h0 => ?_⟩
  obtain ⟨b, off, e, hlt, hc⟩ := SlT.reads h rfl hO hs h0
  refine ⟨⟨b, off, none⟩, e, hlt, fun j hj => ?_⟩
  rw [x6]
  refine hc j _ ?_
  rw [← uE]
  unfold vK
  rw [List.getElem?_map, List.getElem?_eq_getElem hj]; rfl
theorem slt_lit (l : List (List UInt8)) (b : Nat) (cur : Array Value) (h : cur.toList = vK l) (hm : l.length ≤ maxLen) : SlT (.slice (some ⟨b, 0, none⟩) l.length l.length) l [⟨b, cur, 9⟩] := by
  have hc : cur.toList.length = l.length := by rw [h, wF]
  refine ⟨by rw [wF]; omega, .inr ⟨b, l.length, cur, rfl, rfl, Nat.le_refl _, hm, by rw [← Array.length_toList, hc]; omega, ?_⟩⟩
  rw [h]
  exact List.take_of_length_le (by rw [wF]; omega)
theorem str_cells (l : List (List UInt8)) : ∀ u ∈ vK l, u.oneCell' = true := fun u hu => by
  unfold vK at hu
  obtain ⟨x, _, rfl⟩ := List.mem_map.1 hu; rfl
end
section
theorem xO {P : Program} {ρ : Operand → Value} {o : Oper} {t t' : TypeId} {x y : Operand} {a b : List UInt8} (ho : o.op = .binOp .add t x y t') (hx : ρ x = .string (mkS a)) (hy : ρ y = .string (mkS b)) (hb : a.length + b.length ≤ 4000000000) (w : World) : (execOp ρ o).run P w = .ok (.value (.string (mkS (a ++ b)))) w := by
  unfold execOp
  have h1 : ¬ (9223372036854775807 : Int) < ((mkS a).size : Int) + ((mkS b).size : Int) := by rw [xR, xR]; omega
  simp [ho, hx, hy, Sem.run_bind, eqGuard, binOp, Op.stringOp, mkS_append, h1]
theorem run_min2 {P : Program} {ρ : Operand → Value} {o : Oper} {t t' : TypeId} {x y : Operand} {k q : IntKind} {i j : Int} (ho : o.op = .call { callee := .builtin .min, args := #[x, y], argTypes := #[t, t'] }) (hx : ρ x = .int k i) (hy : ρ y = .int q j) (w : World) : (execOp ρ o).run P w = .ok (.value (.int k (min i j))) w := by
  unfold execOp
  have e : min i j = if j < i then j else i := by split <;> omega
  simp [ho, resolve, invoke, builtin, Builtin.min_, Builtin.min2, hx, hy, e]
section
variable {M : List Nat} {P : Program} {n0 : Nat} {ops : Array Oper} {W : World} {Q : Exit → Act → World → Prop} {rest : List Oper} {o : Oper} {L : List Blk} {f : Nat → Value}
end
section
variable {M : List Nat} {P : Program} {n : Nat} {ops : Array Oper} {W : World} {L0 : List Blk} {Q : Exit → Act → World → Prop} {fuel : Nat} {listed : Array Bool} {f : Nat → Value}
theorem h_dec (i : Nat) (E : List Blk) (oi : Oper) (p : Prop) [Decidable p] (b : Bool) (hi : ops[i]? = some oi) (hs : Region.noSelect ops = true) (hf : Region.free .any ops listed i = true) (hr : (Region.ready .any ops listed).contains i = true)
    (hQ : PQ Q) (hw : xN ops n f oi = true) (hrun : ∀ w, (execOp (ev n f) oi).run P w = .ok (.value (.bool (decide p))) w) (hb : decide p = b)
    (h : gW M P n ops W L0 Q fuel (listed.setIfInBounds i true) (E ++ L0) (upd f oi.dst (.bool b))) : gW M P n ops W L0 Q (fuel + 1) listed (E ++ L0) f :=
  jK i E oi (.bool b) hi hs hf hr hQ hw (fun w _ => by rw [hrun w, hb]) h
end
end
section
theorem bump_short (v : Ver) (k : Int) : (yX v k).short := by
  by_cases h : y9 v k = true
  · obtain ⟨a, b, c, e⟩ := bump_rel h
    rw [e]; exact ⟨Nat.zero_le _, Nat.zero_le _⟩
  · unfold yX
    rw [if_neg h]; exact ⟨Nat.zero_le _, Nat.zero_le _⟩
def jV (v : Ver) (z : Int) : Cu := if z < 0 then zY 1 else qB v z.toNat
theorem highZ_hit {v : Ver} {z : Int} (h0 : 0 ≤ z) (h : y9 v z = true) : jV v z = ⟨0, yX v z, false⟩ := by
  unfold jV
  rw [if_neg (by omega)]
  obtain ⟨k, rfl⟩ : ∃ k : Nat, z = k := ⟨z.toNat, by omega⟩
  rw [Int.toNat_natCast]
  cases k with
  | zero => unfold qB; exact if_pos h
  | succ k => unfold qB; rw [if_pos h]
theorem highZ_next {v : Ver} {z : Int} (h0 : 0 ≤ z) (h : y9 v z = false) : jV v z = jV v (z - 1) := by
  unfold jV
  rw [if_neg (by omega)]
  obtain ⟨k, rfl⟩ : ∃ k : Nat, z = k := ⟨z.toNat, by omega⟩
  rw [Int.toNat_natCast]
  cases k with
  | zero => unfold qB; rw [if_neg (by rw [show ((0 : Nat) : Int) = 0 from rfl] at h; rw [h]; decide), if_pos (by decide)]
  | succ k =>
    unfold qB
    rw [if_neg (by rw [h]; decide), if_neg (by omega)]
    rw [show (((k + 1 : Nat) : Int) - 1).toNat = k from by omega]
    cases k <;> rfl
end
section
theorem slit6 (s : Sp) (b : Nat) (cur : Array Value) (h : cur.toList = yT s) : SlS (.slice (some ⟨b, 0, none⟩) 1 1) [s] [⟨b, cur, 80⟩] := by
  have e : ([s] : List Sp).flatMap yT = yT s := List.append_nil _
  have hc : cur.toList.length = 14 := by rw [h]; rfl
  refine ⟨by rw [e]; rfl, .inr ⟨b, 1, cur, rfl, rfl, Nat.le_refl _, by decide, by rw [← Array.length_toList, hc], ?_⟩⟩
  rw [e, h]
  exact List.take_of_length_le (Nat.le_refl 14)
theorem high_short (v : Ver) (k : Nat) : (qB v k).short := by
  induction k with
  | zero =>
    unfold qB
    split
    · exact bump_short v 0
    · exact ⟨Nat.zero_le _, Nat.zero_le _⟩
  | succ k ih =>
    unfold qB
    split
    · exact bump_short v _
    · exact ih
theorem span_short {c : Co} (h : c.short) : c.span.1.short ∧ c.span.2.short := by
  have hl : c.low.short := core_short h
  have he : ∀ e : Int, (zY e).short := fun e => ⟨Nat.zero_le _, Nat.zero_le _⟩
  have ha : c.aft.short := by
    unfold Co.aft
    split
    · exact high_short _ _
    · exact core_short h
  have hh := fun k => high_short c.v k
  unfold Co.span
  repeat' split
  all_goals exact ⟨by first | exact hl | exact ha | exact he _ | exact hh _, by first | exact hl | exact ha | exact he _ | exact hh _⟩
theorem d8 (lo hi : Cu) : xY lo hi = if zL lo hi < 0 then [⟨lo, hi⟩] else [] := by
  unfold xY gS
  by_cases h : zL lo hi < 0
  · rw [if_pos (bA h), if_pos h]; rfl
  · rw [if_neg (fun q => h (u7 q)), if_neg h]
end
section
def triV (l : List (List UInt8)) : Ver := if l.length = 3 then ⟨zP (tg l 0), zP (tg l 1), zP (tg l 2), [], []⟩ else Ver.zero
def triB (l : List (List UInt8)) : Bool := decide (l.length = 3) && (gE (tg l 0) && gE (tg l 1) && gE (tg l 2))
end
section
theorem fL (op : Int) : (yC op).length ≤ 2 := by
  unfold yC
  repeat' split
  all_goals decide
theorem join_len (b : UInt8) (m : Nat) : ∀ (l : List (List UInt8)), (∀ x ∈ l, x.length ≤ m) → (yK b l).length ≤ l.length * (m + 1)
  | [], _ => by simp [yK]
  | [x], h => by
    have := h x (List.mem_singleton.2 rfl)
    simp [yK]; omega
  | x :: y :: r, h => by
    have h1 := h x (List.mem_cons_self ..)
    have h2 := join_len b m (y :: r) fun z hz => h z (List.mem_cons_of_mem _ hz)
    rw [yK, List.length_append, List.length_cons]
    simp only [List.length_cons, Nat.add_mul] at h2 ⊢
    omega
theorem nums_len9 {v : Ver} (hv : v.may = true) {n : Nat} : ∀ x ∈ yN v n, x.length ≤ 21 := fun x hx => by
  obtain ⟨k, hk, rfl⟩ := nums_mem hv hx
  have := itoa_len hk
  omega
theorem bI (v : Ver) (n : Nat) : (yN v n).length ≤ 3 := by unfold yN; rw [List.length_take]; simp; omega
theorem uJ {v : Ver} (hv : v.may = true) (n : Nat) : (yK 46 (yN v n)).length ≤ 100 := by
  have h := join_len 46 21 (yN v n) (nums_len9 hv)
  have := bI v n
  omega
theorem uF {v : Ver} (hv : v.may = true) (n : Nat) : (yK 46 (yN v n ++ [[42]])).length ≤ 200 := by
  have h := join_len 46 21 (yN v n ++ [[42]]) (fun x hx => by
    rcases List.mem_append.1 hx with hx | hx
    · exact nums_len9 hv x hx
    · rw [List.mem_singleton.1 hx]; decide)
  have := bI v n
  rw [List.length_append] at h
  simp at h; omega
def toldC (v : Ver) : Array Value := #[.string (mkS (Lib.itoa v.maj)), .string (mkS (Lib.itoa v.min)), .string (mkS (Lib.itoa v.pat))]
theorem strInfo : (Tryz.prog.info? 9).map (fun i => (i.zero.map (·.cells.size), i.size, i.bytes)) = some (some 1, 1, 16) := by kernel_rfl
theorem nT : ∃ i z, Tryz.prog.info? 9 = some i ∧ i.zero = some z ∧ i.size = 1 ∧ z.cells.size = 1 ∧ i.bytes = 16 := by
  have h := strInfo
  cases hi : Tryz.prog.info? 9 with
  | none => rw [hi] at h; cases h
  | some i =>
    rw [hi] at h
    simp only [Option.map_some, Option.some.injEq, Prod.mk.injEq] at h
    cases hz : i.zero with
    | none => rw [hz] at h; simp at h
    | some z => rw [hz] at h; simp at h; exact ⟨i, z, rfl, hz, h.2.1, h.1, h.2.2⟩
theorem parts_nat {c : Co} (h : c.may = true) : ((c.parts.toNat : Nat) : Int) = c.parts ∧ c.parts.toNat ≤ 3 := by
  obtain ⟨_, _, _, h9, hn, _⟩ := Co.facts h
  by_cases e : c.op = 9
  · have := h9 e; omega
  · have := hn e; omega
theorem star_text {c : Co} (h9 : c.op = 9) : yK 46 (yN c.v c.parts.toNat ++ [[42]]) = c.text := by
  unfold Co.text Co.rest
  rw [h9, if_pos rfl]; rfl
theorem text_pre {c : Co} (h9 : ¬ c.op = 9) (hp : ¬ c.v.pre = []) : yC c.op ++ yK 46 (yN c.v c.parts.toNat) ++ [45] ++ c.v.pre = c.text := by
  unfold Co.text Co.rest wY
  rw [if_neg h9]
  cases hq : c.v.pre with
  | nil => exact absurd hq hp
  | cons a r => simp
theorem text_bare {c : Co} (h9 : ¬ c.op = 9) (hp : c.v.pre = []) : yC c.op ++ yK 46 (yN c.v c.parts.toNat) = c.text := by
  unfold Co.text Co.rest wY
  rw [if_neg h9, hp]; simp
end
section
def numsOk (l : List (List UInt8)) : Bool := decide (l.length ≤ 3) && l.all gE
def numsVal (l : List (List UInt8)) : Ver := if numsOk l then ⟨zP (tg l 0), zP (tg l 1), zP (tg l 2), [], []⟩ else Ver.zero
theorem nR {l : List (List UInt8)} {i : Nat} (h : i < l.length) : l[i] = tg l i := by
  unfold tg
  rw [List.getElem?_eq_getElem h]; rfl
theorem tgi_out {l : List (List UInt8)} {i : Nat} (h : l.length ≤ i) : zP (tg l i) = 0 := by
  unfold tg
  rw [List.getElem?_eq_none h]; rfl
end
section
end
section
def pcV (s : List UInt8) : Co := (gU s).getD ⟨0, 0, Ver.zero⟩
def pcE (s : List UInt8) : Int := if (gU s).isSome then 0 else 6
theorem pc_none {s : List UInt8} (h : gU s = none) : pcV s = ⟨0, 0, Ver.zero⟩ ∧ pcE s = 6 := by unfold pcV pcE; rw [h]; exact ⟨rfl, rfl⟩
theorem pc_some {s : List UInt8} {c : Co} (h : gU s = some c) : pcV s = c ∧ pcE s = 0 := by unfold pcV pcE; rw [h]; exact ⟨rfl, rfl⟩
theorem tg_short {l : List (List UInt8)} (h : ∀ x ∈ l, x.length ≤ 1000000) (i : Nat) : (tg l i).length ≤ 1000000 := by
  unfold tg
  cases hq : l[i]? with
  | none => exact Nat.zero_le _
  | some x => exact h x (List.mem_of_getElem? hq)
end
section
def coC (c : Co) : List Value := (coV c).cells.toList
theorem coC_len (c : Co) : (coC c).length = 7 := rfl
theorem co_cells (c : Co) : ∀ u ∈ coC c, u.oneCell' = true := by
  intro u hu
  unfold coC coV at hu
  simp only [Value.cells, List.mem_cons, List.not_mem_nil, or_false] at hu
  rcases hu with rfl | rfl | rfl | rfl | rfl | rfl | rfl <;> rfl
structure Al where
  A : Option Addr
  l : List Co
  cap : Nat
def alC (x : Al) : List Value := [.slice x.A x.l.length x.cap]
theorem alC_len (x : Al) : (alC x).length = 1 := rfl
theorem al_cells (x : Al) : ∀ u ∈ alC x, u.oneCell' = true := fun u hu => by rw [List.mem_singleton.1 hu]; rfl
def xT (xs : List Al) : List (List Co) := xs.map Al.l
theorem g8 (xs : List Al) : (xT xs).length = xs.length := List.length_map ..
theorem rgOf_get {xs : List Al} {i : Nat} (hi : i < xs.length) {x : Al} (h : xs[i] = x) : (xT xs)[i]'(by rw [g8]; exact hi) = x.l := by
  unfold xT; rw [List.getElem_map, h]
def ShortA (l : List Co) : Prop := ∀ c ∈ l, c.short
structure RgIn (w : World) (B : Nat) (A : Option Addr) (xs : List Al) : Prop where
  top : Reads alC w B A xs
  each : ∀ x ∈ xs, Reads coC w B x.A x.l
  n : xs.length ≤ 1000
  m : ∀ x ∈ xs, x.l.length ≤ 1000
  short : ∀ x ∈ xs, ShortA x.l
theorem RgIn.on {w w' : World} {B B' : Nat} {A : Option Addr} {xs : List Al} (h : RgIn w B A xs) (hb : Below B w w') (hB : B ≤ B') : RgIn w' B' A xs := ⟨h.top.on hb hB, fun x hx => (h.each x hx).on hb hB, h.n, h.m, h.short⟩
theorem take_all {α : Type} {p : α → Prop} {l : List α} {i : Nat} (h : ∀ x ∈ l.take i, p x) (hi : i < l.length) {x : α} (hx : l[i] = x) (hp : p x) : ∀ y ∈ l.take (i + 1), p y := fun y hy => by
  rw [List.take_succ_eq_append_getElem hi] at hy
  rcases List.mem_append.1 hy with hy | hy
  · exact h y hy
  · rw [List.mem_singleton.1 hy, hx]; exact hp
theorem fewA_len {l : List Co} (h : ¬ (1 ≤ l.length ∧ l.length ≤ 6)) : fewA l = false := by unfold fewA; rw [decide_eq_false h]; rfl
theorem fewA_one {l : List Co} {c : Co} (hm : c ∈ l) (h : c.may = false) : fewA l = false := by
  cases hf : fewA l with
  | false => rfl
  | true => rw [(fewA.facts hf).2 c hm] at h; cases h
theorem fewA_all {l : List Co} (h1 : 1 ≤ l.length ∧ l.length ≤ 6) (h : ∀ c ∈ l, c.may = true) : fewA l = true := by
  unfold fewA; rw [decide_eq_true h1, List.all_eq_true.2 h]; rfl
theorem few_len {xs : List Al} (h : ¬ (1 ≤ xs.length ∧ xs.length ≤ 6)) : fewR (xT xs) = false := by unfold fewR; rw [g8, decide_eq_false h]; rfl
theorem few_one {xs : List Al} {x : Al} (hm : x ∈ xs) (h : fewA x.l = false) : fewR (xT xs) = false := by
  cases hf : fewR (xT xs) with
  | false => rfl
  | true => rw [(fewR.facts hf).2 x.l (List.mem_map.2 ⟨x, hm, rfl⟩)] at h; cases h
theorem few_all {xs : List Al} (h1 : 1 ≤ xs.length ∧ xs.length ≤ 6) (h : ∀ x ∈ xs, fewA x.l = true) : fewR (xT xs) = true := by
  unfold fewR; rw [g8, decide_eq_true h1, List.all_eq_true.2 fun a ha => by obtain ⟨x, hx, rfl⟩ := List.mem_map.1 ha; exact h x hx]; rfl
theorem few_mem {xs : List Al} (h : fewR (xT xs) = true) : (1 ≤ xs.length ∧ xs.length ≤ 6) ∧ ∀ x ∈ xs, (1 ≤ x.l.length ∧ x.l.length ≤ 6) ∧ ∀ c ∈ x.l, c.may = true := by
  obtain ⟨h1, h2⟩ := fewR.facts h
  rw [g8] at h1
  exact ⟨h1, fun x hx => fewA.facts (h2 x.l (List.mem_map.2 ⟨x, hx, rfl⟩))⟩
theorem co_len {c : Co} (h : c.may = true) : c.print.length ≤ 300 := by
  obtain ⟨_, hv, _⟩ := Co.facts h
  have hp := preOk_short (fP hv)
  rw [vG h]
  unfold Co.text Co.rest
  rw [List.length_append]
  have h1 : (yC c.op).length ≤ 2 := by
    unfold yC
    repeat' split
    all_goals decide
  split
  · have := uF hv c.parts.toNat; omega
  · rw [List.length_append]
    have := uJ hv c.parts.toNat
    have : (wY 45 c.v.pre).length ≤ 37 := by
      unfold wY
      split
      · exact Nat.zero_le _
      · rw [List.length_cons]; omega
    omega
end
section
end
section
end
section
structure AlI (s : List UInt8) (i f : Nat) (u : Value) (P : List (List UInt8)) (ob : List Blk) : Prop where
  fi : f ≤ i + 1
  il : i ≤ s.length
  fl : f ≤ s.length
  sl : SlT u P ob
  eq : P ++ xG ((s.drop f).take (i - f)) (s.drop (max i f)) = xG [] s
  pl : P.length ≤ i
end
section
theorem coInfo : (Tryz.prog.info? 51).map (fun i => (i.zero.map (·.cells.size), i.size, i.bytes)) = some (some 7, 7, 72) := by kernel_rfl
theorem co_info : ∃ i z, Tryz.prog.info? 51 = some i ∧ i.zero = some z ∧ i.size = 7 ∧ z.cells.size = 7 ∧ i.bytes = 72 := by
  have h := coInfo
  cases hi : Tryz.prog.info? 51 with
  | none => rw [hi] at h; cases h
  | some i =>
    rw [hi] at h
    simp only [Option.map_some, Option.some.injEq, Prod.mk.injEq] at h
    cases hz : i.zero with
    | none => rw [hz] at h; simp at h
    | some z => rw [hz] at h; simp at h; exact ⟨i, z, rfl, hz, h.2.1, h.1, h.2.2⟩
theorem alInfo : (Tryz.prog.info? 47).map (fun i => (i.zero.map (·.cells.size), i.size, i.bytes)) = some (some 1, 1, 24) := by kernel_rfl
theorem al_info : ∃ i z, Tryz.prog.info? 47 = some i ∧ i.zero = some z ∧ i.size = 1 ∧ z.cells.size = 1 ∧ i.bytes = 24 := by
  have h := alInfo
  cases hi : Tryz.prog.info? 47 with
  | none => rw [hi] at h; cases h
  | some i =>
    rw [hi] at h
    simp only [Option.map_some, Option.some.injEq, Prod.mk.injEq] at h
    cases hz : i.zero with
    | none => rw [hz] at h; simp at h
    | some z => rw [hz] at h; simp at h; exact ⟨i, z, rfl, hz, h.2.1, h.1, h.2.2⟩
def SlCo (v : Value) (l : List Co) (ob : List Blk) : Prop := Sl 51 7 v l.length (l.flatMap coC) ob
theorem Sl.form {T sz n : Nat} {v : Value} {xs : List Value} {ob : List Blk} (h : Sl T sz v n xs ob) : ∃ A cap, v = .slice A n cap := by
  rcases h.2 with ⟨h1, h2, _⟩ | ⟨g, cap, cur, h1, _⟩
  · exact ⟨none, 0, by rw [h1, h2]⟩
  · exact ⟨_, _, h1⟩
structure RgA (u : Value) (xs : List Al) (o1 o2 : List Blk) : Prop where
  top : Sl 47 1 u xs.length (xs.flatMap alC) o1
  each : ∀ x ∈ xs, ∃ o, (∀ b ∈ o, b ∈ o2) ∧ SlCo (.slice x.A x.l.length x.cap) x.l o
def RgO (v : Value) (r : List (List Co)) (ob : List Blk) : Prop := ∃ xs u o1 o2, v = .agg #[u] ∧ ob = o1 ++ o2 ∧ xT xs = r ∧ RgA u xs o1 o2
theorem RgA.nil : RgA (.slice none 0 0) [] [] [] := ⟨Sl.nil _ _, fun x hx => by simp at hx⟩
theorem RgO.nil : RgO (.agg #[.slice none 0 0]) [] [] := ⟨[], _, [], [], rfl, rfl, rfl, RgA.nil⟩
theorem RgA.add {u u2 : Value} {xs : List Al} {o1 o2 o3 oa : List Blk} {A : Option Addr} {cap : Nat} {a : List Co} (h : RgA u xs o1 o2) (h2 : Sl 47 1 u2 (xs.length + 1) (xs.flatMap alC ++ alC ⟨A, a, cap⟩) o3) (ha : SlCo (.slice A a.length cap) a oa) : RgA u2 (xs ++ [⟨A, a, cap⟩]) o3 (oa ++ o2) :=
  ⟨h2.to (by simp) (by simp), fun x hx => by
    rcases List.mem_append.1 hx with hx | hx
    · obtain ⟨o, k1, k2⟩ := h.each x hx
      exact ⟨o, fun b hb => List.mem_append_right _ (k1 b hb), k2⟩
    · obtain rfl := List.mem_singleton.1 hx
      exact ⟨oa, fun b hb => List.mem_append_left _ hb, ha⟩⟩
structure FineR (r : List (List Co)) : Prop where
  n : r.length ≤ 1000
  m : ∀ a ∈ r, a.length ≤ 1000 ∧ ShortA a
theorem RgA.inn {A : Option Addr} {n cap : Nat} {xs : List Al} {o1 o2 L : List Blk} {M : List Nat} {W w : World} (h : RgA (.slice A n cap) xs o1 o2) (hn : xs.length = n) (hO : Own M W w L) (h1 : ∀ x ∈ o1, x ∈ L) (h2 : ∀ x ∈ o2, x ∈ L) (hf : FineR (xT xs)) : RgIn w w.heap.size A xs := by
  subst hn
  refine ⟨Sl.reads h.top rfl hO h1, fun x hx => ?_, by have := hf.n; rwa [g8] at this, fun x hx => (hf.m x.l (List.mem_map.2 ⟨x, hx, rfl⟩)).1, fun x hx => (hf.m x.l (List.mem_map.2 ⟨x, hx, rfl⟩)).2⟩
  obtain ⟨o, k1, k2⟩ := h.each x hx
  exact Sl.reads k2 rfl hO fun b hb => h2 b (k1 b hb)
theorem SlT.blk {v : Value} {l : List (List UInt8)} {ob : List Blk} (h : SlT v l ob) (hn : l ≠ []) : ∃ g cur cap, v = .slice (some ⟨g, 0, none⟩) l.length cap ∧ ob = [⟨g, cur, 9⟩] ∧ cur.toList.take (l.length * 1) = l.flatMap nU := by
  obtain ⟨A, cap, rfl⟩ := h.form
  have h0 : 0 < l.length := by cases l with
    | nil => exact absurd rfl hn
    | cons _ _ => simp
  obtain ⟨g, cur, rfl, e, _, _, _, e2⟩ := Sl.block h h0
  exact ⟨g, cur, cap, rfl, e, by rw [e2, uE]⟩
theorem pc_ok {s : List UInt8} (h : pcE s = 0) : gU s = some (pcV s) := by
  cases hp : gU s with
  | none => rw [(pc_none hp).2] at h; exact absurd h (by decide)
  | some c => rw [(pc_some hp).1]
theorem pc_err {s : List UInt8} (h : ¬ pcE s = 0) : gU s = none := by
  cases hp : gU s with
  | none => rfl
  | some c => exact absurd (pc_some hp).2 h
theorem parseP_may {s : List UInt8} {c : Co} (h : parseP s = some c) : c.may = true := ((uN _ c).1 h).1
theorem co_short {c : Co} (h : c.may = true) : c.short := by
  obtain ⟨_, hv, hb, _⟩ := Co.facts h
  exact may_short hv hb
theorem parseA_fine {s : List UInt8} {a : List Co} (h : mW s = some a) (hs : s.length ≤ 100) : a.length ≤ 1000 ∧ ∀ c ∈ a, c.may = true := by
  refine ⟨?_, fun c hc => ?_⟩
  · rw [bW h, pX]
    have := List.length_filter_le (fun x : UInt8 => x == 44) s
    omega
  · obtain ⟨x, _, e⟩ := allO_back h c hc
    exact parseP_may e
theorem fine_part {s : List UInt8} (hs : s.length ≤ 96) {l : List (List UInt8)} (hl : ∀ x ∈ l, x ∈ xG [] s) (hn : l.length ≤ 97) {r : List (List Co)} (h : jZ mW l = some r) : FineR r := by
  refine ⟨by rw [bW h]; omega, fun a ha => ?_⟩
  obtain ⟨x, hx, e⟩ := allO_back h a ha
  have := pS s [] x (hl x hx)
  have := parseA_fine e (by simp at this; omega)
  exact ⟨this.1, fun c hc => co_short (this.2 c hc)⟩
theorem fine_few {r : List (List Co)} (h : fewR r = true) : FineR r := by
  obtain ⟨h1, h2⟩ := fewR.facts h
  refine ⟨by omega, fun a ha => ?_⟩
  obtain ⟨k1, k2⟩ := fewA.facts (h2 a ha)
  exact ⟨by omega, fun c hc => co_short (k2 c hc)⟩
theorem allO_next {α β : Type} {f : α → Option β} {l : List α} {i : Nat} (hi : i < l.length) {y : α} (hy : l[i] = y) {m : List β} {z : β} (h : jZ f (l.take i) = some m) (hz : f y = some z) : jZ f (l.take (i + 1)) = some (m ++ [z]) := by
  rw [List.take_succ_eq_append_getElem hi, hy]
  exact allO_snoc h hz
theorem all_fails {s : List UInt8} {l m : List (List UInt8)} (hl : l = xG [] s) {i k : Nat} (hi : i < l.length) {y z : List UInt8} (hy : l[i] = y) (hm : m = yR 44 [] y) (hk : k < m.length) (hz : m[k] = z) (h : ¬ pcE (xU z) = 0) : kU s = none := by
  have h1 : mW y = none := tZ (x := z) (by rw [← hm, ← hz]; exact List.getElem_mem hk) (pc_err h)
  exact tZ (x := y) (by rw [← hl, ← hy]; exact List.getElem_mem hi) h1
theorem errG_none {s : List UInt8} (hs : s.length ≤ 96) (h : kU s = none) : yW s = 6 ∧ zM s = none := by
  unfold yW zM
  rw [if_neg (by omega), if_neg (by omega), h]; exact ⟨rfl, rfl⟩
theorem errG_few {s : List UInt8} (hs : s.length ≤ 96) {r : List (List Co)} (h : kU s = some r) (hf : fewR r = false) : yW s = 6 ∧ zM s = none := by
  unfold yW zM
  rw [if_neg (by omega), if_neg (by omega), h]
  simp [hf, rgMay, Option.filter]
theorem errG_big {s : List UInt8} (hs : s.length ≤ 96) {r : List (List Co)} (h : kU s = some r) (hf : fewR r = true) (hb : 96 < (qZ r).length) : yW s = 3 ∧ zM s = none := by
  unfold yW zM
  rw [if_neg (by omega), if_neg (by omega), h]
  simp [hf, rgMay, Option.filter]; omega
theorem errG_fine {s : List UInt8} (hs : s.length ≤ 96) {r : List (List Co)} (h : kU s = some r) (hf : fewR r = true) (hb : (qZ r).length ≤ 96) : yW s = 0 ∧ zM s = some r := by
  unfold yW zM
  rw [if_neg (by omega), if_neg (by omega), h]
  simp [hf, rgMay, Option.filter, hb]
theorem errG_long {s : List UInt8} (hs : 96 < s.length) : yW s = 3 ∧ zM s = none := by
  unfold yW zM
  rw [if_pos hs, if_pos hs]; exact ⟨rfl, rfl⟩
theorem tV : ∀ (s : List UInt8), (kI s).length ≤ s.length
  | [] => Nat.le_refl _
  | c :: l => by
    rw [kI]
    split
    · have := tV l; rw [List.length_cons]; omega
    · exact Nat.le_refl _
theorem bareL_len (s : List UInt8) : (xU s).length ≤ s.length := by
  unfold xU
  rw [List.length_reverse]
  have h1 := tV (kI s).reverse
  rw [List.length_reverse] at h1
  have := tV s
  omega
theorem pieces_len {y : List UInt8} (h : y.length ≤ 96) : (yR 44 [] y).length ≤ 97 ∧ ∀ z ∈ yR 44 [] y, z.length ≤ 96 := by
  refine ⟨?_, fun z hz => by have := split_le 44 y [] z hz; simp at this; omega⟩
  rw [pX]
  have := List.length_filter_le (fun x : UInt8 => x == 44) y
  omega
section
variable {M : List Nat} {W w : World}
theorem own_two {x y : Blk} {A : List Blk} (h : Own M W w (x :: y :: A)) : Own M W w A := h.sublist ((List.sublist_cons_self y A).trans (List.sublist_cons_self x (y :: A)))
theorem own_turn {x y r t g : Blk} {oa o1 o2 : List Blk} (h : Own M W w (([x, y, g, r, t] ++ oa) ++ o1 ++ o2)) : Own M W w (g :: r :: t :: (o1 ++ (oa ++ o2))) := by
  have h1 : Own M W w (x :: y :: g :: r :: t :: ((oa ++ o1) ++ o2)) := by simpa [List.append_assoc] using h
  refine (own_two h1).perm (List.Perm.cons _ (List.Perm.cons _ (List.Perm.cons _ ?_)))
  rw [← List.append_assoc]
  exact List.Perm.append_right _ List.perm_append_comm
end
end
section
end
section
theorem none_in (w : World) (n : Nat) : SetIn w n none none g9 := ⟨fun h0 => absurd h0 (Nat.lt_irrefl 0), fun h0 => absurd h0 (Nat.lt_irrefl 0), Nat.zero_le _, Nat.zero_le _, fun s hs => by simp [g9] at hs, fun s hs => by simp [g9] at hs⟩
end
section
theorem turn_short {c : Cu} (h : c.short) : (kC c).short := by
  unfold kC
  split
  · exact h
  · split
    · unfold relB
      split
      · exact next_short _
      · exact ⟨by simp [zY, Ver.zero], by simp [zY, Ver.zero]⟩
    · unfold relA
      split
      · exact ⟨by simp [zY, Ver.zero], by simp [zY, Ver.zero]⟩
      · exact relV_short _
def nQ (l : List Sp) (k : Nat) : List Sp := ((l.take k).map jD).filter (·.may)
theorem turnL_step {l : List Sp} {k : Nat} (hk : k < l.length) {s : Sp} (hs : l[k] = s) : nQ l (k + 1) = nQ l k ++ (if (jD s).may then [jD s] else []) := by
  unfold nQ
  rw [List.take_succ_eq_append_getElem hk, List.map_append, List.filter_append, hs]
  congr 1
  show List.filter _ [jD s] = _
  cases h : (jD s).may <;> simp [h]
theorem turnL_len (l : List Sp) (k : Nat) : (nQ l k).length ≤ k := by
  unfold nQ
  refine Nat.le_trans (List.length_filter_le _ _) ?_
  rw [List.length_map, List.length_take]; omega
structure MkI (l : List Sp) (k : Nat) (u : Value) (acc : List Sp) (ob : List Blk) : Prop where
  le : k ≤ l.length
  sl : SlS u acc ob
  eq : acc = nQ l k
theorem MkI.keep {l : List Sp} {k : Nat} {u : Value} {acc : List Sp} {ob : List Blk} (h : MkI l k u acc ob) (hk : k < l.length) {s : Sp} {x y : Cu} (hs : l[k] = s) (hx : kC s.lo = x) (hy : kC s.hi = y) (hm : (Sp.mk x y).may = false) : MkI l (k + 1) u acc ob :=
  ⟨hk, h.sl, by rw [turnL_step hk hs, show jD s = ⟨x, y⟩ from by unfold jD; rw [hx, hy], hm, h.eq]; simp⟩
theorem MkI.grow {l : List Sp} {k : Nat} {u u2 : Value} {acc : List Sp} {ob ob2 : List Blk} (h : MkI l k u acc ob) (hk : k < l.length) {s : Sp} {x y : Cu} (hs : l[k] = s) (hx : kC s.lo = x) (hy : kC s.hi = y) (hm : (Sp.mk x y).may = true) (h2 : Sl 80 14 u2 (acc.length + 1) (acc.flatMap yT ++ yT ⟨x, y⟩) ob2) : MkI l (k + 1) u2 (acc ++ [⟨x, y⟩]) ob2 :=
  ⟨hk, h2.to (by simp) (by simp), by rw [turnL_step hk hs, show jD s = ⟨x, y⟩ from by unfold jD; rw [hx, hy], hm, ← h.eq, if_pos rfl]⟩
theorem turnL_may (l : List Sp) (k : Nat) : ∀ s ∈ nQ l k, s.may = true := fun s hs => by
  unfold nQ at hs
  exact (List.mem_filter.1 hs).2
theorem own_drop {M : List Nat} {W w : World} {x y z : Blk} {A : List Blk} (h : Own M W w ([x, y] ++ A ++ [z])) : Own M W w (A ++ [z]) := h.sublist (by rw [List.append_assoc]; exact List.sublist_append_right [x, y] _)
end
section
theorem altRel_next {l : List Co} {k : Nat} (hk : k < l.length) {c : Co} (hc : l[k] = c) : xK (l.take (k + 1)) = wC (xK (l.take k)) c.region := by
  rw [List.take_succ_eq_append_getElem hk, hc, fC]
theorem altZone_next {l : List Co} {k : Nat} (hk : k < l.length) {c : Co} (hc : l[k] = c) : xI (l.take (k + 1)) = orL (xI (l.take k)) c.zone := by
  rw [List.take_succ_eq_append_getElem hk, hc, dF]
theorem orAll_next {r : List (List Co)} {i : Nat} (hi : i < r.length) {a : List Co} (ha : r[i] = a) : x5 (r.take (i + 1)) = orT (x5 (r.take i)) (x1 a) := by
  rw [List.take_succ_eq_append_getElem hi, ha, uO]
theorem hJ (l : List Co) (k : Nat) (h : l.length ≤ 1000) : RF (xK (l.take k)) 4000 := (vV _).le (by rw [List.length_take]; omega)
theorem dG (l : List Co) (k : Nat) (h : l.length ≤ 1000) : RF (xI (l.take k)) 4000 := (wA _).le (by rw [List.length_take]; omega)
theorem orAll_le {r : List (List Co)} (h : fewR r = true) (i : Nat) : SF (x5 (r.take i)) 198 := by
  obtain ⟨h1, h2⟩ := fewR.facts h
  refine (orAll_sf (n := 6) _ fun a ha => ((fewA.facts (h2 a (List.mem_of_mem_take ha))).1).2).le ?_
  rw [List.length_take]
  show min i r.length * 33 ≤ 198
  omega
section
variable {M : List Nat} {W w : World}
theorem own_tail {A B C : List Blk} (h : Own M W w ((A ++ B) ++ C)) : Own M W w (B ++ C) := by
  rw [List.append_assoc] at h
  exact Own.sub A h
end
theorem fine_get {s : List UInt8} (h : yW s = 0) : FineR ((zM s).getD []) := by
  cases hp : zM s with
  | none => rcases err_none hp with e | e <;> rw [e] at h <;> exact absurd h (by decide)
  | some r => exact fine_few (rgMay.facts (jA hp).2.1).1
theorem get_err {s : List UInt8} (h : ¬ yW s = 0) : zU ((zM s).getD []) = g9 := by
  cases hp : zM s with
  | none => rfl
  | some r => exact absurd (jA hp).1 h
end
section
def wideG : List UInt8 → List UInt8
  | [] => []
  | b :: t => (if b = 44 then [32] else []) ++ b :: ((if b = 44 ∨ (b = 124 ∧ t ≠ [] ∧ ¬ t.head? = some 124) then [32, 32] else []) ++ wideG t)
def wideA : List Co → List UInt8
  | [] => []
  | [c] => c.print
  | c :: d :: a => c.print ++ ([32, 44, 32, 32, 32] ++ wideA (d :: a))
def genA (l : List Int) (i a : Nat) : List Co := (List.range ((plc (atL l (i + 1 + a)) 3).toNat + 1)).map fun k => genCo l (i + 4 + 21 * a + 7 * k)
def genR0 (l : List Int) (i : Nat) : List (List Co) := (List.range ((plc (atL l i) 3).toNat + 1)).map fun a => genA l i a
def genRg (l : List Int) (i : Nat) : List (List Co) := if rgMay (genR0 l i) then genR0 l i else [[genCo l (i + 4)]]
end
section
instance : DecidableEq St := fun a b => decidable_of_iff (a.rel = b.rel ∧ a.pre = b.pre) ⟨fun h => St.eq h.1 h.2, fun h => by rw [h]; exact ⟨rfl, rfl⟩⟩
theorem same_g (a b : St) : (decide (a.rel = b.rel) && decide (a.pre = b.pre)) = decide (a = b) := by
  rw [← Bool.decide_and]; exact decide_eq_decide.2 ⟨fun h => St.eq h.1 h.2, fun h => by rw [h]; exact ⟨rfl, rfl⟩⟩
end
section
theorem altsL_index : ∀ (s acc : List UInt8), xG acc s = if Lib.index s [124, 124] = -1 then [acc ++ s] else (acc ++ s.take (Lib.index s [124, 124]).toNat) :: xG [] (s.drop ((Lib.index s [124, 124]).toNat + 2))
  | [], acc => by simp [xG, Lib.index]
  | [c], acc => by simp [xG, Lib.index, List.isPrefixOf]
  | c :: d :: r, acc => by
    by_cases h : c = 124 ∧ d = 124
    · obtain ⟨rfl, rfl⟩ := h
      have e : Lib.index (124 :: 124 :: r) [124, 124] = 0 := by simp [Lib.index, List.isPrefixOf]
      rw [e, xG, if_pos ⟨rfl, rfl⟩, if_neg (by decide)]; simp
    · have hp : List.isPrefixOf ([124, 124] : List UInt8) (c :: d :: r) = false := by
        rw [List.isPrefixOf, List.isPrefixOf, List.isPrefixOf]
        by_cases hc : c = 124
        · have hd : ¬ d = 124 := fun q => h ⟨hc, q⟩
          have : ((124 : UInt8) == d) = false := beq_eq_false_iff_ne.2 (Ne.symm hd)
          simp [this]
        · have : ((124 : UInt8) == c) = false := beq_eq_false_iff_ne.2 (Ne.symm hc)
          simp [this]
      have ge := Lib.index_ge (d :: r) [124, 124]
      rw [xG, if_neg h, altsL_index (d :: r) (acc ++ [c])]
      have e : Lib.index (c :: d :: r) [124, 124] = if Lib.index (d :: r) [124, 124] = -1 then -1 else Lib.index (d :: r) [124, 124] + 1 := by
        conv => lhs; rw [Lib.index]
        rw [hp, if_neg (by decide)]
        simp
      rw [e]
      generalize Lib.index (d :: r) [124, 124] = n at ge
      by_cases hn : n = -1
      · subst hn; simp
      · rw [if_neg hn, if_neg hn, if_neg (by omega)]
        have e2 : (n + 1).toNat = n.toNat + 1 := by omega
        rw [e2, List.take_succ_cons, show n.toNat + 1 + 2 = (n.toNat + 2) + 1 from by omega, List.drop_succ_cons]
        simp
theorem splitK_from (sep : List UInt8) : ∀ (f : Nat) (s : List UInt8), s.length < f → Lib.splitK sep 0 (Lib.countFrom sep f s) s = if Lib.index s sep = -1 then [s] else s.take (Lib.index s sep).toNat :: Lib.splitK sep 0 (Lib.countFrom sep (f - 1) (s.drop ((Lib.index s sep).toNat + sep.length))) (s.drop ((Lib.index s sep).toNat + sep.length))
  | f + 1, s, h => by
    rw [Lib.countFrom]
    by_cases q : Lib.index s sep = -1
    · rw [if_pos (by simp [q]), if_pos q, Lib.splitK]
    · rw [if_neg (by simp [q]), if_neg q, Nat.add_comm 1, Lib.splitK, if_neg (by simp [q]), Nat.add_zero]; rfl
theorem alts_from : ∀ (f : Nat) (s : List UInt8), s.length < f → Lib.splitK [124, 124] 0 (Lib.countFrom [124, 124] f s) s = xG [] s
  | f + 1, s, h => by
    rw [splitK_from _ _ _ h, altsL_index s []]
    by_cases q : Lib.index s [124, 124] = -1
    · rw [if_pos q, if_pos q]; rfl
    · have hr := Lib.index_room s [124, 124] (by have := Lib.index_ge s [124, 124]; omega)
      rw [if_neg q, if_neg q]
      show _ :: Lib.splitK [124, 124] 0 (Lib.countFrom [124, 124] f _) _ = _
      rw [alts_from f _ (by rw [List.length_drop]; simp only [List.length_cons, List.length_nil]; simp only [List.length_cons, List.length_nil] at hr; have := Lib.index_ge s [124, 124]; omega)]
      rfl
theorem split_alts (s : List UInt8) : Lib.splitK [124, 124] 0 (Lib.count s [124, 124]) s = xG [] s := alts_from _ s (Nat.lt_succ_self _)
theorem cut_index (b : UInt8) (s : List UInt8) : yR b [] s = if Lib.index s [b] = -1 then [s] else s.take (Lib.index s [b]).toNat :: yR b [] (s.drop ((Lib.index s [b]).toNat + 1)) := by
  have hc := tO b s
  have hge := Lib.index_ge s [b]
  rw [jW, ← hc]
  unfold Lib.cut
  by_cases h : Lib.index s [b] = -1
  · have h2 : ¬ 0 ≤ Lib.index s [b] := by omega
    simp [h]
  · have h2 : 0 ≤ Lib.index s [b] := by omega
    simp [h, h2]
theorem cuts_from (b : UInt8) : ∀ (f : Nat) (s : List UInt8), s.length < f → Lib.splitK [b] 0 (Lib.countFrom [b] f s) s = yR b [] s
  | f + 1, s, h => by
    rw [splitK_from _ _ _ h, cut_index b s]
    by_cases q : Lib.index s [b] = -1
    · rw [if_pos q, if_pos q]
    · have hr := Lib.index_room s [b] (by have := Lib.index_ge s [b]; omega)
      rw [if_neg q, if_neg q]
      show _ :: Lib.splitK [b] 0 (Lib.countFrom [b] f _) _ = _
      rw [cuts_from b f _ (by rw [List.length_drop]; simp only [List.length_cons, List.length_nil]; simp only [List.length_cons, List.length_nil] at hr; have := Lib.index_ge s [b]; omega)]
      rfl
theorem split_cuts (b : UInt8) (s : List UInt8) : Lib.splitK [b] 0 (Lib.count s [b]) s = yR b [] s := cuts_from b _ s (Nat.lt_succ_self _)
theorem splitB_list (sep : List UInt8) (k : Nat) (s : List UInt8) : Lib.splitB (mkS sep) 0 k (mkS s) = (Lib.splitK sep 0 k s).map mkS := by
  have h := Lib.splitB_data (mkS sep) 0 k (mkS s)
  rw [mk_data, mk_data] at h
  rw [← h, List.map_map]
  refine ((List.map_congr_left fun x _ => ?_).trans (List.map_id _)).symm
  exact Lib.mk_data x
theorem splitB_alts (s : List UInt8) : Lib.splitB (mkS [124, 124]) 0 (Lib.countB (mkS s) (mkS [124, 124])) (mkS s) = (xG [] s).map mkS := by
  rw [splitB_list, show Lib.countB (mkS s) (mkS [124, 124]) = Lib.count s [124, 124] from by unfold Lib.countB; rw [mk_data, mk_data], split_alts]
theorem splitB_cuts (b : UInt8) (s : List UInt8) : Lib.splitB (mkS [b]) 0 (Lib.countB (mkS s) (mkS [b])) (mkS s) = (yR b [] s).map mkS := by
  rw [splitB_list, show Lib.countB (mkS s) (mkS [b]) = Lib.count s [b] from by unfold Lib.countB; rw [mk_data, mk_data], split_cuts]
theorem nN : ∀ (s : List UInt8), Lib.trimLeftB s 32 = kI s
  | [] => rfl
  | c :: l => by
    unfold Lib.trimLeftB
    rw [kI, List.dropWhile_cons]
    by_cases h : c = 32
    · subst h
      rw [if_pos (by decide), if_pos rfl]; exact nN l
    · rw [if_neg (by simp [h]), if_neg h]
def bareR (s : List UInt8) : List UInt8 := (kI s.reverse).reverse
theorem bareF_snoc {c : UInt8} (h : c ≠ 32) : ∀ (x : List UInt8), kI (x ++ [c]) = kI x ++ [c]
  | [] => by
    show kI [c] = [c]
    rw [kI]; exact if_neg h
  | d :: x => by
    rw [List.cons_append, kI, kI]
    by_cases q : d = 32
    · rw [if_pos q, if_pos q, bareF_snoc h x]
    · rw [if_neg q, if_neg q]; rfl
theorem pP : ∀ (x : List UInt8), kI (x ++ [32]) = if kI x = [] then [] else kI x ++ [32]
  | [] => by simp [kI]
  | d :: x => by
    rw [List.cons_append, kI, kI]
    by_cases q : d = 32
    · rw [if_pos q, if_pos q, pP x]
    · rw [if_neg q, if_neg q, if_neg (by simp)]; rfl
theorem bare_swap : ∀ (s : List UInt8), kI (bareR s) = bareR (kI s)
  | [] => rfl
  | c :: l => by
    have ih := bare_swap l
    by_cases h : c = 32
    · subst h
      rw [show kI (32 :: l) = kI l from by rw [kI, if_pos rfl], ← ih]
      unfold bareR
      rw [List.reverse_cons, pP]
      by_cases q : kI l.reverse = []
      · rw [if_pos q, q]
      · rw [if_neg q, List.reverse_append]
        show kI (32 :: (kI l.reverse).reverse) = _
        rw [kI, if_pos rfl]
    · rw [show kI (c :: l) = c :: l from by rw [kI, if_neg h]]
      unfold bareR
      rw [List.reverse_cons, bareF_snoc h, List.reverse_append]
      show kI (c :: (kI l.reverse).reverse) = c :: (kI l.reverse).reverse
      rw [kI, if_neg h]
theorem trim_bare (s : List UInt8) : Lib.trimB s 32 = xU s := by
  unfold Lib.trimB Lib.trimRightB
  have e : ∀ l : List UInt8, l.dropWhile (· == 32) = kI l := nN
  rw [e, nN]
  exact bare_swap s
def wD (r : List (List Co)) : List UInt8 := if fewR r then qZ r else []
theorem altText_ne {a : List Co} (h : fewA a = true) : kR a ≠ [] := by
  obtain ⟨h1, h2⟩ := fewA.facts h
  cases a with
  | nil => exact absurd h1.1 (by decide)
  | cons c l =>
    have hc : c.print ≠ [] := by
      rw [vG (h2 c (List.mem_cons_self ..))]
      exact text_ne (h2 c (List.mem_cons_self ..))
    unfold kR
    cases l with
    | nil => exact hc
    | cons d l => 
      rw [List.map_cons, List.map_cons, bM]
      intro e
      exact hc (List.append_eq_nil_iff.1 (List.append_eq_nil_iff.1 e).1).1
theorem rgText_ne {r : List (List Co)} (h : fewR r = true) : qZ r ≠ [] := by
  obtain ⟨h1, h2⟩ := fewR.facts h
  cases r with
  | nil => exact absurd h1.1 (by decide)
  | cons a l =>
    have hc := altText_ne (h2 a (List.mem_cons_self ..))
    unfold qZ
    cases l with
    | nil => exact hc
    | cons d l =>
      rw [List.map_cons, List.map_cons, bM]
      intro e
      exact hc (List.append_eq_nil_iff.1 (List.append_eq_nil_iff.1 e).1).1
theorem textR_nil {r : List (List Co)} : wD r = [] ↔ fewR r = false := by
  unfold wD
  cases h : fewR r with
  | false => simp
  | true => simp [rgText_ne h]
theorem print_text (r : List (List Co)) : d6 r = if 96 < (wD r).length then [] else wD r := by
  unfold d6 rgMay wD
  cases fewR r with
  | false => simp
  | true =>
    by_cases h : (qZ r).length ≤ 96
    · simp [h, Nat.not_lt.2 h]
    · simp [h, Nat.lt_of_not_le h]
theorem print_nil (r : List (List Co)) : d6 r = [] ↔ rgMay r = false := by
  unfold d6
  cases h : rgMay r with
  | false => simp
  | true => simp [rgText_ne (rgMay.facts h).1]
end
section
theorem grow_inner (B b n : Nat) (w : World) (hB : B ≤ b) (hbk : w.heap[b]? = some (.cells #[.pointer (some ⟨b, 0, none⟩), .slice none 0 0] 139 (0, 0))) (hBw : B ≤ w.heap.size) (hn : n ≤ 281474976710656) :
    Calls Tryz.prog 169 #[.pointer (some ⟨b, 0, none⟩), .int .i64 n] w fun e w' => e = .returned (.tuple #[]) ∧ (Lib.BuilderAt 139 5 B b (.pointer (some ⟨b, 0, none⟩)) [] w' ∧ Below B w w') := by
  obtain ⟨cs, hrun, hle, hmax⟩ := Lib.run_makeNoZero (P := Tryz.prog) w.drew #[3] 137 5 Tryz.underlying137 n hn
  have hlt : b < w.heap.size := by
    rcases Nat.lt_or_ge b w.heap.size with h | h
    · exact h
    · simp [Array.getElem?_eq_none h] at hbk
  have hw : IntKind.i64.wrap (IntKind.i64.wrap 0 + (n : Int)) = n := by
    rw [IntKind.wrap_i64, IntKind.wrap_i64]; omega
  have hcall : (callFunc 199 #[.int .i64 (IntKind.i64.wrap (IntKind.i64.wrap 0 + (n : Int)))]).run Tryz.prog w.drew = .ok (.value (.slice (some ⟨w.drew.heap.size, 0, none⟩) n cs.size)) (w.drew.drew.drew.alloc (.cells cs 5)) := by
    rw [hw, run_callFunc_extern Tryz.func199 (by kernel_rfl) (by kernel_rfl) (by kernel_rfl) (e := Extern.BytealgMakeNoZero.makeNoZero #[3] #[137]) (by kernel_rfl), hrun]
    rfl
  have c1 : w.drew.cell? ⟨b, 1, none⟩ = some (.slice none 0 0) := by
    have : w.drew.heap[b]? = _ := hbk
    rw [Lib.cell_of_heap this]; rfl
  have hb2 : (w.alloc (.cells cs 5)).heap[b]? = _ := (Lib.alloc_old w _ b hlt).trans hbk
  have c2 : (w.alloc (.cells cs 5)).cell? ⟨b, 1, none⟩ = some (.slice none 0 0) := by rw [Lib.cell_of_heap hb2]; rfl
  have f2 : (w.alloc (.cells cs 5)).frozen? ⟨b, 1, none⟩ = false := Lib.frozen_of_heap hb2 1
  have hcopy : ∀ W : World, (Builtin.copy_ #[137, 137] 3 #[.slice (some ⟨w.heap.size, 0, none⟩) 0 cs.size, .slice none 0 0]).run Tryz.prog W = .ok (goInt 0) W :=
    fun W => run_copy_none W 137 137 3 5 _ _ 0 cs.size 0 0 Tryz.underlying137 (by kernel_rfl) rfl
  clear hw hlt hb2
  have mixed : Tryz.prog.follows .mixedOrders = true := by kernel_rfl
  go_enter Tryz.func169, Tryz.ntmps169
  go_wp2
  have hfin := Lib.grown_fresh (T := 139) (e := 5) (cs := cs) hB hbk hBw (hmax (by unfold maxLen; omega)) (by decide)
  have hbel : Below B w ((w.alloc (.cells cs 5)).setCell ⟨b, 1, none⟩ (.slice (some ⟨w.heap.size, 0, none⟩) 0 cs.size)).drew.drew.drew := ((((Below.refl B w).alloc hBw _).setCell (p := ⟨b, 1, none⟩) hB _).drew).drew.drew
  go_region_o
  all_goals (go_wp2; go_end0; exact ⟨rfl, hfin.1, hbel⟩)
theorem grow_fresh (B b n : Nat) (w : World) (hB : B ≤ b) (hbk : w.heap[b]? = some (.cells #[.pointer none, .slice none 0 0] 139 (0, 0))) (hBw : B ≤ w.heap.size) (hn : n ≤ 281474976710656) :
    Calls Tryz.prog 120 #[.pointer (some ⟨b, 0, none⟩), .int .i64 n] w fun e w' => e = .returned (.tuple #[]) ∧ (Lib.BuilderAt 139 5 B b (.pointer (some ⟨b, 0, none⟩)) [] w' ∧ Below B w w') := by
  obtain ⟨w1, hw1⟩ : ∃ x, x = w.setCell ⟨b, 0, none⟩ (.pointer (some ⟨b, 0, none⟩)) := ⟨_, rfl⟩
  have hbk1 : w1.heap[b]? = some (.cells #[.pointer (some ⟨b, 0, none⟩), .slice none 0 0] 139 (0, 0)) := by
    rw [hw1]; simp [World.setCell, Array.getElem?_modify, hbk]
  have hs1 : B ≤ w1.heap.size := by rw [hw1]; simpa [World.setCell] using hBw
  have hb1 : Below B w w1 := by rw [hw1]; exact (Below.refl B w).setCell (p := ⟨b, 0, none⟩) hB _
  have hc : Calls Tryz.prog 168 #[.pointer (some ⟨b, 0, none⟩)] w fun e w' => e = .returned (.tuple #[]) ∧ w' = w1 := by
    rw [hw1]
    exact dK b w (by rw [Lib.cell_of_heap hbk]; rfl) (by simp [World.shape?, hbk]) (Lib.frozen_of_heap hbk 0)
  clear hw1
  have c1 : w1.cell? ⟨b, 1, none⟩ = some (.slice none 0 0) := by rw [Lib.cell_of_heap hbk1]; rfl
  have c1' : w1.drew.cell? ⟨b, 1, none⟩ = some (.slice none 0 0) := c1
  have hU : Lib.BuilderAt 139 5 B b (.pointer (some ⟨b, 0, none⟩)) [] w1 := ⟨hB, .slice none 0 0, hbk1, World.ownsRow_nil _ _ _ _, by simp [Value.ownBlock]⟩
  have mixed : Tryz.prog.follows .mixedOrders = true := by kernel_rfl
  go_enter Tryz.func120, Tryz.ntmps120
  go_wp2_with (go_at_call 168; refine hc.mono ?_; rintro e w' ⟨rfl, hw⟩; rw [hw])
  go_region_o
  all_goals go_wp2_with (go_at_call 169; refine (grow_inner B b n w1.drew hB hbk1 hs1 hn).mono ?_; rintro e w' ⟨rfl, h1, h2⟩)
  all_goals first
    | (go_end0; exact ⟨rfl, h1, hb1.drew.trans h2⟩)
    | (go_end0; exact ⟨rfl, hU.drew, hb1.drew⟩)
end
section
structure HasLib (w : World) : Prop where
  tab : HasTab w
  max : ∃ m, w.cell? ⟨0, 0, none⟩ = some (.int .i64 m)
theorem HasLib.on {w w' : World} (h : HasLib w) (hb : Below w.heap.size w w') : HasLib w' :=
  ⟨h.tab.on hb, let ⟨m, hm⟩ := h.max; ⟨m, (hb.cell (World.block_lt_of_cell? _ _ hm)).trans hm⟩⟩
theorem hasLib_of {W : World} (ht : HasTab W) (hS : W.ShapedOpen Tryz.prog) : HasLib W := ⟨ht, Tryz.laysM143.s1_3 W hS⟩
theorem split_own (s sep : List UInt8) (l : List (List UInt8)) (W : World) (h0 : 1 ≤ sep.length) (hs : s.length ≤ 1000000) (hl : Lib.splitB (mkS sep) 0 (Lib.countB (mkS s) (mkS sep)) (mkS s) = l.map mkS) (ht : HasLib W) :
    Calls Tryz.prog 36 #[.string (mkS s), .string (mkS sep)] W fun e w' => ∃ v' ob', e = .returned v' ∧ SlT v' l ob' ∧ Own [] W w' ob' := by
  obtain ⟨m, hm⟩ := ht.max
  have hz : (mkS sep).size = sep.length := xR sep
  have hlen := Lib.splitB_all (mkS sep) (by omega) 0 _ (mkS s) rfl
  have hle := Lib.countB_le (mkS sep) (by omega) (mkS s).size (mkS s) (Nat.le_refl _)
  rw [xR] at hle
  rw [hl, List.length_map] at hlen
  refine (Tryz.strings_Split (mkS s) (mkS sep) m W (by rw [xR]; omega) hm (by omega)).mono fun e w' ⟨he, hw⟩ => ?_
  subst hw
  rw [hl, List.map_map] at *
  rw [← hlen] at he
  refine ⟨_, _, he, slt_lit l W.heap.size _ (by unfold vK; rfl) (by unfold maxLen; omega), (Own.start [] W).alloc _ _⟩
theorem split_bars (s : List UInt8) (W : World) (hs : s.length ≤ 1000000) (ht : HasLib W) :
    Calls Tryz.prog 36 #[.string (mkS s), .string ⟨#[124, 124]⟩] W fun e w' => ∃ v' ob', e = .returned v' ∧ SlT v' (xG [] s) ob' ∧ Own [] W w' ob' :=
  split_own s [124, 124] (xG [] s) W (by decide) hs (splitB_alts s) ht
theorem split_comma (s : List UInt8) (W : World) (hs : s.length ≤ 1000000) (ht : HasLib W) :
    Calls Tryz.prog 36 #[.string (mkS s), .string ⟨#[44]⟩] W fun e w' => ∃ v' ob', e = .returned v' ∧ SlT v' (yR 44 [] s) ob' ∧ Own [] W w' ob' :=
  split_own s [44] (yR 44 [] s) W (by decide) hs (splitB_cuts 44 s) ht
theorem trim_any (s : List UInt8) (W : World) (hs : s.length ≤ 1000000) :
    Calls Tryz.prog 38 #[.string (mkS s), .string ⟨#[32]⟩] W fun e w' => e = .returned (.string (mkS (xU s))) ∧ Below W.heap.size W w' :=
  (Tryz.strings_Trim_one (mkS s) 32 (by decide) W (by rw [xR]; omega)).mono fun e w' ⟨he, hw⟩ =>
    ⟨by rw [he, mk_data, trim_bare]; rfl, hw.elim (fun q => q ▸ Below.refl _ _) (fun q => q ▸ (Below.refl _ _).drew)⟩
def vF (sep : List UInt8) : List (List UInt8) → List UInt8
  | [] => []
  | x :: r => sep ++ x ++ vF sep r
theorem joinB_T (sep : List UInt8) : ∀ (r : List (List UInt8)) (x : List UInt8), gC sep (x :: r) = x ++ vF sep r
  | [], x => by simp [gC, vF]
  | y :: r, x => by rw [bM, joinB_T sep r y, vF]; simp only [List.append_assoc]
theorem joinT_snoc (sep x : List UInt8) : ∀ (r : List (List UInt8)), vF sep (r ++ [x]) = vF sep r ++ (sep ++ x)
  | [] => by simp [vF]
  | y :: r => by rw [List.cons_append, vF, vF, joinT_snoc sep x r]; simp only [List.append_assoc]
theorem joinT_len {sep : List UInt8} (hs : sep.length ≤ 100) : ∀ {r : List (List UInt8)}, (∀ x ∈ r, x.length ≤ 1000000) → (vF sep r).length ≤ r.length * 1000100
  | [], _ => by simp [vF]
  | y :: r, h => by
    have h1 := joinT_len hs (r := r) fun x hx => h x (List.mem_cons_of_mem _ hx)
    have h2 := h y (List.mem_cons_self ..)
    rw [vF]; simp only [List.length_append, List.length_cons]; omega
theorem bc_two (x y z : List UInt8) : Lib.byteCells (x ++ (y ++ z)) = Lib.byteCells x ++ Lib.strCells (mkS y) ++ Lib.strCells (mkS z) := by
  rw [wG, wG, ← Lib.byteCells_append, ← Lib.byteCells_append, List.append_assoc]
theorem join_many (sep x0 : List UInt8) (r : List (List UInt8)) (b off cap : Nat) (w : World) (hc : ∀ j (h : j < (x0 :: r).length), w.cell? ⟨b, off + j, none⟩ = some (.string (mkS ((x0 :: r)[j]))))
    (hb : b < w.heap.size) (hr : 1 ≤ r.length) (hn : r.length ≤ 1000) (h0 : sep ≠ []) (hs : sep.length ≤ 100) (hx : ∀ x ∈ x0 :: r, x.length ≤ 1000000) (hcap : r.length + 1 ≤ cap) :
    Calls Tryz.prog 74 #[.slice (some ⟨b, off, none⟩) (r.length + 1) cap, .string (mkS sep)] w fun e w' => e = .returned (.string (mkS (gC sep (x0 :: r)))) ∧ Below w.heap.size w w' := by
  have HT := Lib.hid (show ∀ k, (x0 ++ vF sep (r.take k)).length ≤ 2000000000 from fun k => by
    have h1 := joinT_len hs (r := r.take k) fun x hm => hx x (List.mem_cons_of_mem _ (List.mem_of_mem_take hm))
    have h2 := hx x0 (List.mem_cons_self ..)
    have h3 : (r.take k).length ≤ 1000 := Nat.le_trans (by rw [List.length_take]; exact Nat.min_le_right ..) hn
    rw [List.length_append]; omega)
  have HC := Lib.hid hc
  have HX := Lib.hid hx
  have HJ := Lib.hid (joinB_T sep r x0)
  have hx0 : (mkS x0).size ≤ 1000000 := by rw [xR]; exact hx x0 (List.mem_cons_self ..)
  obtain ⟨S, hS⟩ : ∃ q, q = mkS sep := ⟨_, rfl⟩
  have hSz : S.size = sep.length := by rw [hS, xR]
  have hS1 : 1 ≤ S.size := by cases sep with
    | nil => exact absurd rfl h0
    | cons _ _ => rw [hSz]; simp
  have hS9 : S.size ≤ 100 := by omega
  rw [← hS]
  have HS := Lib.hid hS
  obtain ⟨N, hN⟩ : ∃ q, q = r.length + 1 := ⟨_, rfl⟩
  rw [← hN] at hcap ⊢
  have hcast : ((N : Int) - 1) = (r.length : Int) := by omega
  have hmul : S.size * r.length ≤ 100000 := Nat.le_trans (Nat.mul_le_mul hS9 hn) (by decide)
  have hdv : ¬ (9223372036854775807 / ((N : Int) - 1) ≤ (S.size : Int)) := by
    rw [hcast]
    intro q
    have h1 : (9223372036854775807 : Int) < ((S.size : Int) + 1) * (r.length : Int) :=
      Int.lt_mul_of_ediv_lt (by omega) (Int.lt_add_one_of_le q)
    have h2 : ((S.size : Int) + 1) * (r.length : Int) = ((S.size * r.length + r.length : Nat) : Int) := by rw [Int.add_mul, Int.one_mul]; push_cast; rfl
    omega
  have hprod : wrap64 ((S.size : Int) * ((N : Int) - 1)) = ((S.size * r.length : Nat) : Int) := by
    rw [hcast, show (S.size : Int) * (r.length : Int) = ((S.size * r.length : Nat) : Int) from by push_cast; rfl]
    exact IntWalk.wrap64_in _ ⟨by omega, by omega⟩
  generalize S.size * r.length = M at hmul hprod
  have hne0 : ((N : Int) == 0) = false := beq_eq_false_iff_ne.2 (by omega)
  have hne1 : ((N : Int) == 1) = false := beq_eq_false_iff_ne.2 (by omega)
  have hN2 : 2 ≤ N := by omega
  have hN9 : N ≤ 1001 := by omega
  have HN := Lib.hid hN
  have H0 := Lib.hid h0
  clear hc hx hs h0 hS hSz hcast hN hr hn
  go_enter Tryz.func74, Tryz.ntmps74
  go_wp2
  go_loop [5, 41] (fun n i => ∃ (k t : Nat), k ≤ N ∧ i = .int .i64 k ∧ n = .int .i64 t ∧ t ≤ 100000 + k * 1000000) (fun _ i => N - (intOf i).toNat)
  case atStart => exact ⟨0, M, Nat.zero_le _, rfl, rfl, by omega⟩
  case round =>
    obtain ⟨k, t, hk, rfl, rfl, ht⟩ := hrel
    by_cases hkn : k < N
    · have hkl : k < (x0 :: r).length := by have := HN.out; rw [List.length_cons]; omega
      obtain ⟨y, hy⟩ : ∃ q, q = mkS ((x0 :: r)[k]) := ⟨_, rfl⟩
      have hyz : y.size ≤ 1000000 := by rw [hy, xR]; exact HX.out _ (List.getElem_mem hkl)
      have hck : w.cell? ⟨b, off + k, none⟩ = some (.string y) := by rw [hy]; exact HC.out k hkl
      clear hy hkl
      go_wp2
      exact ⟨⟨k + 1, t + y.size, by omega, by go_num, by go_num, by omega⟩, by simp [intOf]; omega⟩
    · obtain rfl : k = N := by omega
      go_wp2_with (go_at_call 120; refine (grow_fresh w.heap.size w.heap.size t _ (Nat.le_refl _) (heap_alloc_new w _) (by simp) (by omega)).mono ?_)
      rintro e w1 rfl h1 hb1
      have hb1' : Below w.heap.size w w1 := ((Below.refl w.heap.size w).alloc (Nat.le_refl _) _).trans hb1
      have hsz1 := hb1'.size
      have hc0 : w1.cell? ⟨b, off, none⟩ = some (.string (mkS x0)) := by
        rw [hb1'.cell (p := ⟨b, off, none⟩) hb]
        exact HC.out 0 (by simp)
      have H1 := Lib.hid (Or.inr h1 : Lib.IsBuilder 139 5 w.heap.size w.heap.size [] w1)
      have HB1 := Lib.hid hb1'
      clear h1 hb1 hb1' ht hprod hmul hdv hkn hk
      obtain ⟨X, hX⟩ : ∃ q, q = mkS x0 := ⟨_, rfl⟩
      rw [← hX] at hc0 hx0
      have HX0 := Lib.hid hX
      clear hX
      go_wp2_with (go_at_call 121; refine (qH w.heap.size w.heap.size [] X w1 H1.out ?_ hsz1).mono ?_)
      · simp; omega
      rintro e w2 ⟨rfl, h2, hb2⟩
      have H2 := Lib.hid (show Lib.IsBuilder 139 5 w.heap.size w.heap.size (Lib.byteCells (x0 ++ vF sep (r.take 0))) w2 from by
        rw [HX0.out, wG, List.nil_append] at h2
        rw [List.take_zero, vF, List.append_nil]; exact Or.inr h2)
      have HB2 := Lib.hid (HB1.out.trans hb2)
      clear h2 hb2 hsz1 hc0
      have hrk : k - 1 = r.length := by have := HN.out; omega
      go_wp2
      go_loopw [65] (fun i wr => ∃ j : Nat, j ≤ r.length ∧ i = .int .i64 j ∧ Hid (Lib.IsBuilder 139 5 w.heap.size w.heap.size (Lib.byteCells (x0 ++ vF sep (r.take j))) wr) ∧ Hid (Below w.heap.size w wr)) (fun i _ => r.length - (intOf i).toNat)
      case atStart => exact ⟨0, Nat.zero_le _, rfl, H2, HB2⟩
      case round =>
        obtain ⟨j, hj, rfl, HB, HW⟩ := hrel
        have hsz := HW.out.size
        by_cases hjr : j < r.length
        · obtain ⟨y, hy⟩ : ∃ q, q = mkS r[j] := ⟨_, rfl⟩
          have hyz : y.size ≤ 1000000 := by rw [hy, xR]; exact HX.out _ (List.mem_cons_of_mem _ (List.getElem_mem hjr))
          have hck : wr.cell? ⟨b, off + 1 + j, none⟩ = some (.string y) := by
            rw [HW.out.cell (p := ⟨b, off + 1 + j, none⟩) hb, hy, show off + 1 + j = off + (j + 1) from by omega]
            exact HC.out (j + 1) (by simp; omega)
          have HY := Lib.hid hy
          have hlen : (Lib.byteCells (x0 ++ vF sep (r.take j))).length ≤ 2000000000 := by rw [Lib.byteCells_length]; exact HT.out j
          have HE := Lib.hid (show Lib.byteCells (x0 ++ vF sep (r.take j)) ++ Lib.strCells S ++ Lib.strCells y = Lib.byteCells (x0 ++ vF sep (r.take (j + 1))) from by
            rw [HS.out, HY.out, List.take_succ_eq_append_getElem hjr, joinT_snoc, ← List.append_assoc, bc_two])
          clear hy
          go_wp2_with (go_at_call 121; refine (qH w.heap.size w.heap.size _ S wr HB.out ?_ hsz).mono ?_)
          · omega
          rintro e w3 ⟨rfl, h3, hb3⟩
          have hsz3 := Nat.le_trans hsz hb3.size
          have H3 := Lib.hid h3
          have HB3 := Lib.hid hb3
          clear h3 hb3
          go_wp2_with (go_at_call 121; refine (qH w.heap.size w.heap.size _ y w3 (Or.inr H3.out) ?_ hsz3).mono ?_)
          · rw [List.length_append, Lib.strCells_length]; omega
          rintro e w4 ⟨rfl, h4, hb4⟩
          rw [HE.out] at h4
          have H4 := Lib.hid (Or.inr h4 : Lib.IsBuilder 139 5 w.heap.size w.heap.size (Lib.byteCells (x0 ++ vF sep (r.take (j + 1)))) w4)
          have HB4 := Lib.hid ((HW.out.trans HB3.out).trans hb4)
          clear h4 hb4
          go_wp2
          go_roundw
          case rel => exact ⟨j + 1, by omega, by go_num, H4, HB4⟩
          case measure => simp [intOf]; omega
        · obtain rfl : j = r.length := by omega
          have HB' := HB.out
          rw [List.take_length, ← HJ.out] at HB'
          have hne : gC sep (x0 :: r) ≠ [] := by
            rw [HJ.out]
            cases r with
            | nil => simp at hrk; omega
            | cons y r => rw [vF]; intro q; exact H0.out (List.append_eq_nil_iff.1 (List.append_eq_nil_iff.1 (List.append_eq_nil_iff.1 q).2).1).1
          have HBF := Lib.hid HB'
          clear HB'
          go_wp2_with (go_at_call 122; refine (string_any w.heap.size w.heap.size _ _ HBF.out hne).mono ?_)
          rintro e w5 ⟨rfl, hb5⟩
          go_wp2
          go_ret
          exact ⟨rfl, HW.out.trans hb5⟩
theorem join_one (sep x : List UInt8) (A : Option Addr) (cap : Nat) (w : World) (hv : Reads nU w w.heap.size A [x]) (hcap : 1 ≤ cap) :
    Calls Tryz.prog 74 #[.slice A 1 cap, .string (mkS sep)] w fun e w' => e = .returned (.string (mkS x)) ∧ Below w.heap.size w w' := by
  obtain ⟨b, off, rfl, hb, hcell⟩ := hv (by simp)
  have hc : w.cell? ⟨b, off, none⟩ = some (.string (mkS x)) := hcell 0 _ rfl
  go_enter Tryz.func74, Tryz.ntmps74
  go_wp2
  go_ret
  exact ⟨rfl, Below.refl _ _⟩
theorem join_none (sep : List UInt8) (A : Option Addr) (cap : Nat) (w : World) :
    Calls Tryz.prog 74 #[.slice A 0 cap, .string (mkS sep)] w fun e w' => e = .returned (.string (mkS [])) ∧ Below w.heap.size w w' := by
  go_enter Tryz.func74, Tryz.ntmps74
  go_wp2
  go_ret
  exact ⟨rfl, Below.refl _ _⟩
theorem sjoin_any (sep : List UInt8) (l : List (List UInt8)) (A : Option Addr) (cap : Nat) (w : World) (hv : Reads nU w w.heap.size A l) (h0 : sep ≠ []) (hs : sep.length ≤ 100) (hn : l.length ≤ 1000) (hx : ∀ x ∈ l, x.length ≤ 1000000) (hcap : l.length ≤ cap) :
    Calls Tryz.prog 74 #[.slice A l.length cap, .string (mkS sep)] w fun e w' => e = .returned (.string (mkS (gC sep l))) ∧ Below w.heap.size w w' := by
  match l, hv, hn, hx, hcap with
  | [], _, _, _, _ => exact join_none sep A cap w
  | [x], hv, _, _, hcap => exact join_one sep x A cap w hv hcap
  | x :: y :: r, hv, hn, hx, hcap =>
    obtain ⟨b, off, rfl, hb, hcell⟩ := hv (by simp)
    refine join_many sep x (y :: r) b off cap w (fun j hj => ?_) hb (by simp) (by simp at hn ⊢; omega) h0 hs hx hcap
    refine hcell j _ ?_
    rw [← uE]; unfold vK
    rw [List.getElem?_map, List.getElem?_eq_getElem hj]; rfl
theorem SlT.caps {A : Option Addr} {n cap : Nat} {l : List (List UInt8)} {ob : List Blk} (h : SlT (.slice A n cap) l ob) : n = l.length ∧ l.length ≤ cap := by
  rcases h.2 with ⟨h1, h2, _⟩ | ⟨g, c, cur, h1, _, h3, _⟩
  · injection h1 with q1 q2 q3
    exact ⟨by omega, by omega⟩
  · injection h1 with q1 q2 q3
    exact ⟨q2, by omega⟩
theorem SlT.add {u : Value} {l : List (List UInt8)} {x : List UInt8} {ob : List Blk} (h : Sl 9 1 u (l.length + 1) (vK l ++ nU x) ob) : SlT u (l ++ [x]) ob :=
  Sl.to h (by simp) (by unfold vK; rw [List.map_append]; rfl)
end
section
def jU : Nat → List UInt8 → List (List UInt8)
  | 0, s => [s]
  | k + 1, s => if (y8 46 s).2.2 then (y8 46 s).1 :: jU k (y8 46 s).2.1 else [s]
theorem pcsK_len : ∀ (k : Nat) (s : List UInt8), 1 ≤ (jU k s).length ∧ (jU k s).length ≤ k + 1
  | 0, s => ⟨Nat.le_refl _, Nat.le_refl _⟩
  | k + 1, s => by
    have h := pcsK_len k (y8 46 s).2.1
    unfold jU
    split
    · simp only [List.length_cons]; omega
    · simp only [List.length_cons, List.length_nil]; omega
theorem pcsK_mem : ∀ (k : Nat) (s : List UInt8), ∀ x ∈ jU k s, x.length ≤ s.length
  | 0, s, x, hx => by rw [List.mem_singleton.1 hx]; exact Nat.le_refl _
  | k + 1, s, x, hx => by
    unfold jU at hx
    have hl := cutAt_le 46 s
    split at hx
    · rcases List.mem_cons.1 hx with e | hx
      · rw [e]; omega
      · have := pcsK_mem k (y8 46 s).2.1 x hx; omega
    · rw [List.mem_singleton.1 hx]; exact Nat.le_refl _
theorem t8 : ∀ (k : Nat) (l : List (List UInt8)), l ≠ [] → l.length ≤ k + 1 → (∀ x ∈ l, (46 : UInt8) ∉ x) → jU k (yK 46 l) = l
  | _, [], h, _, _ => absurd rfl h
  | 0, [x], _, _, _ => rfl
  | k + 1, [x], _, _, h => by
    unfold jU
    show (if (y8 46 x).2.2 = true then _ else _) = _
    rw [uU 46 x (h x (List.mem_singleton.2 rfl))]
    exact if_neg Bool.false_ne_true
  | 0, x :: y :: r, _, hl, _ => by simp at hl
  | k + 1, x :: y :: r, _, hl, h => by
    have ih := t8 k (y :: r) (by simp) (by simpa using hl) fun z hz => h z (List.mem_cons_of_mem _ hz)
    unfold jU
    rw [yK, tN 46 _ _ (h x (List.mem_cons_self ..)), if_pos rfl]
    dsimp only
    rw [ih]
def sgo (s : List UInt8) : Nat → Int × List UInt8
  | 0 => (7, s)
  | k + 1 => if xF s (yC ((k + 1 : Nat) : Int)) = true ∧ (s.drop (yC ((k + 1 : Nat) : Int)).length).length < (sgo s k).2.length then (((k + 1 : Nat) : Int), s.drop (yC ((k + 1 : Nat) : Int)).length) else sgo s k
theorem sgo_le (s : List UInt8) : ∀ k, (sgo s k).2.length ≤ s.length
  | 0 => Nat.le_refl _
  | k + 1 => by
    unfold sgo
    split
    · show (s.drop _).length ≤ _; rw [List.length_drop]; omega
    · exact sgo_le s k
def jP (s : List UInt8) : List (List UInt8) := jU 2 (y8 45 (sgo s 8).2).1
def starP (s : List UInt8) : Bool := decide ((jP s).getLast? = some [42])
def v7 (s : List UInt8) : Co := ⟨if starP s then 9 else (sgo s 8).1, if starP s then ((jP s).length : Int) - 1 else ((jP s).length : Int), ⟨zP (tg (jP s) 0), zP (tg (jP s) 1), zP (tg (jP s) 2), (y8 45 (sgo s 8).2).2.1, []⟩⟩
theorem nob {d a : UInt8} {r t : List UInt8} (h : d ≠ a) : ¬ (xF (d :: r) (a :: t) = true) := by rw [qG h]; decide
theorem pZ {d : UInt8} {r : List UInt8} (h : kB d.toNat = true ∨ d = 42) : sgo (d :: r) 8 = (7, d :: r) := by
  have hd : ∀ a : UInt8, kB a.toNat = false → a ≠ 42 → d ≠ a := fun a ha h42 e => by
    subst e
    rcases h with h | h
    · rw [ha] at h; cases h
    · exact h42 h
  have hb : ∀ k : Nat, 1 ≤ k → k ≤ 8 → ¬ (xF (d :: r) (yC (k : Int)) = true) := fun k h1 h8 => by
    have hk : k = 1 ∨ k = 2 ∨ k = 3 ∨ k = 4 ∨ k = 5 ∨ k = 6 ∨ k = 7 ∨ k = 8 := by omega
    rcases hk with rfl | rfl | rfl | rfl | rfl | rfl | rfl | rfl
    · exact nob (hd 61 (by decide) (by decide))
    · exact nob (hd 33 (by decide) (by decide))
    · exact nob (hd 60 (by decide) (by decide))
    · exact nob (hd 60 (by decide) (by decide))
    · exact nob (hd 62 (by decide) (by decide))
    · exact nob (hd 62 (by decide) (by decide))
    · exact nob (hd 94 (by decide) (by decide))
    · exact nob (hd 126 (by decide) (by decide))
  have : ∀ k : Nat, k ≤ 8 → sgo (d :: r) k = (7, d :: r) := fun k => by
    induction k with
    | zero => intro _; rfl
    | succ k ih =>
      intro h8
      unfold sgo
      rw [if_neg (fun q => hb (k + 1) (by omega) h8 q.1)]
      exact ih (by omega)
  exact this 8 (by decide)
theorem sgo_sign {op : Int} (h1 : 1 ≤ op) (h8 : op ≤ 8) {d : UInt8} {r : List UInt8} (hd : kB d.toNat = true) : sgo (yC op ++ d :: r) 8 = (op, d :: r) := by
  have h61 : d ≠ 61 := fun e => by subst e; revert hd; decide
  have hop : op = 1 ∨ op = 2 ∨ op = 3 ∨ op = 4 ∨ op = 5 ∨ op = 6 ∨ op = 7 ∨ op = 8 := by omega
  rcases hop with rfl | rfl | rfl | rfl | rfl | rfl | rfl | rfl <;> simp [yC, sgo, xF, h61]
theorem numD_star : zP [42] = 0 := by decide
theorem tg_star {v : Ver} (hv : v.may = true) {n : Nat} (h : n ≤ 2) (h0 : 0 < n ∨ v.maj = 0) (h1 : 1 < n ∨ v.min = 0) (h2 : 2 < n ∨ v.pat = 0) : zP (tg (yN v n ++ [[42]]) 0) = v.maj ∧ zP (tg (yN v n ++ [[42]]) 1) = v.min ∧ zP (tg (yN v n ++ [[42]]) 2) = v.pat := by
  obtain ⟨m1, m2, m3⟩ := j4 hv
  have e1 := bJ m1
  have e2 := bJ m2
  match n, h with
  | 0, _ => exact ⟨numD_star.trans (h0.resolve_left (by decide)).symm, (h1.resolve_left (by decide)).symm, (h2.resolve_left (by decide)).symm⟩
  | 1, _ => exact ⟨e1, numD_star.trans (h1.resolve_left (by decide)).symm, (h2.resolve_left (by decide)).symm⟩
  | 2, _ => exact ⟨e1, e2, numD_star.trans (h2.resolve_left (by decide)).symm⟩
theorem rest_pieces {c : Co} (h : c.may = true) : jU 2 (y8 45 c.rest).1 = (if c.op = 9 then yN c.v c.parts.toNat ++ [[42]] else yN c.v c.parts.toNat) ∧ (y8 45 c.rest).2.1 = c.v.pre := by
  obtain ⟨_, hv, hb, h9, hn, hp, k0, k1, k2⟩ := Co.facts h
  unfold Co.rest
  by_cases e : c.op = 9
  · rw [if_pos e, if_pos e]
    have f : ∀ b : UInt8, kB b.toNat = false → b ≠ 42 → ∀ x ∈ yN c.v c.parts.toNat ++ [[42]], b ∉ x := fun b hb hb2 x hx => by
      rcases List.mem_append.1 hx with hx | hx
      · exact qL hv b hb x hx
      · rw [List.mem_singleton.1 hx]
        intro hm
        exact hb2 (List.mem_singleton.1 hm)
    rw [uU 45 _ (vT 45 (by decide) _ (f 45 (by decide) (by decide)))]
    have hq := h9 e
    have hpre : c.v.pre = [] := hp.resolve_left (by omega)
    refine ⟨?_, hpre.symm⟩
    refine t8 2 _ (by simp) ?_ (f 46 (by decide) (by decide))
    rw [List.length_append, jI c.v (by omega)]
    simp only [List.length_cons, List.length_nil]; omega
  · rw [if_neg e, if_neg e]
    have hq := hn e
    have hlen := jI c.v (n := c.parts.toNat) (by omega)
    have hne : yN c.v c.parts.toNat ≠ [] := fun h0 => by
      rw [h0] at hlen
      simp at hlen; omega
    rw [cut_tail 45 _ _ (vT 45 (by decide) _ (qL hv 45 (by decide)))]
    exact ⟨t8 2 _ hne (by omega) (qL hv 46 (by decide)), rfl⟩
theorem nums_last {c : Co} (h : c.may = true) (hn : ¬ c.op = 9) : ¬ (yN c.v c.parts.toNat).getLast? = some [42] := fun hl => by
  have hv := (Co.facts h).2.1
  have := qL hv 42 (by decide) _ (List.mem_of_getLast? hl)
  exact this (List.mem_singleton.2 rfl)
theorem guess_of {c : Co} {s : List UInt8} (h : c.may = true) (hs : (sgo s 8).2 = c.rest) (ho : c.op = 9 ∨ (sgo s 8).1 = c.op) : v7 s = c := by
  obtain ⟨_, hv, hb, h9, hn, hp, k0, k1, k2⟩ := Co.facts h
  obtain ⟨p1, p2⟩ := rest_pieces h
  have hpc : jP s = if c.op = 9 then yN c.v c.parts.toNat ++ [[42]] else yN c.v c.parts.toNat := by unfold jP; rw [hs]; exact p1
  unfold v7
  rw [hs, p2]
  by_cases e : c.op = 9
  · have hq := h9 e
    rw [if_pos e] at hpc
    have hst : starP s = true := by unfold starP; rw [hpc, List.getLast?_concat]; exact decide_eq_true rfl
    obtain ⟨e1, e2, e3⟩ := tg_star hv (n := c.parts.toNat) (by omega) (by omega) (by omega) (by omega)
    rw [hst, hpc, if_pos rfl, if_pos rfl, e1, e2, e3, List.length_append, jI c.v (by omega), List.length_singleton]
    obtain ⟨op, parts, a, b, d, q, r⟩ := c
    simp only at hb e hq ⊢
    rw [hb, e]
    congr 1
    omega
  · have hq := hn e
    rw [if_neg e] at hpc
    have hst : starP s = false := by unfold starP; rw [hpc]; exact decide_eq_false (nums_last h e)
    obtain ⟨e1, e2, e3⟩ := nums_back hv (n := c.parts.toNat) (by omega) (by omega) (by omega) (by omega)
    rw [hst, hpc, if_neg (by decide), if_neg (by decide), e1, e2, e3, jI c.v (by omega), ho.resolve_left e]
    obtain ⟨op, parts, a, b, d, q, r⟩ := c
    simp only at hb hq ⊢
    rw [hb]
    congr 1
    omega
theorem guess_co {c : Co} {s : List UInt8} (h : c.may = true) (hs : c.text = s ∨ c.text = 94 :: s) : v7 s = c := by
  obtain ⟨ho, _⟩ := Co.facts h
  by_cases hn : c.op = 9
  · obtain ⟨d, r, e, hd⟩ := fK h hn
    have ht : c.text = d :: r := by unfold Co.text; rw [hn, show yC 9 = [] from rfl, List.nil_append, e]
    rcases hs with hs | hs
    · rw [ht] at hs
      rw [← hs]
      exact guess_of h (by rw [pZ hd, e]) (.inl hn)
    · rw [ht] at hs
      injection hs with e1 _
      rw [e1] at hd
      exact absurd hd (by decide)
  · obtain ⟨d, r, e, hd⟩ := bH h hn
    have ht : c.text = yC c.op ++ d :: r := by unfold Co.text; rw [e]
    have hs8 := sgo_sign ho.1 (by omega) (r := r) hd
    rcases hs with hs | hs
    · rw [ht] at hs
      rw [← hs]
      exact guess_of h (by rw [hs8, e]) (.inr (by rw [hs8]))
    · rw [ht] at hs
      have hop : c.op = 1 ∨ c.op = 2 ∨ c.op = 3 ∨ c.op = 4 ∨ c.op = 5 ∨ c.op = 6 ∨ c.op = 7 ∨ c.op = 8 := by omega
      have h7 : c.op = 7 := by rcases hop with e2 | e2 | e2 | e2 | e2 | e2 | e2 | e2 <;> rw [e2] at hs <;> first | exact e2 | simp [yC] at hs
      rw [h7] at hs
      have hs2 : d :: r = s := by injection hs
      rw [← hs2]
      exact guess_of h (by rw [pZ (.inl hd), e]) (.inr (by rw [pZ (.inl hd), h7]))
theorem guess_nil : v7 [] = ⟨7, 1, ⟨0, 0, 0, [], []⟩⟩ := by decide
theorem fits_may {s : List UInt8} (h : (v7 s).print = s ∨ (v7 s).print = 94 :: s) : (v7 s).may = true := by
  refine print_may fun e => ?_
  rw [e] at h
  rcases h with h | h
  · subst h
    revert e
    rw [guess_nil]
    decide +kernel
  · cases h
theorem prog_some {s : List UInt8} (h : (v7 s).print = s ∨ (v7 s).print = 94 :: s) : gU s = some (v7 s) := by
  have hm := fits_may h
  rw [vG hm] at h
  exact (uN s _).2 ⟨hm, h⟩
theorem prog_none {s : List UInt8} (h : ¬ ((v7 s).print = s ∨ (v7 s).print = 94 :: s)) : gU s = none := by
  cases hp : gU s with
  | none => rfl
  | some c =>
    obtain ⟨hm, ht⟩ := (uN s c).1 hp
    have hg := guess_co hm ht
    rw [hg, vG hm] at h
    exact absurd ht h
theorem may_core6 {c : Co} (h : c.may = true) : kG c.v = c.v := by
  obtain ⟨_, _, hb, _⟩ := Co.facts h
  obtain ⟨op, parts, a, b, d, q, r⟩ := c
  simp only at hb ⊢
  rw [hb]; rfl
theorem low6 {c : Co} (h : c.may = true) : c.low = ⟨0, c.v, false⟩ := by unfold Co.low; rw [may_core6 h]
def kY (c : Co) : Cu := if c.parts = 3 then ⟨0, c.v, true⟩ else if c.parts = 0 then zY 1 else qB c.v (c.parts - 1).toNat
theorem beh_aft {c : Co} (h : c.may = true) (h0 : ¬ c.parts = 0) : kY c = c.aft := by
  obtain ⟨_, _, _, h9, hn, _⟩ := Co.facts h
  have hp : 0 ≤ c.parts ∧ c.parts ≤ 3 := by
    by_cases e : c.op = 9
    · have := h9 e; omega
    · have := hn e; omega
  unfold kY Co.aft
  by_cases h3 : c.parts = 3
  · rw [if_pos h3, if_neg (by omega), may_core6 h]
  · rw [if_neg h3, if_neg h0, if_pos (by omega)]
def qS (c : Co) : Int := if ¬ c.v.maj = 0 then 0 else if ¬ c.v.min = 0 then 1 else if ¬ c.v.pat = 0 then 2 else c.parts - 1
theorem lead_turns {c : Co} (h : c.may = true) (h7 : ¬ c.op = 9) : qS c = (turnsK c : Int) := by
  obtain ⟨_, hv, _, _, hn, _, k0, k1, k2⟩ := Co.facts h
  have hq := hn h7
  obtain ⟨m1, m2, m3⟩ := jQ hv
  unfold qS turnsK
  repeat' split
  all_goals omega
theorem span_parts {c : Co} (h : c.may = true) (e : c.op = 1 ∨ c.op = 2) : ¬ c.parts = 0 := by
  obtain ⟨_, _, _, _, hn, _⟩ := Co.facts h
  have := hn (by omega); omega
def qC (c : Co) : Cu × Cu :=
  if c.op = 3 then (zY (-1), ⟨0, c.v, false⟩) else if c.op = 4 then (zY (-1), kY c) else if c.op = 5 then (kY c, zY 1) else if c.op = 6 then (⟨0, c.v, false⟩, zY 1)
  else if c.op = 7 then (⟨0, c.v, false⟩, qB c.v (qS c).toNat) else if c.op = 8 then (⟨0, c.v, false⟩, qB c.v (min (c.parts - 1) 1).toNat) else if c.parts = 0 then (zY (-1), zY 1) else (⟨0, c.v, false⟩, kY c)
theorem bound_span {c : Co} (h : c.may = true) : qC c = c.span := by
  obtain ⟨ho, _, _, h9, hn, _⟩ := Co.facts h
  have e0 : ¬ c.op = 9 → kY c = c.aft := fun e => beh_aft h (by have := hn e; omega)
  have el := low6 h
  have hop : c.op = 1 ∨ c.op = 2 ∨ c.op = 3 ∨ c.op = 4 ∨ c.op = 5 ∨ c.op = 6 ∨ c.op = 7 ∨ c.op = 8 ∨ c.op = 9 := by omega
  unfold qC Co.span
  rcases hop with e | e | e | e | e | e | e | e | e
  · have := hn (by omega); simp [e, el, e0 (by omega), show ¬ c.parts = 0 by omega]
  · have := hn (by omega); simp [e, el, e0 (by omega), show ¬ c.parts = 0 by omega]
  · simp [e, el]
  · simp [e, e0 (by omega)]
  · simp [e, e0 (by omega)]
  · simp [e, el]
  · have := lead_turns h (by omega); simp [e, el, this]
  · simp [e, el]
  · have hq := h9 e
    by_cases h0 : c.parts = 0
    · simp [e, h0]
    · have hb : kY c = qB c.v (c.parts - 1).toNat := by unfold kY; rw [if_neg (by omega), if_neg h0]
      simp [e, h0, el, hb]
end
end Go.Proofs.YtkljdpiaghepfaaGreatDoor
