/-
  What the statement's proof leans on: the ways of walking, tG mathematics, and what the program's functions return; each theorem says on what conditions.
-/
import Derived.Deep.RegionHeld3
import Derived.Outline
import Derived.Test.YtkljdpiaghepfaaGreatDoorMD3
set_option maxRecDepth 1000000
set_option maxHeartbeats 8000000
set_option linter.unusedVariables false
set_option linter.unusedSimpArgs false
namespace Go.Proofs.YtkljdpiaghepfaaGreatDoor
open Go.RowKit

section
structure Co where
  op : Int
  parts : Int
  v : Ver
deriving DecidableEq
def y7 (op : Int) : List UInt8 := if op = 1 then [61] else if op = 2 then [33, 61] else if op = 3 then [60] else if op = 4 then [60, 61] else if op = 5 then [62] else if op = 6 then [62, 61] else if op = 7 then [94] else if op = 8 then [126] else []
def Co.may (c : Co) : Bool := decide (1 ≤ c.op ∧ c.op ≤ 9) && c.v.may && decide (c.v.build = []) && (if c.op = 9 then decide (0 ≤ c.parts ∧ c.parts ≤ 2) else decide (1 ≤ c.parts ∧ c.parts ≤ 3)) && decide (3 ≤ c.parts ∨ c.v.pre = []) && decide (0 < c.parts ∨ c.v.maj = 0) && decide (1 < c.parts ∨ c.v.min = 0) && decide (2 < c.parts ∨ c.v.pat = 0)
theorem Co.facts {c : Co} (h : c.may = true) : (1 ≤ c.op ∧ c.op ≤ 9) ∧ c.v.may = true ∧ c.v.build = [] ∧ (c.op = 9 → 0 ≤ c.parts ∧ c.parts ≤ 2) ∧ (¬ c.op = 9 → 1 ≤ c.parts ∧ c.parts ≤ 3) ∧ (3 ≤ c.parts ∨ c.v.pre = []) ∧ (0 < c.parts ∨ c.v.maj = 0) ∧ (1 < c.parts ∨ c.v.min = 0) ∧ (2 < c.parts ∨ c.v.pat = 0) := by
  unfold Co.may at h
  simp only [Bool.and_eq_true, decide_eq_true_eq] at h
  obtain ⟨⟨⟨⟨⟨⟨⟨h1, h2⟩, h3⟩, h4⟩, h5⟩, h6⟩, h7⟩, h8⟩ := h
  refine ⟨h1, h2, h3, fun e => ?_, fun e => ?_, h5, h6, h7, h8⟩
  · rw [if_pos e] at h4; exact of_decide_eq_true h4
  · rw [if_neg e] at h4; exact of_decide_eq_true h4
theorem Co.may_iff {c : Co} : c.may = true ↔ (1 ≤ c.op ∧ c.op ≤ 9) ∧ c.v.may = true ∧ c.v.build = [] ∧ (c.op = 9 → 0 ≤ c.parts ∧ c.parts ≤ 2) ∧ (¬ c.op = 9 → 1 ≤ c.parts ∧ c.parts ≤ 3) ∧ (3 ≤ c.parts ∨ c.v.pre = []) ∧ (0 < c.parts ∨ c.v.maj = 0) ∧ (1 < c.parts ∨ c.v.min = 0) ∧ (2 < c.parts ∨ c.v.pat = 0) := by
  refine ⟨Co.facts, fun ⟨h1, h2, h3, k9, kn, h5, h6, h7, h8⟩ => ?_⟩
  unfold Co.may
  rw [decide_eq_true h1, h2, decide_eq_true h3, decide_eq_true h5, decide_eq_true h6, decide_eq_true h7, decide_eq_true h8]
  by_cases e : c.op = 9
  · rw [if_pos e, decide_eq_true (k9 e)]; rfl
  · rw [if_neg e, decide_eq_true (kn e)]; rfl
def yC (v : Ver) (n : Nat) : List (List UInt8) := [Lib.itoa v.maj, Lib.itoa v.min, Lib.itoa v.pat].take n
def Co.rest (c : Co) : List UInt8 := if c.op = 9 then zY 46 (yC c.v c.parts.toNat ++ [[42]]) else zY 46 (yC c.v c.parts.toNat) ++ wT 45 c.v.pre
def Co.text (c : Co) : List UInt8 := y7 c.op ++ c.rest
def Co.print (c : Co) : List UInt8 := if c.may then c.text else []
def xL (s t : List UInt8) : Bool := decide (s.take t.length = t)
def fM (s : List UInt8) : Int × List UInt8 :=
  if xL s [33, 61] then (2, s.drop 2) else if xL s [60, 61] then (4, s.drop 2) else if xL s [62, 61] then (6, s.drop 2) else if xL s [61] then (1, s.drop 1)
  else if xL s [60] then (3, s.drop 1) else if xL s [62] then (5, s.drop 1) else if xL s [94] then (7, s.drop 1) else if xL s [126] then (8, s.drop 1)
  else if s.getLast? = some 42 then (9, s) else (7, s)
def hD (op : Int) (rest : List UInt8) : List (List UInt8) := if op = 9 then (pcs (yD 45 rest).1).dropLast else pcs (yD 45 rest).1
def guessC (op : Int) (rest : List UInt8) : Option Co :=
  if (hD op rest).length ≤ 3 ∧ (hD op rest).all gK = true then
    some ⟨op, (hD op rest).length, ⟨zS (tg (hD op rest) 0), zS (tg (hD op rest) 1), zS (tg (hD op rest) 2), (yD 45 rest).2.1, []⟩⟩
  else none
def fits (s : List UInt8) (c : Co) : Bool := !decide (c.print = []) && (decide (c.print = s) || decide (c.print = 94 :: s))
def qE (s : List UInt8) : Option Co := (guessC (fM s).1 (fM s).2).filter (fits s)
theorem print_may {c : Co} (h : ¬ c.print = []) : c.may = true := by
  cases hm : c.may with
  | true => rfl
  | false => exact absurd (show c.print = [] by unfold Co.print; rw [hm]; rfl) h
theorem gE {c : Co} (h : c.may = true) : c.print = c.text := by unfold Co.print; rw [h]; rfl
theorem parseC_back {s : List UInt8} {c : Co} (h : qE s = some c) : c.may = true ∧ (c.text = s ∨ c.text = 94 :: s) := by
  unfold qE at h
  obtain ⟨_, h⟩ := Option.filter_eq_some_iff.1 h
  unfold fits at h
  simp only [Bool.and_eq_true, Bool.not_eq_true', decide_eq_false_iff_not, Bool.or_eq_true, decide_eq_true_eq] at h
  have hm := print_may h.1
  rw [gE hm] at h
  exact ⟨hm, h.2⟩
theorem pcs_cons {x y : List UInt8} (h : (46 : UInt8) ∉ x) : pcs (x ++ 46 :: y) = x :: pcs y := by
  unfold pcs
  rw [vF, mX 46 _ _ h]
  simp
theorem pcs_one {x : List UInt8} (h : (46 : UInt8) ∉ x) : pcs x = [x] := by
  unfold pcs
  rw [vF, u0 46 _ h]
  simp
theorem pcs_join : ∀ (l : List (List UInt8)), l ≠ [] → (∀ x ∈ l, (46 : UInt8) ∉ x) → pcs (zY 46 l) = l
  | [], h, _ => absurd rfl h
  | [x], _, h => pcs_one (h x (List.mem_singleton.2 rfl))
  | x :: y :: r, _, h => by
    rw [zY, pcs_cons (h x (List.mem_cons_self ..)), pcs_join (y :: r) (by simp) fun z hz => h z (List.mem_cons_of_mem _ hz)]
theorem nums_mem {v : Ver} (hv : v.may = true) {n : Nat} {x : List UInt8} (h : x ∈ yC v n) : ∃ k : Int, yG k = true ∧ x = Lib.itoa k := by
  obtain ⟨h1, h2, h3⟩ := qP hv
  unfold yC at h
  have h := List.mem_of_mem_take h
  simp only [List.mem_cons, List.not_mem_nil, or_false] at h
  rcases h with rfl | rfl | rfl
  · exact ⟨_, h1, rfl⟩
  · exact ⟨_, h2, rfl⟩
  · exact ⟨_, h3, rfl⟩
theorem qS {v : Ver} (hv : v.may = true) {n : Nat} (b : UInt8) (hb : kK b.toNat = false) : ∀ x ∈ yC v n, b ∉ x := fun x hx => by
  obtain ⟨k, hk, rfl⟩ := nums_mem hv hx
  exact dig_free hk b hb
theorem jA (b : UInt8) (hb : b ≠ 46) : ∀ (l : List (List UInt8)), (∀ x ∈ l, b ∉ x) → b ∉ zY 46 l
  | [], _ => by simp [zY]
  | [x], h => h x (List.mem_singleton.2 rfl)
  | x :: y :: r, h => by
    rw [zY]
    simp only [List.mem_append, List.mem_cons, not_or]
    exact ⟨h x (List.mem_cons_self ..), hb, jA b hb (y :: r) fun z hz => h z (List.mem_cons_of_mem _ hz)⟩
theorem qT (v : Ver) {n : Nat} (h : n ≤ 3) : (yC v n).length = n := by
  unfold yC
  rw [List.length_take]
  simp; omega
theorem nums_num {v : Ver} (hv : v.may = true) (n : Nat) : (yC v n).all gK = true := List.all_eq_true.2 fun x hx => by
  obtain ⟨k, hk, rfl⟩ := nums_mem hv hx
  exact numI_itoa hk
theorem nums_back {v : Ver} (hv : v.may = true) {n : Nat} (h : n ≤ 3) (h0 : 0 < n ∨ v.maj = 0) (h1 : 1 < n ∨ v.min = 0) (h2 : 2 < n ∨ v.pat = 0) : zS (tg (yC v n) 0) = v.maj ∧ zS (tg (yC v n) 1) = v.min ∧ zS (tg (yC v n) 2) = v.pat := by
  obtain ⟨m1, m2, m3⟩ := qP hv
  have e1 := bZ m1
  have e2 := bZ m2
  have e3 := bZ m3
  match n, h with
  | 0, _ => exact ⟨(h0.resolve_left (by decide)).symm, (h1.resolve_left (by decide)).symm, (h2.resolve_left (by decide)).symm⟩
  | 1, _ => exact ⟨e1, (h1.resolve_left (by decide)).symm, (h2.resolve_left (by decide)).symm⟩
  | 2, _ => exact ⟨e1, e2, (h2.resolve_left (by decide)).symm⟩
  | 3, _ => exact ⟨e1, e2, e3⟩
theorem guess_rest {c : Co} (h : c.may = true) : guessC c.op c.rest = some c := by
  obtain ⟨_, hv, hb, h9, hn, hp, k0, k1, k2⟩ := Co.facts h
  obtain ⟨op, parts, v⟩ := c
  simp only at hv hb h9 hn hp k0 k1 k2 ⊢
  have hparts : (parts.toNat : Int) = parts ∧ parts.toNat ≤ 3 := by
    by_cases e : op = 9
    · have := h9 e; omega
    · have := hn e; omega
  have key : hD op (Co.rest ⟨op, parts, v⟩) = yC v parts.toNat ∧ (yD 45 (Co.rest ⟨op, parts, v⟩)).2.1 = v.pre := by
    unfold hD Co.rest
    by_cases e : op = 9
    · rw [if_pos e]
      dsimp only
      rw [if_pos e]
      have f : ∀ b : UInt8, kK b.toNat = false → b ≠ 42 → ∀ x ∈ yC v parts.toNat ++ [[42]], b ∉ x := fun b hb hb2 x hx => by
        rcases List.mem_append.1 hx with hx | hx
        · exact qS hv b hb x hx
        · rw [List.mem_singleton.1 hx]
          intro hm
          exact hb2 (List.mem_singleton.1 hm)
      rw [u0 45 _ (jA 45 (by decide) _ (f 45 (by decide) (by decide)))]
      have hpre : v.pre = [] := hp.resolve_left (by have := h9 e; omega)
      exact ⟨by
        show (pcs (zY 46 (yC v parts.toNat ++ [[42]]))).dropLast = _
        rw [pcs_join _ (by simp) (f 46 (by decide) (by decide)), List.dropLast_concat], hpre.symm⟩
    · rw [if_neg e]
      dsimp only
      rw [if_neg e]
      have hne : yC v parts.toNat ≠ [] := fun h0 => by
        have := qT v hparts.2
        rw [h0] at this
        have := hn e
        simp at *; omega
      rw [cut_tail 45 _ _ (jA 45 (by decide) _ (qS hv 45 (by decide)))]
      exact ⟨pcs_join _ hne (qS hv 46 (by decide)), rfl⟩
  unfold guessC
  rw [key.1, key.2, if_pos ⟨by rw [qT v hparts.2]; exact hparts.2, nums_num hv _⟩]
  obtain ⟨e1, e2, e3⟩ := nums_back hv hparts.2 (by omega) (by omega) (by omega)
  rw [e1, e2, e3, qT v hparts.2, hparts.1]
  obtain ⟨a, b, p, q, r⟩ := v
  simp only at hb
  rw [hb]
theorem itoa_head {k : Int} (h : yG k = true) : ∃ d r, Lib.itoa k = d :: r ∧ kK d.toNat = true := by
  have hm := num_itoa h
  cases e : Lib.itoa k with
  | nil => rw [e] at hm; cases hm
  | cons d r => exact ⟨d, r, rfl, by
      have := dig_mem k.toNat d (by rw [← tL h, e]; exact List.mem_cons_self)
      exact this⟩
theorem join_head {x : List UInt8} {l : List (List UInt8)} {d : UInt8} {r : List UInt8} (h : x = d :: r) : ∃ r', zY 46 (x :: l) = d :: r' := by
  subst h
  cases l with
  | nil => exact ⟨r, rfl⟩
  | cons y t => exact ⟨_, rfl⟩
theorem bY {c : Co} (h : c.may = true) (hn : ¬ c.op = 9) : ∃ d r, c.rest = d :: r ∧ kK d.toNat = true := by
  obtain ⟨_, hv, _, _, h9, _⟩ := Co.facts h
  obtain ⟨d, r, e, hd⟩ := itoa_head (qP hv).1
  obtain ⟨n, en⟩ : ∃ n, c.parts.toNat = n + 1 := ⟨c.parts.toNat - 1, by have := h9 hn; omega⟩
  obtain ⟨r', e'⟩ := join_head (l := [Lib.itoa c.v.min, Lib.itoa c.v.pat].take n) e
  refine ⟨d, r' ++ wT 45 c.v.pre, ?_, hd⟩
  unfold Co.rest yC
  rw [if_neg hn, en, List.take_succ_cons, e']; rfl
theorem mK {c : Co} (h : c.may = true) (hn : c.op = 9) : ∃ d r, c.rest = d :: r ∧ (kK d.toNat = true ∨ d = 42) := by
  obtain ⟨_, hv, _, h9, _⟩ := Co.facts h
  obtain ⟨d, r, e, hd⟩ := itoa_head (qP hv).1
  unfold Co.rest yC
  rw [if_pos hn]
  cases hp : c.parts.toNat with
  | zero => exact ⟨42, [], rfl, .inr rfl⟩
  | succ n =>
    obtain ⟨r', e'⟩ := join_head (l := [Lib.itoa c.v.min, Lib.itoa c.v.pat].take n ++ [[42]]) e
    exact ⟨d, r', by rw [List.take_succ_cons, List.cons_append, e'], .inl hd⟩
theorem qL {d : UInt8} {r : List UInt8} {a : UInt8} {t : List UInt8} (h : d ≠ a) : xL (d :: r) (a :: t) = false := decide_eq_false fun e => by
  rw [List.length_cons, List.take_succ_cons] at e
  injection e with e1 _
  exact h e1
theorem split_plain {d : UInt8} {r : List UInt8} (h : kK d.toNat = true ∨ d = 42) : fM (d :: r) = if (d :: r).getLast? = some 42 then (9, d :: r) else (7, d :: r) := by
  have hd : ∀ a : UInt8, kK a.toNat = false → a ≠ 42 → d ≠ a := fun a ha h42 e => by
    subst e
    rcases h with h | h
    · rw [ha] at h; cases h
    · exact h42 h
  unfold fM
  rw [qL (hd 33 (by decide) (by decide)), qL (hd 60 (by decide) (by decide)), qL (hd 62 (by decide) (by decide)), qL (hd 61 (by decide) (by decide)), qL (hd 60 (by decide) (by decide)), qL (hd 62 (by decide) (by decide)), qL (hd 94 (by decide) (by decide)), qL (hd 126 (by decide) (by decide))]
  rfl
theorem split_sign {op : Int} (h1 : 1 ≤ op) (h8 : op ≤ 8) {d : UInt8} {r : List UInt8} (hd : kK d.toNat = true) : fM (y7 op ++ d :: r) = (op, d :: r) := by
  have h61 : d ≠ 61 := fun e => by subst e; revert hd; decide
  have hop : op = 1 ∨ op = 2 ∨ op = 3 ∨ op = 4 ∨ op = 5 ∨ op = 6 ∨ op = 7 ∨ op = 8 := by omega
  rcases hop with rfl | rfl | rfl | rfl | rfl | rfl | rfl | rfl <;> simp [y7, fM, xL, h61]
theorem last_join (x : List UInt8) : ∀ (l : List (List UInt8)), (zY 46 (l ++ [x ++ [42]])).getLast? = some 42
  | [] => by simp [zY]
  | [y] => by
    show (y ++ 46 :: (x ++ [42])).getLast? = some 42
    rw [show y ++ 46 :: (x ++ [42]) = (y ++ 46 :: x) ++ [42] from by simp, List.getLast?_concat]
  | y :: z :: r => by
    have := last_join x (z :: r)
    show (y ++ 46 :: zY 46 (z :: r ++ [x ++ [42]])).getLast? = some 42
    rw [List.getLast?_append]
    cases hj : zY 46 (z :: r ++ [x ++ [42]]) with
    | nil => rw [hj] at this; cases this
    | cons a b => rw [hj] at this; rw [List.getLast?_cons_cons, this]; rfl
theorem star_free (s : List UInt8) (h : gO s = true) : (42 : UInt8) ∉ s := by
  intro hm
  unfold gO at h
  rcases splitL_mem 46 s [] 42 hm with e | ⟨x, hx, hc⟩
  · revert e; decide
  · have hne : s.isEmpty = false := by cases s with
      | nil => cases hm
      | cons _ _ => rfl
    rw [hne, Bool.false_or, Bool.and_eq_true] at h
    have := List.all_eq_true.1 h.2 x hx
    unfold gH at this
    rw [Bool.and_eq_true] at this
    have := List.all_eq_true.1 this.2 _ hc
    revert this; decide
theorem rest_star {c : Co} (h : c.may = true) (hn : ¬ c.op = 9) : (42 : UInt8) ∉ c.rest := by
  obtain ⟨_, hv, _⟩ := Co.facts h
  have hl : gO c.v.pre = true := by
    have := dW hv
    unfold v8 at this
    exact (Bool.and_eq_true_iff.1 this).1
  unfold Co.rest
  rw [if_neg hn]
  intro hm
  rcases List.mem_append.1 hm with hm | hm
  · exact jA 42 (by decide) _ (qS hv 42 (by decide)) hm
  · unfold wT at hm
    split at hm
    · cases hm
    · rcases List.mem_cons.1 hm with e | hm
      · revert e; decide
      · exact star_free _ hl hm
theorem split_text {c : Co} (h : c.may = true) : fM c.text = (c.op, c.rest) := by
  obtain ⟨ho, _⟩ := Co.facts h
  unfold Co.text
  by_cases hn : c.op = 9
  · obtain ⟨d, r, e, hd⟩ := mK h hn
    have hl : c.rest.getLast? = some 42 := by unfold Co.rest; rw [if_pos hn]; exact last_join [] _
    rw [hn, show y7 9 = [] from rfl, List.nil_append]
    rw [e] at hl ⊢
    rw [split_plain hd, if_pos hl]
  · obtain ⟨d, r, e, hd⟩ := bY h hn
    rw [e]
    exact split_sign ho.1 (by omega) hd
theorem parseC_text {c : Co} (h : c.may = true) : qE c.text = some c := by
  unfold qE
  rw [split_text h, guess_rest h]
  refine Option.filter_eq_some_iff.2 ⟨rfl, ?_⟩
  have hne : ¬ c.text = [] := fun e => by
    unfold Co.text at e
    have e2 := (List.append_eq_nil_iff.1 e).2
    by_cases hn : c.op = 9
    · obtain ⟨d, r, e3, _⟩ := mK h hn; rw [e3] at e2; cases e2
    · obtain ⟨d, r, e3, _⟩ := bY h hn; rw [e3] at e2; cases e2
  unfold fits
  rw [gE h, decide_eq_false hne, decide_eq_true rfl]; rfl
theorem parseC_caret {c : Co} {s : List UInt8} (h : c.may = true) (hs : c.text = 94 :: s) : qE s = some c := by
  obtain ⟨ho, _⟩ := Co.facts h
  have hop : c.op = 7 ∧ c.rest = s := by
    unfold Co.text at hs
    by_cases hn : c.op = 9
    · obtain ⟨d, r, e, hd⟩ := mK h hn
      rw [hn, show y7 9 = [] from rfl, List.nil_append, e] at hs
      injection hs with e1 _
      rw [e1] at hd
      exact absurd hd (by decide)
    · have hop : c.op = 1 ∨ c.op = 2 ∨ c.op = 3 ∨ c.op = 4 ∨ c.op = 5 ∨ c.op = 6 ∨ c.op = 7 ∨ c.op = 8 := by omega
      rcases hop with e | e | e | e | e | e | e | e <;> rw [e] at hs <;> simp [y7] at hs
      exact ⟨e, hs⟩
  obtain ⟨d, r, e, hd⟩ := bY h (by omega)
  have h42 : ¬ s.getLast? = some 42 := fun hl => by
    have := List.mem_of_getLast? hl
    rw [← hop.2] at this
    exact rest_star h (by omega) this
  unfold qE
  have hsp : fM s = (7, s) := by
    rw [← hop.2, e, split_plain (.inl hd), if_neg (by rw [← e, hop.2]; exact h42)]
  rw [hsp]
  have hg := guess_rest h
  rw [hop.1, hop.2] at hg
  rw [hg]
  refine Option.filter_eq_some_iff.2 ⟨rfl, ?_⟩
  unfold fits
  rw [gE h, hs, decide_eq_false (by simp), decide_eq_true rfl, Bool.or_true]; rfl
theorem dT (s : List UInt8) (c : Co) : qE s = some c ↔ c.may = true ∧ (c.text = s ∨ c.text = 94 :: s) :=
  ⟨parseC_back, fun ⟨hm, h⟩ => h.elim (fun e => e ▸ parseC_text hm) (fun e => parseC_caret hm e)⟩
end
section
end
section
def qG (v : Ver) : Nat → Cu
  | 0 => if yH v 0 then ⟨0, x1 v 0, false⟩ else y5 1
  | k + 1 => if yH v ((k + 1 : Nat) : Int) then ⟨0, x1 v ((k + 1 : Nat) : Int), false⟩ else qG v k
def turnsK (c : Co) : Nat := if 0 < c.v.maj ∨ c.parts = 1 then 0 else if 0 < c.v.min ∨ c.parts = 2 then 1 else 2
def Co.low (c : Co) : Cu := ⟨0, kP c.v, false⟩
def Co.aft (c : Co) : Cu := if c.parts < 3 ∧ 0 < c.parts then qG c.v (c.parts - 1).toNat else ⟨0, kP c.v, true⟩
def Co.span (c : Co) : Cu × Cu :=
  if c.op = 1 ∨ c.op = 2 then (c.low, c.aft) else if c.op = 3 then (y5 (-1), c.low) else if c.op = 4 then (y5 (-1), c.aft) else if c.op = 5 then (c.aft, y5 1) else if c.op = 6 then (c.low, y5 1)
  else if c.op = 7 then (c.low, qG c.v (turnsK c)) else if c.op = 8 then (c.low, qG c.v (min (c.parts - 1) 1).toNat) else if c.parts = 0 then (y5 (-1), y5 1) else (c.low, qG c.v (c.parts - 1).toNat)
def kF (lo hi : Cu) : List Sp := q7 [] lo hi
def Co.region (c : Co) : List Sp := if c.may then (if c.op = 2 then jD (kF c.span.1 c.span.2) else kF c.span.1 c.span.2) else []
def Co.zone (c : Co) : List Sp := if c.may && !decide (c.v.pre = []) then [⟨⟨0, { c.v with pre := [48], build := [] }, false⟩, ⟨0, { c.v with pre := [], build := [] }, false⟩⟩] else []
theorem oneRow_may (lo hi : Cu) : zK (kF lo hi) = true := add_ok rfl (fun t h => by cases h)
theorem before_may {v : Ver} (h : v.may = true) (a : Bool) : (⟨0, kP v, a⟩ : Cu).may = true := by
  have h2 := m6 h
  unfold Cu.may
  rw [if_pos rfl]
  show ((kP v).may && ([] : List UInt8).isEmpty) = true
  rw [h2]; rfl
theorem bump_rel {v : Ver} {k : Int} (h : yH v k = true) : ∃ a b c, x1 v k = Ver.rel a b c := by
  unfold x1
  rw [if_pos h]
  unfold bumpN
  split
  · exact ⟨_, _, _, rfl⟩
  · split
    · exact ⟨_, _, _, rfl⟩
    · exact ⟨_, _, _, rfl⟩
def upN (v : Ver) (k : Nat) : Int := if k = 0 then (v.maj + 1) * 100000000 else if k = 1 then v.maj * 100000000 + (v.min + 1) * 10000 else v.code + 1
def ordB (op n : Int) : Bool := if op = 1 then decide (n = 0) else if op = 2 then decide (¬ n = 0) else if op = 3 then decide (n < 0) else if op = 4 then decide (n ≤ 0) else if op = 5 then decide (0 < n) else decide (0 ≤ n)
end
section
def uT (c : Co) (v : Ver) (p : Int) : Bool := (decide (p < 1) || decide (v.maj = c.v.maj)) && (decide (p < 2) || decide (v.min = c.v.min)) && (decide (p < 3) || decide (v.pat = c.v.pat))
def overB (c : Co) (v : Ver) : Bool := if ¬ v.maj = c.v.maj ∨ c.parts = 1 then decide (c.v.maj < v.maj) else if ¬ v.min = c.v.min ∨ c.parts = 2 then decide (c.v.min < v.min) else decide (c.v.pat < v.pat)
def saysN (c : Co) : Int := if 0 < c.v.maj ∨ c.parts = 1 then 1 else if 0 < c.v.min ∨ c.parts = 2 then 2 else 3
def saysB (c : Co) (v : Ver) : Bool :=
  if c.op = 1 ∨ c.op = 9 then uT c v c.parts else if c.op = 2 then !uT c v c.parts else if c.op = 3 then !uT c v c.parts && !overB c v else if c.op = 4 then uT c v c.parts || !overB c v
  else if c.op = 5 then overB c v else if c.op = 6 then uT c v c.parts || overB c v else if c.op = 8 then uT c v (min c.parts 2) && (uT c v c.parts || overB c v)
  else uT c v (saysN c) && (uT c v c.parts || overB c v)
def truncN (v : Ver) (q : Nat) : Int := if q = 1 then v.maj * 100000000 else if q = 2 then v.maj * 100000000 + v.min * 10000 else v.code
end
section
def fZ (v : Ver) : Ver := { v with pre := [48], build := [] }
def bareV (v : Ver) : Ver := { v with pre := [], build := [] }
theorem least_may {v : Ver} (h : v.may = true) : (fZ v).may = true ∧ (bareV v).may = true := by
  obtain ⟨h1, h2, h3⟩ := qP h
  have k : v8 [48] = true := by decide
  unfold Ver.may fZ bareV
  dsimp only
  rw [h1, h2, h3, k]
  exact ⟨rfl, rfl⟩
theorem zone_row {c : Co} (h : c.may = true) (hp : ¬ c.v.pre = []) : c.zone = [⟨⟨0, fZ c.v, false⟩, ⟨0, bareV c.v, false⟩⟩] := by
  unfold Co.zone
  rw [h, decide_eq_false hp]; rfl
theorem zone_sp {v : Ver} (h : v.may = true) : (Sp.mk ⟨0, fZ v, false⟩ ⟨0, bareV v, false⟩).may = true := by
  obtain ⟨m1, m2⟩ := least_may h
  refine bQ ?_
  have c1 : (⟨0, fZ v, false⟩ : Cu).may = true := before_may m1 false
  have c2 : (⟨0, bareV v, false⟩ : Cu).may = true := before_may m2 false
  rw [qV c1 c2]
  have e : xQ (fZ v) (bareV v) = -1 := by
    rw [dH m1 m2]
    have e1 : (fZ v).code = (bareV v).code := rfl
    rw [e1, if_neg (by omega), if_neg (by omega)]; rfl
  show lex (Lib.compareInt 0 0) (lex (xQ (fZ v) (bareV v)) (Lib.compareInt (b01 false) (b01 false))) < 0
  rw [e]
  decide
theorem zone_may {c : Co} : zK c.zone = true := by
  by_cases h : c.may = true
  · by_cases hp : c.v.pre = []
    · unfold Co.zone; rw [h, decide_eq_true hp]; rfl
    · rw [zone_row h hp]; exact zone_sp (Co.facts h).2.1
  · unfold Co.zone
    rw [Bool.eq_false_iff.2 h]; rfl
def withO (c : Co) (o : Int) : Co := { c with op := o }
end
section
def gI (sep : List UInt8) : List (List UInt8) → List UInt8
  | [] => []
  | [x] => x
  | x :: y :: l => x ++ sep ++ gI sep (y :: l)
theorem vL (sep x y : List UInt8) (l : List (List UInt8)) : gI sep (x :: y :: l) = x ++ sep ++ gI sep (y :: l) := rfl
theorem joinB_snoc (sep x : List UInt8) : ∀ (l : List (List UInt8)), gI sep (l ++ [x]) = if l = [] then x else gI sep l ++ sep ++ x
  | [] => rfl
  | [y] => rfl
  | y :: z :: l => by
    rw [if_neg (by simp)]
    show y ++ sep ++ gI sep ((z :: l) ++ [x]) = y ++ sep ++ gI sep (z :: l) ++ sep ++ x
    rw [joinB_snoc sep x (z :: l), if_neg (by simp)]
    simp only [List.append_assoc]
theorem joinL_B (b : UInt8) : ∀ (l : List (List UInt8)), zY b l = gI [b] l
  | [] => rfl
  | [x] => rfl
  | x :: y :: l => by
    rw [zY, vL, joinL_B b (y :: l)]; simp
def sumN : List Nat → Nat
  | [] => 0
  | n :: l => n + sumN l
theorem joinB_len (sep : List UInt8) : ∀ (l : List (List UInt8)), (gI sep l).length = sumN (l.map (·.length)) + (l.length - 1) * sep.length
  | [] => by simp [gI, sumN]
  | [x] => by simp [gI, sumN]
  | x :: y :: l => by
    rw [vL, List.length_append, List.length_append, joinB_len sep (y :: l)]
    show x.length + sep.length + (sumN ((y :: l).map (·.length)) + ((y :: l).length - 1) * sep.length) = x.length + sumN ((y :: l).map (·.length)) + ((y :: l).length + 1 - 1) * sep.length
    have e : ((y :: l).length + 1 - 1) * sep.length = ((y :: l).length - 1) * sep.length + sep.length := by
      rw [show (y :: l).length + 1 - 1 = ((y :: l).length - 1) + 1 from by simp, Nat.add_mul, Nat.one_mul]
    omega
def x3 (a : List Co) : List UInt8 := gI [44, 32] (a.map Co.print)
def xI (r : List (List Co)) : List UInt8 := gI [32, 124, 124, 32] (r.map x3)
def fewA (a : List Co) : Bool := decide (1 ≤ a.length ∧ a.length ≤ 6) && a.all Co.may
def fewR (r : List (List Co)) : Bool := decide (1 ≤ r.length ∧ r.length ≤ 6) && r.all fewA
def rgMay (r : List (List Co)) : Bool := fewR r && decide ((xI r).length ≤ 96)
def vJ (r : List (List Co)) : List UInt8 := if rgMay r then xI r else []
theorem fewA.facts {a : List Co} (h : fewA a = true) : (1 ≤ a.length ∧ a.length ≤ 6) ∧ ∀ c ∈ a, c.may = true := by
  unfold fewA at h
  rw [Bool.and_eq_true, decide_eq_true_eq] at h
  exact ⟨h.1, List.all_eq_true.1 h.2⟩
theorem fewR.facts {r : List (List Co)} (h : fewR r = true) : (1 ≤ r.length ∧ r.length ≤ 6) ∧ ∀ a ∈ r, fewA a = true := by
  unfold fewR at h
  rw [Bool.and_eq_true, decide_eq_true_eq] at h
  exact ⟨h.1, List.all_eq_true.1 h.2⟩
theorem rgMay.facts {r : List (List Co)} (h : rgMay r = true) : fewR r = true ∧ (xI r).length ≤ 96 := by
  unfold rgMay at h
  rw [Bool.and_eq_true, decide_eq_true_eq] at h
  exact h
def xZ : List UInt8 → List UInt8
  | [] => []
  | c :: l => if c = 32 then xZ l else c :: l
def xY (s : List UInt8) : List UInt8 := (xZ (xZ s).reverse).reverse
def k8 : List UInt8 → List UInt8 → List (List UInt8)
  | acc, [] => [acc]
  | acc, [c] => [acc ++ [c]]
  | acc, c :: d :: r => if c = 124 ∧ d = 124 then acc :: k8 [] r else k8 (acc ++ [c]) (d :: r)
def uK {α β : Type} (f : α → Option β) : List α → Option (List β)
  | [] => some []
  | x :: l => match f x, uK f l with
    | some y, some m => some (y :: m)
    | _, _ => none
theorem allO_cons {α β : Type} {f : α → Option β} {x : α} {l : List α} {y : β} {m : List β} (h1 : f x = some y) (h2 : uK f l = some m) : uK f (x :: l) = some (y :: m) := by
  show (match f x, uK f l with | some y, some m => some (y :: m) | _, _ => none) = _
  rw [h1, h2]
theorem allO_inv {α β : Type} {f : α → Option β} {x : α} {l : List α} {m : List β} (h : uK f (x :: l) = some m) : ∃ y m', m = y :: m' ∧ f x = some y ∧ uK f l = some m' := by
  have h : (match f x, uK f l with | some y, some m => some (y :: m) | _, _ => none) = some m := h
  cases h1 : f x with
  | none => rw [h1] at h; cases h
  | some y =>
    cases h2 : uK f l with
    | none => rw [h1, h2] at h; cases h
    | some m' => rw [h1, h2] at h; injection h with h; exact ⟨y, m', h.symm, rfl, rfl⟩
theorem allO_none {α β : Type} {f : α → Option β} : ∀ {l : List α} {x : α}, x ∈ l → f x = none → uK f l = none
  | y :: l, x, hx, h => by
    show (match f y, uK f l with | some y, some m => some (y :: m) | _, _ => none) = _
    rcases List.mem_cons.1 hx with rfl | hx
    · rw [h]
    · rw [allO_none hx h]; cases f y <;> rfl
theorem dK {α β : Type} {f : α → Option β} : ∀ {l : List α} {m : List β}, uK f l = some m → m.length = l.length
  | [], m, h => by injection h with h; subst h; rfl
  | x :: l, m, h => by
    obtain ⟨y, m', rfl, _, h2⟩ := allO_inv h
    rw [List.length_cons, List.length_cons, dK h2]
theorem allO_app {α β : Type} {f : α → Option β} {b : List α} {n : List β} (hb : uK f b = some n) : ∀ {a : List α} {m : List β}, uK f a = some m → uK f (a ++ b) = some (m ++ n)
  | [], m, h => by injection h with h; subst h; exact hb
  | x :: a, m, h => by
    obtain ⟨y, m', rfl, h1, h2⟩ := allO_inv h
    exact allO_cons h1 (allO_app hb h2)
theorem allO_snoc {α β : Type} {f : α → Option β} {a : List α} {m : List β} {x : α} {y : β} (h : uK f a = some m) (h1 : f x = some y) : uK f (a ++ [x]) = some (m ++ [y]) := allO_app (allO_cons h1 rfl) h
theorem allO_back {α β : Type} {f : α → Option β} : ∀ {l : List α} {m : List β}, uK f l = some m → ∀ y ∈ m, ∃ x ∈ l, f x = some y
  | [], m, h, y, hy => by injection h with h; subst h; cases hy
  | z :: l, m, h, y, hy => by
    obtain ⟨w, m', rfl, h1, h2⟩ := allO_inv h
    rcases List.mem_cons.1 hy with rfl | hy
    · exact ⟨z, List.mem_cons_self .., h1⟩
    · obtain ⟨x, hx, e⟩ := allO_back h2 y hy
      exact ⟨x, List.mem_cons_of_mem _ hx, e⟩
def parseP (s : List UInt8) : Option Co := qE (xY s)
def nY (s : List UInt8) : Option (List Co) := uK parseP (yO 44 [] s)
def gV (s : List UInt8) : Option (List (List Co)) := uK nY (k8 [] s)
def xG (s : List UInt8) : Option (List (List Co)) := if 96 < s.length then none else (gV s).filter rgMay
def vW (s : List UInt8) : Int := if 96 < s.length then 3 else match gV s with
  | none => 6
  | some r => if fewR r then (if (xI r).length ≤ 96 then 0 else 3) else 6
theorem text_free {c : Co} (h : c.may = true) (b : UInt8) (h1 : uY b = false) (h2 : b ≠ 46 ∧ b ≠ 42) (h3 : b ∉ ([61, 33, 60, 62, 94, 126] : List UInt8)) : b ∉ c.text := by
  obtain ⟨_, hv, _⟩ := Co.facts h
  have hd : kK b.toNat = false := by
    unfold uY at h1
    rw [Bool.or_eq_false_iff, Bool.or_eq_false_iff] at h1
    exact h1.1.2
  have h45 : b ≠ 45 := fun e => by subst e; revert h1; decide
  have hl : gO c.v.pre = true := by
    have := dW hv
    unfold v8 at this
    exact (Bool.and_eq_true_iff.1 this).1
  have hp : b ∉ c.v.pre := by
    intro hm
    unfold gO at hl
    rcases splitL_mem 46 c.v.pre [] b hm with e | ⟨x, hx, hc⟩
    · exact h2.1 e
    · have hne : c.v.pre.isEmpty = false := by cases hc2 : c.v.pre with
        | nil => rw [hc2] at hm; cases hm
        | cons _ _ => rfl
      rw [hne, Bool.false_or, Bool.and_eq_true] at hl
      have := List.all_eq_true.1 hl.2 x hx
      unfold gH at this
      rw [Bool.and_eq_true] at this
      have := List.all_eq_true.1 this.2 _ hc
      rw [h1] at this; cases this
  unfold Co.text
  intro hm
  rcases List.mem_append.1 hm with hm | hm
  · apply h3
    unfold y7 at hm
    repeat' split at hm
    all_goals (simp at hm ⊢)
    all_goals (rcases hm with rfl | rfl <;> simp) <;> skip
  · unfold Co.rest at hm
    split at hm
    · refine jA b h2.1 _ (fun x hx => ?_) hm
      rcases List.mem_append.1 hx with hx | hx
      · exact qS hv b hd x hx
      · rw [List.mem_singleton.1 hx]
        intro e; exact h2.2 (List.mem_singleton.1 e)
    · rcases List.mem_append.1 hm with hm | hm
      · exact jA b h2.1 _ (qS hv b hd) hm
      · unfold wT at hm
        split at hm
        · cases hm
        · rcases List.mem_cons.1 hm with e | hm
          · exact h45 e
          · exact hp hm
theorem text_no32 {c : Co} (h : c.may = true) : (32 : UInt8) ∉ c.text := text_free h 32 (by decide) (by decide) (by decide)
theorem text_no44 {c : Co} (h : c.may = true) : (44 : UInt8) ∉ c.text := text_free h 44 (by decide) (by decide) (by decide)
theorem text_no124 {c : Co} (h : c.may = true) : (124 : UInt8) ∉ c.text := text_free h 124 (by decide) (by decide) (by decide)
def kW (n : Nat) : List UInt8 := List.replicate n 32
theorem fC : ∀ (n : Nat) (t : List UInt8), xZ (kW n ++ t) = xZ t
  | 0, t => rfl
  | n + 1, t => by
    show xZ (32 :: (kW n ++ t)) = _
    rw [xZ, if_pos rfl, fC n t]
theorem bareF_free {t : List UInt8} (h : (32 : UInt8) ∉ t) : xZ t = t := by
  cases t with
  | nil => rfl
  | cons c l => rw [xZ, if_neg (by rintro rfl; exact h (List.mem_cons_self ..))]
theorem bareF_app {t : List UInt8} (n : Nat) (h : (32 : UInt8) ∉ t) (hn : t ≠ []) : xZ (t ++ kW n) = t ++ kW n := by
  cases t with
  | nil => exact absurd rfl hn
  | cons c l => rw [List.cons_append, xZ, if_neg (by rintro rfl; exact h (List.mem_cons_self ..))]
theorem blanks_rev (n : Nat) : (kW n).reverse = kW n := List.reverse_replicate ..
theorem bareL_blanks {t : List UInt8} (n m : Nat) (h : (32 : UInt8) ∉ t) (hn : t ≠ []) : xY (kW n ++ t ++ kW m) = t := by
  unfold xY
  rw [List.append_assoc, fC, bareF_app m h hn, List.reverse_append, blanks_rev, fC, bareF_free (fun e => h (List.mem_reverse.1 e)), List.reverse_reverse]
theorem split44 : ∀ (l : List (List UInt8)), l ≠ [] → (∀ x ∈ l, (44 : UInt8) ∉ x) → yO 44 [] (zY 44 l) = l
  | [], h, _ => absurd rfl h
  | [x], _, h => by
    show yO 44 [] x = [x]
    rw [vF, u0 44 _ (h x (List.mem_singleton.2 rfl))]; simp
  | x :: y :: r, _, h => by
    rw [zY, vF, mX 44 _ _ (h x (List.mem_cons_self ..))]
    simp only [List.nil_append, if_true]
    rw [split44 (y :: r) (by simp) fun z hz => h z (List.mem_cons_of_mem _ hz)]
theorem altsL_free : ∀ (x acc : List UInt8), (124 : UInt8) ∉ x → k8 acc x = [acc ++ x]
  | [], acc, _ => by simp [k8]
  | [c], acc, _ => rfl
  | c :: d :: r, acc, h => by
    rw [k8, if_neg (by rintro ⟨rfl, _⟩; exact h (List.mem_cons_self ..)), altsL_free (d :: r) _ fun e => h (List.mem_cons_of_mem _ e)]
    simp
theorem altsL_hit : ∀ (x acc t : List UInt8), (124 : UInt8) ∉ x → k8 acc (x ++ 124 :: 124 :: t) = (acc ++ x) :: k8 [] t
  | [], acc, t, _ => by
    rw [List.nil_append, k8, if_pos ⟨rfl, rfl⟩, List.append_nil]
  | [c], acc, t, h => by
    show k8 acc (c :: 124 :: 124 :: t) = _
    rw [k8, if_neg (by rintro ⟨rfl, _⟩; exact h (List.mem_cons_self ..)), k8, if_pos ⟨rfl, rfl⟩]
  | c :: d :: r, acc, t, h => by
    show k8 acc (c :: d :: (r ++ 124 :: 124 :: t)) = _
    rw [k8, if_neg (by rintro ⟨rfl, _⟩; exact h (List.mem_cons_self ..))]
    have := altsL_hit (d :: r) (acc ++ [c]) t fun e => h (List.mem_cons_of_mem _ e)
    rw [List.cons_append] at this
    rw [this]; simp
theorem alts_join : ∀ (l : List (List UInt8)), l ≠ [] → (∀ x ∈ l, (124 : UInt8) ∉ x) → k8 [] (gI [124, 124] l) = l
  | [], h, _ => absurd rfl h
  | [x], _, h => altsL_free x [] (h x (List.mem_singleton.2 rfl))
  | x :: y :: r, _, h => by
    rw [vL, List.append_assoc]
    show k8 [] (x ++ 124 :: 124 :: gI [124, 124] (y :: r)) = _
    rw [altsL_hit x [] _ (h x (List.mem_cons_self ..)), alts_join (y :: r) (by simp) fun z hz => h z (List.mem_cons_of_mem _ hz)]
    rfl
theorem altsL_ne : ∀ (s acc : List UInt8), k8 acc s ≠ []
  | [], acc => by simp [k8]
  | [c], acc => by simp [k8]
  | c :: d :: r, acc => by
    rw [k8]
    split
    · simp
    · exact altsL_ne (d :: r) _
theorem joinB_cons (sep x : List UInt8) {l : List (List UInt8)} (h : l ≠ []) : gI sep (x :: l) = x ++ sep ++ gI sep l := by
  cases l with
  | nil => exact absurd rfl h
  | cons y l => rfl
theorem tZ : ∀ (s acc : List UInt8), ∀ x ∈ k8 acc s, x.length ≤ acc.length + s.length
  | [], acc, x, hx => by
    have : x = acc := by simpa [k8] using hx
    subst this; simp
  | [c], acc, x, hx => by
    have : x = acc ++ [c] := by simpa [k8] using hx
    subst this; simp
  | c :: d :: r, acc, x, hx => by
    rw [k8] at hx
    split at hx
    · rcases List.mem_cons.1 hx with rfl | hx
      · simp only [List.length_cons]; omega
      · have := tZ r [] x hx
        simp only [List.length_cons, List.length_nil] at this ⊢; omega
    · have := tZ (d :: r) (acc ++ [c]) x hx
      simp only [List.length_append, List.length_cons, List.length_nil] at this ⊢; omega
theorem pT : ∀ (s acc : List UInt8), (k8 acc s).length ≤ s.length + 1
  | [], acc => by simp [k8]
  | [c], acc => by simp [k8]
  | c :: d :: r, acc => by
    rw [k8]
    split
    · have := pT r []; simp only [List.length_cons]; omega
    · have := pT (d :: r) (acc ++ [c]); simp only [List.length_cons] at this ⊢; omega
inductive Two {α β : Type} (R : α → β → Prop) : List α → List β → Prop
  | nil : Two R [] []
  | cons {x : α} {y : β} {l : List α} {m : List β} (h : R x y) (t : Two R l m) : Two R (x :: l) (y :: m)
theorem Two.all {α β : Type} {R : α → β → Prop} {f : α → Option β} : ∀ {l : List α} {m : List β}, Two R l m → (∀ x y, x ∈ l → y ∈ m → R x y → f x = some y) → uK f l = some m
  | _, _, .nil, _ => rfl
  | _, _, .cons h t, hf => allO_cons (hf _ _ (List.mem_cons_self ..) (List.mem_cons_self ..) h) (t.all fun x y hx hy hr => hf x y (List.mem_cons_of_mem _ hx) (List.mem_cons_of_mem _ hy) hr)
theorem Two.left {α β : Type} {R : α → β → Prop} {P : α → Prop} : ∀ {l : List α} {m : List β}, Two R l m → (∀ x y, y ∈ m → R x y → P x) → ∀ x ∈ l, P x
  | _, _, .cons h t, hf, x, hx => by
    rcases List.mem_cons.1 hx with rfl | hx
    · exact hf _ _ (List.mem_cons_self ..) h
    · exact t.left (fun x y hy hr => hf x y (List.mem_cons_of_mem _ hy) hr) x hx
def mD (s : List UInt8) (c : Co) : Prop := ∃ n m, s = kW n ++ c.text ++ kW m
def jO (s : List UInt8) (a : List Co) : Prop := ∃ ps, s = zY 44 ps ∧ Two mD ps a ∧ ps ≠ []
def mC (s : List UInt8) (r : List (List Co)) : Prop := ∃ l, s = gI [124, 124] l ∧ Two jO l r ∧ l ≠ []
theorem blanks_no (b : UInt8) (hb : b ≠ 32) (n : Nat) : b ∉ kW n := fun h => hb (List.eq_of_mem_replicate h)
theorem text_ne {c : Co} (h : c.may = true) : c.text ≠ [] := by
  intro e
  have := (dT c.text c).2 ⟨h, .inl rfl⟩
  rw [e] at this
  revert this
  have : qE [] = none := by decide
  rw [this]; simp
theorem spellC_no {s : List UInt8} {c : Co} (h : c.may = true) (hs : mD s c) (b : UInt8) (hb : b ≠ 32) (hc : b ∉ c.text) : b ∉ s := by
  obtain ⟨n, m, rfl⟩ := hs
  simp only [List.mem_append, not_or]
  exact ⟨⟨blanks_no b hb n, hc⟩, blanks_no b hb m⟩
theorem spellC_parse {s : List UInt8} {c : Co} (h : c.may = true) (hs : mD s c) : parseP s = some c := by
  obtain ⟨n, m, rfl⟩ := hs
  unfold parseP
  rw [bareL_blanks n m (text_no32 h) (text_ne h), parseC_text h]
theorem join44_free (b : UInt8) (hb : b ≠ 44) : ∀ (l : List (List UInt8)), (∀ x ∈ l, b ∉ x) → b ∉ zY 44 l
  | [], _ => by simp [zY]
  | [x], h => h x (List.mem_singleton.2 rfl)
  | x :: y :: r, h => by
    rw [zY]
    simp only [List.mem_append, List.mem_cons, not_or]
    exact ⟨h x (List.mem_cons_self ..), hb, join44_free b hb (y :: r) fun z hz => h z (List.mem_cons_of_mem _ hz)⟩
theorem spellA_no {s : List UInt8} {a : List Co} (h : ∀ c ∈ a, c.may = true) (hs : jO s a) : (124 : UInt8) ∉ s := by
  obtain ⟨ps, rfl, ht, _⟩ := hs
  exact join44_free 124 (by decide) _ (ht.left fun x c hc hx => spellC_no (h c hc) hx 124 (by decide) (text_no124 (h c hc)))
theorem spellA_parse {s : List UInt8} {a : List Co} (h : ∀ c ∈ a, c.may = true) (hs : jO s a) : nY s = some a := by
  obtain ⟨ps, rfl, ht, hn⟩ := hs
  unfold nY
  rw [split44 ps hn (ht.left fun x c hc hx => spellC_no (h c hc) hx 44 (by decide) (text_no44 (h c hc)))]
  exact ht.all fun x c _ hc hx => spellC_parse (h c hc) hx
theorem spellR_parse {s : List UInt8} {r : List (List Co)} (h : ∀ a ∈ r, ∀ c ∈ a, c.may = true) (hs : mC s r) : gV s = some r := by
  obtain ⟨l, rfl, ht, hn⟩ := hs
  unfold gV
  rw [alts_join l hn (ht.left fun x a ha hx => spellA_no (h a ha) hx)]
  exact ht.all fun x a _ ha hx => spellA_parse (h a ha) hx
theorem blanks_app (n m : Nat) : kW n ++ kW m = kW (n + m) := List.replicate_append_replicate ..
theorem spellC_pad {s : List UInt8} {c : Co} (n m : Nat) (h : mD s c) : mD (kW n ++ s ++ kW m) c := by
  obtain ⟨a, b, rfl⟩ := h
  refine ⟨n + a, b + m, ?_⟩
  rw [← blanks_app, ← blanks_app]
  simp only [List.append_assoc]
theorem joinB_front {sep : List UInt8} (p x : List UInt8) (l : List (List UInt8)) : gI sep ((p ++ x) :: l) = p ++ gI sep (x :: l) := by
  cases l with
  | nil => rfl
  | cons y l => rw [vL, vL]; simp only [List.append_assoc]
theorem joinL_front (b : UInt8) (p x : List UInt8) (l : List (List UInt8)) : zY b ((p ++ x) :: l) = p ++ zY b (x :: l) := by
  rw [joinL_B, joinL_B, joinB_front]
theorem spellC_text (c : Co) : mD c.text c := ⟨0, 0, by simp [kW]⟩
theorem spellA_padL {s : List UInt8} {a : List Co} (n : Nat) (h : jO s a) : jO (kW n ++ s) a := by
  obtain ⟨ps, rfl, ht, hn⟩ := h
  cases ht with
  | nil => exact absurd rfl hn
  | @cons x c l m hx t =>
    refine ⟨(kW n ++ x) :: l, (joinL_front 44 _ x l).symm, .cons ?_ t, by simp⟩
    have := spellC_pad n 0 hx
    rwa [show kW 0 = [] from rfl, List.append_nil] at this
theorem spellA_one {s : List UInt8} {c : Co} (h : mD s c) : jO s [c] := ⟨[s], rfl, .cons h .nil, by simp⟩
theorem spellA_cons {s t : List UInt8} {c : Co} {a : List Co} (h : mD s c) (ha : jO t a) : jO (s ++ 44 :: t) (c :: a) := by
  obtain ⟨ps, rfl, ht, hn⟩ := ha
  refine ⟨s :: ps, ?_, .cons h ht, by simp⟩
  cases ps with
  | nil => exact absurd rfl hn
  | cons y l => rfl
theorem spellA_padR {s : List UInt8} {a : List Co} (n : Nat) (h : jO s a) : jO (s ++ kW n) a := by
  obtain ⟨ps, rfl, ht, hn⟩ := h
  induction ht with
  | nil => exact absurd rfl hn
  | @cons x c l m hx t ih =>
    cases l with
    | nil =>
      cases t
      refine spellA_one ?_
      have := spellC_pad 0 n hx
      rwa [show kW 0 = [] from rfl, List.nil_append] at this
    | cons y l =>
      rw [zY, List.append_assoc, List.cons_append]
      exact spellA_cons hx (ih (by simp))
theorem spellR_one {s : List UInt8} {a : List Co} (h : jO s a) : mC s [a] := ⟨[s], rfl, .cons h .nil, by simp⟩
theorem spellR_cons {s t : List UInt8} {a : List Co} {r : List (List Co)} (h : jO s a) (hr : mC t r) : mC (s ++ 124 :: 124 :: t) (a :: r) := by
  obtain ⟨l, rfl, ht, hn⟩ := hr
  refine ⟨s :: l, ?_, .cons h ht, by simp⟩
  rw [joinB_cons _ _ hn]; simp
theorem spellR_padL {s : List UInt8} {r : List (List Co)} (n : Nat) (h : mC s r) : mC (kW n ++ s) r := by
  obtain ⟨l, rfl, ht, hn⟩ := h
  cases ht with
  | nil => exact absurd rfl hn
  | @cons x a l m hx t => exact ⟨(kW n ++ x) :: l, (joinB_front _ x l).symm, .cons (spellA_padL n hx) t, by simp⟩
theorem altText_cons (c d : Co) (a : List Co) : x3 (c :: d :: a) = c.print ++ [44, 32] ++ x3 (d :: a) := rfl
theorem rgText_cons (a b : List Co) (r : List (List Co)) : xI (a :: b :: r) = x3 a ++ [32, 124, 124, 32] ++ xI (b :: r) := rfl
theorem spell_alt : ∀ (a : List Co), a ≠ [] → (∀ c ∈ a, c.may = true) → jO (x3 a) a
  | [], h, _ => absurd rfl h
  | [c], _, h => by
    show jO c.print [c]
    rw [gE (h c (List.mem_singleton.2 rfl))]
    exact spellA_one (spellC_text c)
  | c :: d :: a, _, h => by
    rw [altText_cons, gE (h c (List.mem_cons_self ..)), List.append_assoc]
    exact spellA_cons (spellC_text c) (spellA_padL 1 (spell_alt (d :: a) (by simp) fun x hx => h x (List.mem_cons_of_mem _ hx)))
theorem spell_rg : ∀ (r : List (List Co)), r ≠ [] → (∀ a ∈ r, a ≠ [] ∧ ∀ c ∈ a, c.may = true) → mC (xI r) r
  | [], h, _ => absurd rfl h
  | [a], _, h => by
    have h1 := h a (List.mem_singleton.2 rfl)
    exact spellR_one (spell_alt a h1.1 h1.2)
  | a :: b :: r, _, h => by
    have h1 := h a (List.mem_cons_self ..)
    rw [rgText_cons, show x3 a ++ [32, 124, 124, 32] ++ xI (b :: r) = (x3 a ++ kW 1) ++ 124 :: 124 :: (kW 1 ++ xI (b :: r)) from by simp [kW]]
    exact spellR_cons (spellA_padR 1 (spell_alt a h1.1 h1.2)) (spellR_padL 1 (spell_rg (b :: r) (by simp) fun x hx => h x (List.mem_cons_of_mem _ hx)))
theorem fewR_all {r : List (List Co)} (h : fewR r = true) : r ≠ [] ∧ ∀ a ∈ r, a ≠ [] ∧ ∀ c ∈ a, c.may = true := by
  obtain ⟨h1, h2⟩ := fewR.facts h
  refine ⟨fun e => by rw [e] at h1; simp at h1, fun a ha => ?_⟩
  obtain ⟨k1, k2⟩ := fewA.facts (h2 a ha)
  exact ⟨fun e => by rw [e] at k1; simp at k1, k2⟩
theorem parse_spelt {s : List UInt8} {r : List (List Co)} (h : rgMay r = true) (hs : mC s r) (hl : s.length ≤ 96) : xG s = some r := by
  unfold xG
  rw [if_neg (by omega), spellR_parse (fun a ha => ((fewR_all (rgMay.facts h).1).2 a ha).2) hs]
  simp [Option.filter, h]
theorem parse_text {r : List (List Co)} (h : rgMay r = true) : xG (xI r) = some r :=
  parse_spelt h (spell_rg r (fewR_all (rgMay.facts h).1).1 (fewR_all (rgMay.facts h).1).2) (rgMay.facts h).2
theorem wG {s : List UInt8} {r : List (List Co)} (h : xG s = some r) : vW s = 0 ∧ rgMay r = true ∧ gV s = some r ∧ s.length ≤ 96 := by
  unfold xG at h
  split at h
  · cases h
  · rename_i hl
    cases hp : gV s with
    | none => rw [hp] at h; cases h
    | some q =>
      rw [hp] at h
      unfold Option.filter at h
      simp only at h
      split at h
      · rename_i hm
        injection h with h
        subst h
        obtain ⟨k1, k2⟩ := rgMay.facts hm
        refine ⟨?_, hm, rfl, by omega⟩
        unfold vW
        rw [if_neg hl, hp]
        simp only
        rw [if_pos k1, if_pos k2]
      · cases h
theorem err_none {s : List UInt8} (h : xG s = none) : vW s = 3 ∨ vW s = 6 := by
  unfold xG at h
  unfold vW
  split at h
  · rename_i hl; rw [if_pos hl]; exact .inl rfl
  · rename_i hl
    rw [if_neg hl]
    cases hp : gV s with
    | none => exact .inr rfl
    | some q =>
      rw [hp] at h
      simp only
      cases h1 : fewR q with
      | false => exact .inr rfl
      | true =>
        rw [if_pos rfl]
        by_cases h2 : (xI q).length ≤ 96
        · exfalso
          have : rgMay q = true := by unfold rgMay; rw [h1, decide_eq_true h2]; rfl
          simp [Option.filter, this] at h
        · rw [if_neg h2]; exact .inl rfl
end
section
theorem nodup_le {α : Type} [DecidableEq α] : ∀ (l m : List α), l.Nodup → (∀ x ∈ l, x ∈ m) → l.length ≤ m.length
  | [], m, _, _ => Nat.zero_le _
  | x :: l, m, hn, hs => by
    have hx := hs x (List.mem_cons_self ..)
    have h1 := List.length_erase_of_mem hx
    have hn2 := List.nodup_cons.1 hn
    have h2 := nodup_le l (m.erase x) hn2.2 fun y hy => (List.mem_erase_of_ne (by rintro rfl; exact hn2.1 hy)).2 (hs y (List.mem_cons_of_mem _ hy))
    have h3 : 0 < m.length := List.length_pos_of_mem hx
    rw [List.length_cons]; omega
def flatC : List Sp → List Cu
  | [] => []
  | s :: l => s.lo :: s.hi :: flatC l
theorem flatC_len : ∀ (l : List Sp), (flatC l).length = 2 * l.length
  | [] => rfl
  | s :: l => by show (flatC l).length + 1 + 1 = 2 * (l.length + 1); rw [flatC_len l]; omega
theorem mT : ∀ {l : List Sp} {x : Cu}, x ∈ flatC l → ∃ s ∈ l, x = s.lo ∨ x = s.hi
  | s :: l, x, h => by
    rcases List.mem_cons.1 h with e | h
    · exact ⟨s, List.mem_cons_self .., .inl e⟩
    · rcases List.mem_cons.1 h with e | h
      · exact ⟨s, List.mem_cons_self .., .inr e⟩
      · obtain ⟨t, ht, e⟩ := mT h
        exact ⟨t, List.mem_cons_of_mem _ ht, e⟩
theorem flatC_nodup : ∀ {l : List Sp}, zK l = true → (flatC l).Nodup
  | [], _ => List.nodup_nil
  | s :: l, h => by
    have hs := xU h
    have hm := y6 hs
    have hlt := uL hs
    have haf := gA h
    have far : ∀ x ∈ flatC l, zM s.hi x < 0 := fun x hx => by
      obtain ⟨t, ht, e⟩ := mT hx
      have tm := x9 (kS h) t ht
      have t2 := y6 tm
      rcases e with rfl | rfl
      · exact haf t ht
      · exact xT hm.2 t2.1 t2.2 (haf t ht) (uL tm)
    have xm : ∀ x ∈ flatC l, x.may = true := fun x hx => by
      obtain ⟨t, ht, e⟩ := mT hx
      have t2 := y6 (x9 (kS h) t ht)
      rcases e with rfl | rfl
      · exact t2.1
      · exact t2.2
    refine List.nodup_cons.2 ⟨fun hx => ?_, List.nodup_cons.2 ⟨fun hx => ?_, flatC_nodup (kS h)⟩⟩
    · rcases List.mem_cons.1 hx with e | hx
      · rw [e, g7] at hlt; omega
      · have := xT hm.1 hm.2 (xm _ hx) hlt (far _ hx)
        rw [g7] at this; omega
    · have := far _ hx
      rw [g7] at this; omega
theorem row_half {l : List Sp} {C : List Cu} (h : zK l = true) (hc : ∀ s ∈ l, s.lo ∈ C ∧ s.hi ∈ C) : 2 * l.length ≤ C.length := by
  rw [← flatC_len]
  refine nodup_le _ _ (flatC_nodup h) fun x hx => ?_
  obtain ⟨s, hs, e⟩ := mT hx
  rcases e with rfl | rfl
  · exact (hc s hs).1
  · exact (hc s hs).2
theorem pO {p : Cu → Cu → Bool} {l : List Sp} (hl : ∀ s ∈ l, s.may = true) (h : zK (kV p [] (g6 l)) = true) : (kV p [] (g6 l)).length ≤ 1 + l.length := by
  have h1 := row_half h (pP p (· ∈ g6 l) (g6 l) [] (fun c hc => hc) (fun s hs => by simp at hs))
  have h2 := cuts_len hl
  omega
theorem RF.make1 {l : List Sp} {n : Nat} (hl : ∀ s ∈ l, s.may = true) (hn : l.length ≤ n) : RF (vU l) (1 + n) := ⟨(uR hl).1, by
  have := pO (p := inL l) hl (uR hl).1
  unfold vU; omega⟩
theorem RF.or1 {a b : List Sp} {n m : Nat} (ha : RF a n) (hb : RF b m) : RF (orL a b) (1 + (n + m)) := RF.make1 (wN ha.may hb.may) (by rw [List.length_append]; have := ha.len; have := hb.len; omega)
theorem RF.and1 {a b : List Sp} {n m : Nat} (ha : RF a n) (hb : RF b m) : RF (wP a b) (1 + (n + m)) := ⟨(and_ok ha.may hb.may).1, by
  have h1 := pO (p := fun c d => inL a c d && inL b c d) (wN ha.may hb.may) (and_ok ha.may hb.may).1
  have := ha.len; have := hb.len
  rw [List.length_append] at h1
  unfold wP; omega⟩
theorem RF.not1 {a : List Sp} {n : Nat} (ha : RF a n) : RF (jD a) (1 + n) := ⟨(bF ha.may).1, by
  have h1 := pO (p := fun c d => !inL a c d) (x9 ha.may) (bF ha.may).1
  have := ha.len
  unfold jD; omega⟩
theorem RF.rel1 {a : List Sp} {n : Nat} (ha : RF a n) : RF (gM a) (1 + n) := RF.make1 (dY a) (by
  have := List.length_filter_le (fun s : Sp => s.may) (a.map jQ)
  rw [List.length_map] at this
  have := ha.len; omega)
theorem SF.or1 {a b : St} {n m : Nat} (ha : SF a n) (hb : SF b m) : SF (orT a b) (1 + (n + m)) := ⟨ha.rel.or1 hb.rel, ha.pre.or1 hb.pre, ha.right.or hb.right⟩
theorem one_r1 (lo hi : Cu) : RF (kF lo hi) 1 := ⟨oneRow_may lo hi, by have := n5 [] lo hi; unfold kF; simpa using this⟩
theorem uW (c : Co) : RF c.region 2 := by
  unfold Co.region
  split
  · split
    · exact (one_r1 _ _).not1
    · exact (one_r1 _ _).le (by decide)
  · exact nil_rf.le (by decide)
theorem mE (c : Co) : RF c.zone 1 := ⟨zone_may, by unfold Co.zone; split <;> simp⟩
def xR (a : List Co) : List Sp := a.foldl (fun l c => wP l c.region) nM
def xO (a : List Co) : List Sp := a.foldl (fun l c => orL l c.zone) []
def x8 (a : List Co) : St := ⟨gM (xR a), wP (xR a) (xO a)⟩
def xF (r : List (List Co)) : St := r.foldl (fun s a => orT s (x8 a)) gD
def yF (r : List (List Co)) : St := if rgMay r then xF r else gD
theorem mA (a : List Co) (c : Co) : xR (a ++ [c]) = wP (xR a) c.region := by unfold xR; rw [List.foldl_append]; rfl
theorem fD (a : List Co) (c : Co) : xO (a ++ [c]) = orL (xO a) c.zone := by unfold xO; rw [List.foldl_append]; rfl
theorem p4 (r : List (List Co)) (a : List Co) : xF (r ++ [a]) = orT (xF r) (x8 a) := by unfold xF; rw [List.foldl_append]; rfl
theorem bR {α : Type} {P : List α → Prop} (h0 : P []) (h1 : ∀ l x, P l → P (l ++ [x])) (l : List α) : P l := by
  have : ∀ n (l : List α), l.length = n → P l := by
    intro n
    induction n with
    | zero => intro l hl; rw [List.length_eq_zero_iff.1 hl]; exact h0
    | succ n ih =>
      intro l hl
      have hne : l ≠ [] := by rintro rfl; simp at hl
      rw [← List.dropLast_concat_getLast hne]
      exact h1 _ _ (ih _ (by rw [List.length_dropLast, hl]; rfl))
  exact this _ l rfl
theorem jC (a : List Co) : RF (xR a) (1 + 3 * a.length) :=
  bR (P := fun a => RF (xR a) (1 + 3 * a.length)) whole_rf (fun l x h => by
    rw [mA, List.length_append]
    exact (h.and1 (uW x)).le (by simp; omega)) a
theorem wO (a : List Co) : RF (xO a) (2 * a.length) :=
  bR (P := fun a => RF (xO a) (2 * a.length)) nil_rf (fun l x h => by
    rw [fD, List.length_append]
    exact (h.or1 (mE x)).le (by simp; omega)) a
theorem dJ (a : List Co) : SF (x8 a) (2 + 5 * a.length) := ⟨(jC a).rel1.le (by omega), ((jC a).and1 (wO a)).le (by omega), makeRel_right (x9 (jC a).may)⟩
theorem orAll_sf {n : Nat} (r : List (List Co)) : (∀ a ∈ r, a.length ≤ n) → SF (xF r) (r.length * (3 + 5 * n)) :=
  bR (P := fun r => (∀ a ∈ r, a.length ≤ n) → SF (xF r) (r.length * (3 + 5 * n))) (fun _ => by rw [List.length_nil, Nat.zero_mul]; exact none_sf) (fun l x h ha => by
    rw [p4, List.length_append]
    have h1 := h fun a hm => ha a (List.mem_append.2 (.inl hm))
    have h2 := (dJ x).le (m := 2 + 5 * n) (by have := ha x (by simp); omega)
    refine (h1.or1 h2).le ?_
    show _ ≤ (l.length + 1) * (3 + 5 * n)
    rw [Nat.add_mul, Nat.one_mul]; omega) r
theorem orAll_few {r : List (List Co)} (h : fewR r = true) : SF (xF r) 198 := by
  obtain ⟨h1, h2⟩ := fewR.facts h
  refine (orAll_sf (n := 6) r fun a ha => ((fewA.facts (h2 a ha)).1).2).le ?_
  show r.length * 33 ≤ 198
  omega
theorem bX (r : List (List Co)) : SF (yF r) 198 := by
  unfold yF
  split
  · rename_i h; exact orAll_few (rgMay.facts h).1
  · exact none_sf.le (by decide)
theorem altRel_den (a : List Co) {x : Cu} (hx : x.may = true) (he : zM x (y5 1) < 0) : den (xR a) x = a.all fun c => den c.region x :=
  bR (P := fun a => den (xR a) x = a.all fun c => den c.region x) (whole_den hx he) (fun l c h => by
    rw [mA, (and_ok (jC l).may (uW c).may).2 x hx he, h]; simp) a
theorem altZone_den (a : List Co) {x : Cu} (hx : x.may = true) (he : zM x (y5 1) < 0) : den (xO a) x = a.any fun c => den c.zone x :=
  bR (P := fun a => den (xO a) x = a.any fun c => den c.zone x) rfl (fun l c h => by
    rw [fD, (or_ok (wO l).may (mE c).may).2 x hx he, h]; simp) a
theorem altRel_has (a : List Co) {v : Ver} (hv : v.may = true) : xM (xR a) v = a.all fun c => xM c.region v := by
  rw [vX (jC a).may hv, altRel_den a (qO hv) (jW hv)]
  congr 1; funext c; rw [vX (uW c).may hv]
theorem altZone_has (a : List Co) {v : Ver} (hv : v.may = true) : xM (xO a) v = a.any fun c => xM c.zone v := by
  rw [vX (wO a).may hv, altZone_den a (qO hv) (jW hv)]
  congr 1; funext c; rw [vX (mE c).may hv]
theorem altSet_has (a : List Co) {v : Ver} (hv : v.may = true) : qC (x8 a) v = ((a.all fun c => xM c.region v) && (decide (v.pre = []) || a.any fun c => xM c.zone v)) := by
  rw [has_may (dJ a) hv, ← altRel_has a hv, ← altZone_has a hv]
  by_cases hp : v.pre = []
  · rw [if_pos hp, decide_eq_true hp, Bool.true_or, Bool.and_true]
    exact makeRel_has (jC a).may hv hp
  · rw [if_neg hp, decide_eq_false hp, Bool.false_or]
    exact has_and4 (jC a).may (wO a).may hv
theorem orAll_may (r : List (List Co)) : ∃ n, SF (xF r) n := by
  have : ∃ n, ∀ a ∈ r, a.length ≤ n := by
    induction r with
    | nil => exact ⟨0, fun a h => by simp at h⟩
    | cons a r ih =>
      obtain ⟨n, h⟩ := ih
      refine ⟨a.length + n, fun b hb => ?_⟩
      rcases List.mem_cons.1 hb with rfl | hb
      · omega
      · have := h b hb; omega
  obtain ⟨n, h⟩ := this
  exact ⟨_, orAll_sf r h⟩
theorem orAll_has (r : List (List Co)) {v : Ver} (hv : v.may = true) : qC (xF r) v = r.any fun a => qC (x8 a) v :=
  bR (P := fun r => qC (xF r) v = r.any fun a => qC (x8 a) v) setHas_none (fun l a h => by
    obtain ⟨n, hl⟩ := orAll_may l
    rw [p4, setHas_or hl (dJ a) hv, h]; simp) r
theorem orT_none {s : St} {n : Nat} (h : SF s n) : orT gD s = s := St.eq
  (wY _ _ (nil_rf.or1 h.rel).may h.rel.may fun x hx he => by show den (orL [] _) x = _; rw [(or_ok nil_rf.may h.rel.may).2 x hx he]; rfl)
  (wY _ _ (nil_rf.or1 h.pre).may h.pre.may fun x hx he => by show den (orL [] _) x = _; rw [(or_ok nil_rf.may h.pre.may).2 x hx he]; rfl)
theorem orAll_one (a : List Co) : xF [a] = x8 a := orT_none (dJ a)
theorem joinB_mem (sep : List UInt8) : ∀ {l : List (List UInt8)} {x : List UInt8}, x ∈ l → x.length ≤ (gI sep l).length
  | [y], x, h => by rw [List.mem_singleton.1 h]; exact Nat.le_refl _
  | y :: z :: l, x, h => by
    rw [vL, List.length_append, List.length_append]
    rcases List.mem_cons.1 h with rfl | h
    · omega
    · have := joinB_mem sep h; omega
theorem one_may {r : List (List Co)} {a : List Co} (h : rgMay r = true) (ha : a ∈ r) : rgMay [a] = true := by
  obtain ⟨h1, h2⟩ := rgMay.facts h
  obtain ⟨h3, h4⟩ := fewR.facts h1
  unfold rgMay fewR
  have : (xI [a]).length ≤ 96 := Nat.le_trans (joinB_mem _ (List.mem_map.2 ⟨a, ha, rfl⟩) : (x3 a).length ≤ _) h2
  rw [decide_eq_true this]
  simp [h4 a ha]
theorem rgSet_one {r : List (List Co)} {a : List Co} (h : rgMay r = true) (ha : a ∈ r) : yF [a] = x8 a := by
  unfold yF
  rw [if_pos (one_may h ha), orAll_one]
theorem rgSet_has {r : List (List Co)} (h : rgMay r = true) {v : Ver} (hv : v.may = true) : qC (yF r) v = r.any fun a => (a.all fun c => xM c.region v) && (decide (v.pre = []) || a.any fun c => xM c.zone v) := by
  unfold yF
  rw [if_pos h, orAll_has r hv]
  congr 1; funext a; exact altSet_has a hv
end
section
theorem uS {W : World} {v : Value} {l : List Int} (hv : ReadsI W W.heap.size v l) (hl : l.length ≤ 9223372036854775807) (i : Nat) (n : Int) (hi : i ≤ 1000000) (hn : 0 < n) (hn2 : n ≤ 1000000) {k : Int} (hk : plc (atL l i) n = k) :
    ∀ w, Below W.heap.size W w → Calls Tryz.prog 51 #[v, .int .i64 i, .int .i64 n] w fun e w' => e = .returned (.int .i64 k) ∧ Below w.heap.size w w' := fun w hb => by
  have h := from_any v l i n w ((hv.below hb).more hb.size) hl hi hn hn2
  rw [hk] at h
  exact h.mono fun _ _ ⟨e1, e2⟩ => ⟨e1, e2 ▸ Below.refl _ _⟩
theorem jH (v : Int) (n : Nat) (hn : 0 < n) : ∃ k : Nat, plc v n = (k : Int) ∧ k < n := by
  have h := plc_in v n (by omega)
  exact ⟨(plc v n).toNat, (Int.toNat_of_nonneg h.1).symm, by omega⟩
theorem rd_num : ∀ (k : Nat), k < 8 → kN Tryz.prog 3 #[.int .i64 0, .int .i64 1, .int .i64 2, .int .i64 3, .int .i64 0, .int .i64 1, .int .i64 10, .int .i64 9999] k = some (.int .i64 (wC k))
  | 0, _ => by kernel_rfl
  | 1, _ => by kernel_rfl
  | 2, _ => by kernel_rfl
  | 3, _ => by kernel_rfl
  | 4, _ => by kernel_rfl
  | 5, _ => by kernel_rfl
  | 6, _ => by kernel_rfl
  | 7, _ => by kernel_rfl
theorem rd_pre : ∀ (k : Nat), k < 14 → kN Tryz.prog 9 #[.string ⟨#[]⟩, .string ⟨#[]⟩, .string ⟨#[]⟩, .string ⟨#[]⟩, .string ⟨#[48]⟩, .string ⟨#[49]⟩, .string ⟨#[50]⟩, .string ⟨#[49, 49]⟩, .string ⟨#[97]⟩, .string ⟨#[97, 46, 49]⟩, .string ⟨#[97, 46, 98]⟩, .string ⟨#[98]⟩, .string ⟨#[48, 46, 48]⟩, .string ⟨#[114, 99, 46, 49]⟩] k = some (.string (mkS (wB k)))
  | 0, _ => by kernel_rfl
  | 1, _ => by kernel_rfl
  | 2, _ => by kernel_rfl
  | 3, _ => by kernel_rfl
  | 4, _ => by kernel_rfl
  | 5, _ => by kernel_rfl
  | 6, _ => by kernel_rfl
  | 7, _ => by kernel_rfl
  | 8, _ => by kernel_rfl
  | 9, _ => by kernel_rfl
  | 10, _ => by kernel_rfl
  | 11, _ => by kernel_rfl
  | 12, _ => by kernel_rfl
  | 13, _ => by kernel_rfl
theorem rd_bld : ∀ (k : Nat), k < 6 → kN Tryz.prog 9 #[.string ⟨#[]⟩, .string ⟨#[]⟩, .string ⟨#[]⟩, .string ⟨#[]⟩, .string ⟨#[48, 48, 55]⟩, .string ⟨#[120, 46, 49]⟩] k = some (.string (mkS (bldT k)))
  | 0, _ => by kernel_rfl
  | 1, _ => by kernel_rfl
  | 2, _ => by kernel_rfl
  | 3, _ => by kernel_rfl
  | 4, _ => by kernel_rfl
  | 5, _ => by kernel_rfl
theorem gen_any (v : Value) (l : List Int) (i : Nat) (W : World) (hv : ReadsI W W.heap.size v l) (hl : l.length ≤ 9223372036854775807) (hi : i ≤ 100000) :
    Calls Tryz.prog 26 #[v, .int .i64 (i : Int)] W fun e w' => e = .returned (yJ (zO l i)) ∧ Below W.heap.size W w' := by
  obtain ⟨k0, e0, q0⟩ := jH (atL l i) 8 (by omega)
  have f0 := uS hv hl i 8 (by omega) (by omega) (by omega) e0
  obtain ⟨k1, e1, q1⟩ := jH (atL l (i + 1)) 8 (by omega)
  have f1 := uS hv hl (i + 1) 8 (by omega) (by omega) (by omega) e1
  obtain ⟨k2, e2, q2⟩ := jH (atL l (i + 2)) 8 (by omega)
  have f2 := uS hv hl (i + 2) 8 (by omega) (by omega) (by omega) e2
  obtain ⟨k3, e3, q3⟩ := jH (atL l (i + 3)) 14 (by omega)
  have f3 := uS hv hl (i + 3) 14 (by omega) (by omega) (by omega) e3
  obtain ⟨k4, e4, q4⟩ := jH (atL l (i + 4)) 6 (by omega)
  have f4 := uS hv hl (i + 4) 6 (by omega) (by omega) (by omega) e4
  have hg : zO l i = ⟨wC k0, wC k1, wC k2, wB k3, bldT k4⟩ := by unfold zO; rw [show plc (atL l i) 8 = _ from e0, show plc (atL l (i + 1)) 8 = _ from e1, show plc (atL l (i + 2)) 8 = _ from e2, show plc (atL l (i + 3)) 14 = _ from e3, show plc (atL l (i + 4)) 6 = _ from e4]; rfl
  rw [hg]
  refine zP (n := 41) Tryz.func26 rfl (by kernel_rfl) (by kernel_rfl) (ZO (Za (.agg #[.int .i64 0, .int .i64 0, .int .i64 0, .string ⟨#[]⟩, .string ⟨#[]⟩]) (fun b1 => ZR (Zv (.agg #[.int .i64 0, .int .i64 1, .int .i64 2, .int .i64 3, .int .i64 0, .int .i64 1, .int .i64 10, .int .i64 9999]) (Za (.agg #[.int .i64 0, .int .i64 0, .int .i64 0, .int .i64 0, .int .i64 0, .int .i64 0, .int .i64 0, .int .i64 0]) (fun b2 => Zs 0 ⟨b2, #[.int .i64 0, .int .i64 0, .int .i64 0, .int .i64 0, .int .i64 0, .int .i64 0, .int .i64 0, .int .i64 0], 70⟩ (off := 0) (.agg #[.int .i64 0, .int .i64 1, .int .i64 2, .int .i64 3, .int .i64 0, .int .i64 1, .int .i64 10, .int .i64 9999]) (zR ?_)))))))
  refine zA (ZO (Zv (.agg #[.string ⟨#[]⟩, .string ⟨#[]⟩, .string ⟨#[]⟩, .string ⟨#[]⟩, .string ⟨#[48]⟩, .string ⟨#[49]⟩, .string ⟨#[50]⟩, .string ⟨#[49, 49]⟩, .string ⟨#[97]⟩, .string ⟨#[97, 46, 49]⟩, .string ⟨#[97, 46, 98]⟩, .string ⟨#[98]⟩, .string ⟨#[48, 46, 48]⟩, .string ⟨#[114, 99, 46, 49]⟩]) (Za (.agg #[.string ⟨#[]⟩, .string ⟨#[]⟩, .string ⟨#[]⟩, .string ⟨#[]⟩, .string ⟨#[]⟩, .string ⟨#[]⟩, .string ⟨#[]⟩, .string ⟨#[]⟩, .string ⟨#[]⟩, .string ⟨#[]⟩, .string ⟨#[]⟩, .string ⟨#[]⟩, .string ⟨#[]⟩, .string ⟨#[]⟩]) (fun b3 => Zs 0 ⟨b3, #[.string ⟨#[]⟩, .string ⟨#[]⟩, .string ⟨#[]⟩, .string ⟨#[]⟩, .string ⟨#[]⟩, .string ⟨#[]⟩, .string ⟨#[]⟩, .string ⟨#[]⟩, .string ⟨#[]⟩, .string ⟨#[]⟩, .string ⟨#[]⟩, .string ⟨#[]⟩, .string ⟨#[]⟩, .string ⟨#[]⟩], 71⟩ (off := 0) (.agg #[.string ⟨#[]⟩, .string ⟨#[]⟩, .string ⟨#[]⟩, .string ⟨#[]⟩, .string ⟨#[48]⟩, .string ⟨#[49]⟩, .string ⟨#[50]⟩, .string ⟨#[49, 49]⟩, .string ⟨#[97]⟩, .string ⟨#[97, 46, 49]⟩, .string ⟨#[97, 46, 98]⟩, .string ⟨#[98]⟩, .string ⟨#[48, 46, 48]⟩, .string ⟨#[114, 99, 46, 49]⟩]) (ZR (Zv (.agg #[.string ⟨#[]⟩, .string ⟨#[]⟩, .string ⟨#[]⟩, .string ⟨#[]⟩, .string ⟨#[48, 48, 55]⟩, .string ⟨#[120, 46, 49]⟩]) (Za (.agg #[.string ⟨#[]⟩, .string ⟨#[]⟩, .string ⟨#[]⟩, .string ⟨#[]⟩, .string ⟨#[]⟩, .string ⟨#[]⟩]) (fun b4 => ?_))))))))
  refine Zs 0 ⟨b4, #[.string ⟨#[]⟩, .string ⟨#[]⟩, .string ⟨#[]⟩, .string ⟨#[]⟩, .string ⟨#[]⟩, .string ⟨#[]⟩], 72⟩ (off := 0) (.agg #[.string ⟨#[]⟩, .string ⟨#[]⟩, .string ⟨#[]⟩, .string ⟨#[]⟩, .string ⟨#[48, 48, 55]⟩, .string ⟨#[120, 46, 49]⟩]) (ZN (z6 (ok_drawt 30 (by kernel_rfl) (by kernel_rfl) (by kernel_rfl) ?_)))
  simp only [List.take_succ_cons, List.take_zero, List.drop_succ_cons, List.drop_zero]
  refine Zw (v) (Zw (.int .i64 ((i : Nat) : Int)) (Zq (k := 51) (args := #[v, .int .i64 ((i : Nat) : Int), .int .i64 8]) (.int .i64 (k0 : Int)) (fun w hO => f0 w hO.below) (kX (.pointer (some ⟨b2, k0, none⟩)) (by kernel_rfl) (bT (b := b2) (off := 0) (k := .i64) (j := (k0 : Int)) (n := 8) (e := 3) (sz := 1) rfl (by kernel_rfl) (by kernel_rfl) (by kernel_rfl) (by kernel_rfl) (by omega) (by omega) (by omega)) (v7 2 ⟨b2, #[.int .i64 0, .int .i64 1, .int .i64 2, .int .i64 3, .int .i64 0, .int .i64 1, .int .i64 10, .int .i64 9999], 70⟩ (off := k0) (.int .i64 (wC k0)) (by kernel_rfl) rfl (by kernel_rfl) (by kernel_rfl) (rd_num k0 q0) (Zw (v) (Zw (.int .i64 ((i : Nat) : Int)) (tC (k := .i64) (((i + 1 : Nat) : Int)) (by kernel_rfl) (fun _ => by kernel_rfl) (IntWalk.i64_in _ (by omega)) (Zq (k := 51) (args := #[v, .int .i64 ((i + 1 : Nat) : Int), .int .i64 8]) (.int .i64 (k1 : Int)) (fun w hO => f1 w hO.below) (kX (.pointer (some ⟨b2, k1, none⟩)) (by kernel_rfl) (bT (b := b2) (off := 0) (k := .i64) (j := (k1 : Int)) (n := 8) (e := 3) (sz := 1) rfl (by kernel_rfl) (by kernel_rfl) (by kernel_rfl) (by kernel_rfl) (by omega) (by omega) (by omega)) (v7 2 ⟨b2, #[.int .i64 0, .int .i64 1, .int .i64 2, .int .i64 3, .int .i64 0, .int .i64 1, .int .i64 10, .int .i64 9999], 70⟩ (off := k1) (.int .i64 (wC k1)) (by kernel_rfl) rfl (by kernel_rfl) (by kernel_rfl) (rd_num k1 q1) (Zw (v) ?_)))))))))))
  refine Zw (.int .i64 ((i : Nat) : Int)) (tC (k := .i64) (((i + 2 : Nat) : Int)) (by kernel_rfl) (fun _ => by kernel_rfl) (IntWalk.i64_in _ (by omega)) (Zq (k := 51) (args := #[v, .int .i64 ((i + 2 : Nat) : Int), .int .i64 8]) (.int .i64 (k2 : Int)) (fun w hO => f2 w hO.below) (kX (.pointer (some ⟨b2, k2, none⟩)) (by kernel_rfl) (bT (b := b2) (off := 0) (k := .i64) (j := (k2 : Int)) (n := 8) (e := 3) (sz := 1) rfl (by kernel_rfl) (by kernel_rfl) (by kernel_rfl) (by kernel_rfl) (by omega) (by omega) (by omega)) (v7 2 ⟨b2, #[.int .i64 0, .int .i64 1, .int .i64 2, .int .i64 3, .int .i64 0, .int .i64 1, .int .i64 10, .int .i64 9999], 70⟩ (off := k2) (.int .i64 (wC k2)) (by kernel_rfl) rfl (by kernel_rfl) (by kernel_rfl) (rd_num k2 q2) (Zw (v) (Zw (.int .i64 ((i : Nat) : Int)) (tC (k := .i64) (((i + 3 : Nat) : Int)) (by kernel_rfl) (fun _ => by kernel_rfl) (IntWalk.i64_in _ (by omega)) (Zq (k := 51) (args := #[v, .int .i64 ((i + 3 : Nat) : Int), .int .i64 14]) (.int .i64 (k3 : Int)) (fun w hO => f3 w hO.below) (kX (.pointer (some ⟨b3, k3, none⟩)) (by kernel_rfl) (bT (b := b3) (off := 0) (k := .i64) (j := (k3 : Int)) (n := 14) (e := 9) (sz := 1) rfl (by kernel_rfl) (by kernel_rfl) (by kernel_rfl) (by kernel_rfl) (by omega) (by omega) (by omega)) (v7 1 ⟨b3, #[.string ⟨#[]⟩, .string ⟨#[]⟩, .string ⟨#[]⟩, .string ⟨#[]⟩, .string ⟨#[48]⟩, .string ⟨#[49]⟩, .string ⟨#[50]⟩, .string ⟨#[49, 49]⟩, .string ⟨#[97]⟩, .string ⟨#[97, 46, 49]⟩, .string ⟨#[97, 46, 98]⟩, .string ⟨#[98]⟩, .string ⟨#[48, 46, 48]⟩, .string ⟨#[114, 99, 46, 49]⟩], 71⟩ (off := k3) (.string (mkS (wB k3))) (by kernel_rfl) rfl (by kernel_rfl) (by kernel_rfl) (rd_pre k3 q3) (Zw (v) ?_)))))))))))
  refine Zw (.int .i64 ((i : Nat) : Int)) (tC (k := .i64) (((i + 4 : Nat) : Int)) (by kernel_rfl) (fun _ => by kernel_rfl) (IntWalk.i64_in _ (by omega)) (Zq (k := 51) (args := #[v, .int .i64 ((i + 4 : Nat) : Int), .int .i64 6]) (.int .i64 (k4 : Int)) (fun w hO => f4 w hO.below) (kX (.pointer (some ⟨b4, k4, none⟩)) (by kernel_rfl) (bT (b := b4) (off := 0) (k := .i64) (j := (k4 : Int)) (n := 6) (e := 9) (sz := 1) rfl (by kernel_rfl) (by kernel_rfl) (by kernel_rfl) (by kernel_rfl) (by omega) (by omega) (by omega)) (v7 0 ⟨b4, #[.string ⟨#[]⟩, .string ⟨#[]⟩, .string ⟨#[]⟩, .string ⟨#[]⟩, .string ⟨#[48, 48, 55]⟩, .string ⟨#[120, 46, 49]⟩], 72⟩ (off := k4) (.string (mkS (bldT k4))) (by kernel_rfl) rfl (by kernel_rfl) (by kernel_rfl) (rd_bld k4 q4) (Zw (.agg #[.int .i64 (wC k0), .int .i64 (wC k1), .int .i64 (wC k2), .string (mkS (wB k3)), .string (mkS (bldT k4))]) (kZ (Zs 3 ⟨b1, #[.int .i64 0, .int .i64 0, .int .i64 0, .string ⟨#[]⟩, .string ⟨#[]⟩], 44⟩ (off := 0) (.agg #[.int .i64 (wC k0), .int .i64 (wC k1), .int .i64 (wC k2), .string (mkS (wB k3)), .string (mkS (bldT k4))]) (ZN (zB (ZC 3 ⟨b1, #[.int .i64 (wC k0), .int .i64 (wC k1), .int .i64 (wC k2), .string (mkS (wB k3)), .string (mkS (bldT k4))], 44⟩ (off := 0) (.agg #[.int .i64 (wC k0), .int .i64 (wC k1), .int .i64 (wC k2), .string (mkS (wB k3)), .string (mkS (bldT k4))]) Tryz.results26 ?_))))))))))
  exact fun w hO => ⟨rfl, hO.below⟩
end
section
def ordSp (c d : Cu) : Sp := if 0 < zM c d then ⟨d, c⟩ else ⟨c, d⟩
def spG (l : List Int) (i n : Nat) : Sp := ordSp (genC l (i + 12 * n - 11)) (genC l (i + 12 * n - 5))
def spansG (l : List Int) (i : Nat) : Nat → List Sp
  | 0 => []
  | n + 1 => (if (spG l i (n + 1)).may then [spG l i (n + 1)] else []) ++ spansG l i n
structure SpI (l : List Int) (i N n : Nat) (z : Int) (u : Value) (acc : List Sp) (ob : List Blk) : Prop where
  z : z = (n : Int)
  sl : SlS u acc ob
  len : acc.length + n ≤ N
  eq : acc ++ spansG l i n = spansG l i N
end
section
def rowG (l : List Int) (i : Nat) : List Sp := vU (spansG l i (plc (atL l i) (4 + 1 : Nat)).toNat)
end
section
end
section
theorem core_short {v : Ver} (h : v.short) : (kP v).short := ⟨h.1, by show ([] : List UInt8).length ≤ _; exact Nat.zero_le _⟩
theorem next_flat (v : Ver) : (x2 v).pre = [] ∧ (x2 v).build = [] := by
  cases h : v.may with
  | false => unfold x2; rw [h]; exact ⟨rfl, rfl⟩
  | true =>
    rcases next_is h with ⟨h1, h2, _⟩ | ⟨_, a, b, c, e, _⟩
    · unfold gG at h1
      rw [h, h2] at h1
      simp at h1
      unfold x2
      simp [h, h2, h1]
      exact ⟨rfl, rfl⟩
    · rw [e]; exact ⟨rfl, rfl⟩
theorem next_short (v : Ver) : (x2 v).short := ⟨by rw [(next_flat v).1]; exact Nat.zero_le _, by rw [(next_flat v).2]; exact Nat.zero_le _⟩
theorem relV_short (v : Ver) : (n7 v).short := ⟨by show ([] : List UInt8).length ≤ _; exact Nat.zero_le _, by show ([] : List UInt8).length ≤ _; exact Nat.zero_le _⟩
theorem rleast_any (v : Ver) (W : World) : Calls Tryz.prog 97 #[yJ v] W fun e w' => e = .returned (.bool (qX v)) ∧ Below W.heap.size W w' := by
  refine zP (n := 16) Tryz.func97 rfl (by kernel_rfl) (by kernel_rfl) (ZO (Zb (yJ v) (fun b1 => Zv (.bool false) (ZR (Zv (.pointer (some ⟨b1, 0, none⟩)) (Zl 0 ⟨b1, (yJ v).cells, 44⟩ (off := 0) (.int .i64 v.maj) ?_))))))
  by_cases h1 : (v.maj : Int) = 0
  · refine zW (p := (v.maj : Int) = 0) true (by kernel_rfl) (fun _ => by kernel_rfl) (decide_eq_true (h1)) ?_
    refine Zv (.bool true) (Zv (.pointer (some ⟨b1, 1, none⟩)) (Zl 0 ⟨b1, (yJ v).cells, 44⟩ (off := 1) (.int .i64 v.min) ?_))
    by_cases h2 : (v.min : Int) = 0
    · refine zW (p := (v.min : Int) = 0) true (by kernel_rfl) (fun _ => by kernel_rfl) (decide_eq_true (h2)) ?_
      refine Zv (.bool true) (Zv (.bool true) (Zv (.pointer (some ⟨b1, 2, none⟩)) (Zl 0 ⟨b1, (yJ v).cells, 44⟩ (off := 2) (.int .i64 v.pat) ?_)))
      by_cases h3 : (v.pat : Int) = 0
      · refine zW (p := (v.pat : Int) = 0) true (by kernel_rfl) (fun _ => by kernel_rfl) (decide_eq_true (h3)) ?_
        exact Zv (.bool true) (Zv (.bool true) (ZN (zB (ZF (.bool true) Tryz.results97 (fun w hO => ⟨by simp [qX, h1, h2, h3], hO.below⟩)))))
      exact Zd (p := (v.pat : Int) = 0) false (decide_eq_false (h3)) (Zv (.bool false) (Zv (.bool false) (ZN (zB (ZF (.bool false) Tryz.results97 (fun w hO => ⟨by simp [qX, h1, h2, h3], hO.below⟩))))))
    refine Zd (p := (v.min : Int) = 0) false (decide_eq_false (h2)) (Zv (.bool false) (Zv (.bool false) (Zk (Zk (Zk (Zv (.bool false) (Zv (.bool false) (ZN (zB (ZF (.bool false) Tryz.results97 ?_))))))))))
    exact fun w hO => ⟨by simp [qX, h1, h2], hO.below⟩
  refine Zd (p := (v.maj : Int) = 0) false (decide_eq_false (h1)) (Zv (.bool false) (Zk (Zk (Zk (Zv (.bool false) (Zv (.bool false) (Zk (Zk (Zk (Zv (.bool false) (Zv (.bool false) ?_)))))))))))
  exact ZN (zB (ZF (.bool false) Tryz.results97 (fun w hO => ⟨by simp [qX, h1], hO.below⟩)))
theorem rright_any (c : Cu) (W : World) : Calls Tryz.prog 55 #[zD c] W fun e w' => e = .returned (.bool (x6 c)) ∧ Below W.heap.size W w' := by
  refine zP (n := 23) Tryz.func55 rfl (by kernel_rfl) (by kernel_rfl) (ZO (Zb (zD c) (fun b1 => Zv (.bool false) (ZR (Zv (.pointer (some ⟨b1, 0, none⟩)) (Zl 0 ⟨b1, (zD c).cells, 78⟩ (off := 0) (.int .i64 c.e) ?_))))))
  by_cases h1 : (c.e : Int) = 0
  · refine jT (p := (c.e : Int) = 0) true (by kernel_rfl) (fun _ => by kernel_rfl) (decide_eq_true (h1)) ?_
    refine Zv (.bool false) (Zv (.pointer (some ⟨b1, 6, none⟩)) (Zl 0 ⟨b1, (zD c).cells, 78⟩ (off := 6) (.bool c.aft) ?_))
    cases h2 : c.aft with
    | true =>
      refine Zv (.bool false) (Zv (.bool false) (Zk (Zk (Zk (Zk (Zv (.bool false) (Zv (.bool false) (Zk (Zk (Zk (Zk ?_)))))))))))
      exact Zv (.bool false) (Zv (.bool false) (Zv (.bool false) (ZN (zB (ZF (.bool false) Tryz.results55 (fun w hO => ⟨by simp [x6, h1, h2], hO.below⟩))))))
    | false =>
      refine Zv (.bool true) (Zv (.bool true) (Zv (.pointer (some ⟨b1, 1, none⟩)) (Zv (.pointer (some ⟨b1, 4, none⟩)) (Zl 0 ⟨b1, (zD c).cells, 78⟩ (off := 4) (.string (mkS c.v.pre)) ?_))))
      by_cases h3 : (c.v.pre : List UInt8) = []
      · refine zV (.bool true) (by kernel_rfl) (x4 (a := c.v.pre) (b := ([])) rfl (by kernel_rfl) (by kernel_rfl) (decide_eq_true (h3))) ?_
        refine Zv (.bool true) (Zv (.bool true) (Zv (.pointer (some ⟨b1, 1, none⟩)) (Zl 0 ⟨b1, (zD c).cells, 78⟩ (off := 1) (.agg #[.int .i64 c.v.maj, .int .i64 c.v.min, .int .i64 c.v.pat, .string (mkS c.v.pre), .string (mkS c.v.build)]) (Zc (k := 97) (args := #[.agg #[.int .i64 c.v.maj, .int .i64 c.v.min, .int .i64 c.v.pat, .string (mkS c.v.pre), .string (mkS c.v.build)]]) (.bool (qX c.v)) (fun w _ => rleast_any c.v w) ?_))))
        cases h4 : qX c.v with
        | true =>
          exact Zv (.bool false) (Zv (.bool false) (Zv (.bool false) (Zv (.bool false) (ZN (zB (ZF (.bool false) Tryz.results55 (fun w hO => ⟨by simp [x6, h1, h2, h3, h4], hO.below⟩)))))))
        | false =>
          exact Zv (.bool true) (Zv (.bool true) (Zv (.bool true) (Zv (.bool true) (ZN (zB (ZF (.bool true) Tryz.results55 (fun w hO => ⟨by simp [x6, h1, h2, h3, h4], hO.below⟩)))))))
      refine zV (.bool false) (by kernel_rfl) (x4 (a := c.v.pre) (b := ([])) rfl (by kernel_rfl) (by kernel_rfl) (decide_eq_false (h3))) (Zv (.bool false) (Zv (.bool false) (Zk (Zk (Zk (Zk (Zv (.bool false) (Zv (.bool false) (Zv (.bool false) (zR (zA ?_)))))))))))
      exact zB (ZF (.bool false) Tryz.results55 (fun w hO => ⟨by simp [x6, h1, h2, h3], hO.below⟩))
  refine Zn (p := (c.e : Int) = 0) false (decide_eq_false (h1)) (Zv (.bool true) (Zk (Zk (Zk (Zk (Zk (Zk (Zk (Zk (Zk (Zk ?_)))))))))))
  exact Zk (Zk (Zk (Zk (Zk (Zv (.bool true) (Zv (.bool true) (ZN (zB (ZF (.bool true) Tryz.results55 (fun w hO => ⟨by simp [x6, h1], hO.below⟩))))))))))
theorem rnone_any (W : World) : Calls Tryz.prog 34 #[] W fun e w' => e = .returned (.agg #[.slice none 0 0, .slice none 0 0]) ∧ Below W.heap.size W w' := by
  refine zP (n := 2) Tryz.func34 rfl (by kernel_rfl) (by kernel_rfl) (ZO (Za (.agg #[.slice none 0 0, .slice none 0 0]) (fun b1 => ZR (Zv (.agg #[.slice none 0 0, .slice none 0 0]) (Zs 0 ⟨b1, #[.slice none 0 0, .slice none 0 0], 31⟩ (off := 0) (.agg #[.slice none 0 0, .slice none 0 0]) (zR (zA ?_)))))))
  exact zB (ZC 0 ⟨b1, #[.slice none 0 0, .slice none 0 0], 31⟩ (off := 0) (.agg #[.slice none 0 0, .slice none 0 0]) Tryz.results34 (fun w hO => ⟨rfl, hO.below⟩))
end
section
structure SetIn (w : World) (B : Nat) (A A' : Option Addr) (a : St) : Prop where
  rel : Reads yW w B A a.rel
  pre : Reads yW w B A' a.pre
  lr : a.rel.length ≤ 100000
  lp : a.pre.length ≤ 100000
  sr : yY a.rel
  sp : yY a.pre
theorem SetIn.on {w w' : World} {B B' : Nat} {A A' : Option Addr} {a : St} (h : SetIn w B A A' a) (hb : Below B w w') (hB : B ≤ B') : SetIn w' B' A A' a := ⟨h.rel.on hb hB, h.pre.on hb hB, h.lr, h.lp, h.sr, h.sp⟩
theorem all_take (p : Sp → Bool) {l : List Sp} {k : Nat} (hk : k < l.length) (h : (l.take k).all p = true) (hs : p l[k] = true) : (l.take (k + 1)).all p = true := by
  rw [List.take_succ_eq_append_getElem hk, List.all_append, h]
  simp [hs]
theorem all_not (p : Sp → Bool) {l : List Sp} {k : Nat} (hk : k < l.length) (hs : p l[k] = false) : l.all p = false := by
  cases h : l.all p with
  | false => rfl
  | true => rw [List.all_eq_true.1 h _ (List.getElem_mem hk)] at hs; cases hs
theorem fQ (A B : Option Addr) (c d : Nat) (a : St) (W : World) (hs : SetIn W W.heap.size A B a) : Calls Tryz.prog 29 #[.agg #[.slice A a.rel.length c, .slice B a.pre.length d]] W fun e w' => e = .returned (.bool a.may) ∧ Below W.heap.size W w' := by
  refine zP (n := 39) Tryz.func29 rfl (by kernel_rfl) (by kernel_rfl) (ZO (Zb (.agg #[.slice A a.rel.length c, .slice B a.pre.length d]) (fun b1 => Zv (.bool false) (ZN (z6 (ZO (Zv (.pointer (some ⟨b1, 0, none⟩)) (Zl 0 ⟨b1, #[.slice A a.rel.length c, .slice B a.pre.length d], 31⟩ (off := 0) (.slice A a.rel.length c) ?_))))))))
  refine Zc (k := 54) (args := #[.slice A a.rel.length c]) (.bool (zK a.rel)) (fun w hO => v6 A c a.rel w (hs.rel.on hO.below hO.below.size) (Nat.le_trans hs.lr (by decide)) hs.sr) ?_
  cases h1 : zK a.rel with
  | true =>
    refine Zv (.bool false) (Zv (.bool false) (Zv (.pointer (some ⟨b1, 1, none⟩)) (Zl 0 ⟨b1, #[.slice A a.rel.length c, .slice B a.pre.length d], 31⟩ (off := 1) (.slice B a.pre.length d) (Zc (k := 54) (args := #[.slice B a.pre.length d]) (.bool (zK a.pre)) (fun w hO => v6 B d a.pre w (hs.pre.on hO.below hO.below.size) (Nat.le_trans hs.lp (by decide)) hs.sp) ?_))))
    cases h2 : zK a.pre with
    | true =>
      refine Zv (.bool false) (Zv (.bool false) (ZX (ZB (z6 (ZO (Zv (.int .i64 0) (zR ?_)))))))
      refine zA (zL (yP (fun L f m => ∃ (k : Nat) (j : Nat → Value), (k ≤ a.rel.length ∧ (a.rel.take k).all (fun x => x6 x.lo && x6 x.hi) = true) ∧ L = [⟨b1, #[.slice A a.rel.length c, .slice B a.pre.length d], 31⟩] ∧ f = kG j [(1, .pointer (some ⟨b1, 0, none⟩)), (3, .int .i64 (k : Int))] ∧ m = a.rel.length - k) (a.rel.length - 0) ⟨0, _, ⟨Nat.zero_le _, by rw [List.take_zero]; rfl⟩, rfl, ZU, rfl⟩ ?_))
      rintro L f m ⟨k, j, hrel, rfl, rfl, rfl⟩
      have hkl := hrel.1; have hln := hs.lr
      refine z6 (ZO (Zv (.int .i64 (k : Int)) (Zv (.pointer (some ⟨b1, 0, none⟩)) (Zl 0 ⟨b1, #[.slice A a.rel.length c, .slice B a.pre.length d], 31⟩ (off := 0) (.slice A a.rel.length c) (Zv (.int .i64 (a.rel.length : Int)) ?_)))))
      by_cases h3 : (k : Int) < (a.rel.length : Int)
      · have hk : k < a.rel.length := by omega
        obtain ⟨b, off, hA, hlt, hcell⟩ := hs.rel (by omega)
        obtain ⟨s, he⟩ : ∃ s, a.rel[k] = s := ⟨_, rfl⟩
        refine Zd (p := (k : Int) < (a.rel.length : Int)) true (decide_eq_true (h3)) (ZY (ZB (z6 (zL (ZO (Zv (.pointer (some ⟨b1, 0, none⟩)) (Zl 0 ⟨b1, #[.slice A a.rel.length c, .slice B a.pre.length d], 31⟩ (off := 0) (.slice A a.rel.length c) ?_)))))))
        refine Zv (.int .i64 (k : Int)) (zV (.pointer (some ⟨b, off + k * 14, none⟩)) (by kernel_rfl) (ZA (b := b) (off := off) (c := c) (n := a.rel.length) (k := .i64) (j := (k : Int)) (e := 80) (sz := 14) hA) (Zv (.pointer (some ⟨b, off + k * 14 + 0, none⟩)) (Zo (zD s.lo) (a := ⟨b, off + k * 14 + 0, none⟩) (fun w hO => y9 zX (fun j u h => (hO.below.cell (p := ⟨b, off + j, none⟩) hlt).trans (hcell j u h)) k 0 hk (by omega) _ (by rw [he]; kernel_rfl)) (Zc (k := 55) (args := #[zD s.lo]) (.bool (x6 s.lo)) (fun w _ => rright_any s.lo w) ?_))))
        cases h4 : x6 s.lo with
        | true =>
          refine Zv (.bool false) (Zv (.bool false) (Zv (.pointer (some ⟨b1, 0, none⟩)) (Zl 0 ⟨b1, #[.slice A a.rel.length c, .slice B a.pre.length d], 31⟩ (off := 0) (.slice A a.rel.length c) (Zv (.int .i64 (k : Int)) (zV (.pointer (some ⟨b, off + k * 14, none⟩)) (by kernel_rfl) (ZA (b := b) (off := off) (c := c) (n := a.rel.length) (k := .i64) (j := (k : Int)) (e := 80) (sz := 14) hA) (Zv (.pointer (some ⟨b, off + k * 14 + 7, none⟩)) (Zo (zD s.hi) (a := ⟨b, off + k * 14 + 7, none⟩) (fun w hO => y9 zX (fun j u h => (hO.below.cell (p := ⟨b, off + j, none⟩) hlt).trans (hcell j u h)) k 7 hk (by omega) _ (by rw [he]; kernel_rfl)) (Zc (k := 55) (args := #[zD s.hi]) (.bool (x6 s.hi)) (fun w _ => rright_any s.hi w) ?_))))))))
          cases h5 : x6 s.hi with
          | true =>
            refine Zv (.bool false) (Zv (.bool false) (ZX (x5 (zT (zA (z7 (Zv (.int .i64 (k : Int)) (Zu (k := .i64) (((k + 1 : Nat) : Int)) (IntWalk.i64_in _ (by omega)) (Zv (.int .i64 ((k + 1 : Nat) : Int)) ?_)))))))))
            refine zR ?_
            have hnext : (a.rel.take (k + 1)).all (fun x => x6 x.lo && x6 x.hi) = true := all_take _ hk hrel.2 (by simp [he, h1, h2, h3, h4, h5])
            exact zU (m' := a.rel.length - (k + 1)) (by omega) ⟨k + 1, _, ⟨by omega, hnext⟩, rfl, ZU, rfl⟩
          | false =>
            refine Zv (.bool true) (Zv (.bool true) (ZY (ZO (Zv (.bool false) (ZN (zB (zG ?_)))))))
            exact z8 (yB (zG (z8 (ZF (.bool false) Tryz.results29 (fun w hO => ⟨by unfold St.may; rw [all_not _ hk (by simp [he, h1, h2, h3, h4, h5])]; simp, hO.below⟩)))))
        | false =>
          refine Zv (.bool true) (Zv (.bool true) (Zk (Zk (Zk (Zk (Zk (Zk (Zk (Zk (Zv (.bool true) (zR ?_)))))))))))
          refine zA (Zt (ZO (Zv (.bool false) (ZN (zB (zG (z8 (yB (zG ?_)))))))))
          exact z8 (ZF (.bool false) Tryz.results29 (fun w hO => ⟨by unfold St.may; rw [all_not _ hk (by simp [he, h1, h2, h3, h4])]; simp, hO.below⟩))
      have hall : a.rel.all (fun x => x6 x.lo && x6 x.hi) = true := by have h := hrel.2; rwa [List.take_of_length_le (by omega)] at h
      refine Zd (p := (k : Int) < (a.rel.length : Int)) false (decide_eq_false (h3)) (ZX (y8 (zC (zN (zI (zA (ZO (Zv (.bool true) ?_))))))))
      exact ZN (zB (ZF (.bool true) Tryz.results29 (fun w hO => ⟨by unfold St.may; simp [hall, h1, h2, h3], hO.below⟩)))
    | false =>
      refine Zv (.bool true) (Zv (.bool true) (ZY (ZO (Zv (.bool false) (ZN (zB (z8 ?_)))))))
      exact ZF (.bool false) Tryz.results29 (fun w hO => ⟨by unfold St.may; simp [h1, h2], hO.below⟩)
  | false =>
    refine Zv (.bool true) (Zv (.bool true) (Zk (Zk (Zk (Zk (Zv (.bool true) (ZY (z6 (z7 ?_)))))))))
    exact Zv (.bool false) (ZN (zB (z8 (ZF (.bool false) Tryz.results29 (fun w hO => ⟨by unfold St.may; simp [h1], hO.below⟩)))))
theorem rsetHas_any (A B : Option Addr) (c d : Nat) (a : St) (v : Ver) (W : World) (hs : SetIn W W.heap.size A B a) (hv : v.short) : Calls Tryz.prog 30 #[.agg #[.slice A a.rel.length c, .slice B a.pre.length d], yJ v] W fun e w' => e = .returned (.bool (qC a v)) ∧ Below W.heap.size W w' := by
  refine zP (n := 24) Tryz.func30 rfl (by kernel_rfl) (by kernel_rfl) (ZO (Zb (.agg #[.slice A a.rel.length c, .slice B a.pre.length d]) (fun b1 => Zb (yJ v) (fun b2 => Zv (.bool false) (ZN (z6 (ZO (Zl 1 ⟨b1, #[.slice A a.rel.length c, .slice B a.pre.length d], 31⟩ (off := 0) (.agg #[.slice A a.rel.length c, .slice B a.pre.length d]) ?_))))))))
  refine Zc (k := 29) (args := #[.agg #[.slice A a.rel.length c, .slice B a.pre.length d]]) (.bool a.may) (fun w hO => fQ A B c d a w (hs.on hO.below hO.size)) ?_
  cases h1 : a.may with
  | true =>
    refine Zv (.bool false) (Zv (.bool false) (Zl 0 ⟨b2, (yJ v).cells, 44⟩ (off := 0) (yJ v) (Zc (k := 56) (args := #[yJ v]) (.bool v.may) (fun w _ => w0 v w hv.1 hv.2) ?_)))
    cases h2 : v.may with
    | true =>
      refine Zv (.bool false) (Zv (.bool false) (ZX (ZB (z6 (ZO (Zv (.pointer (some ⟨b2, 3, none⟩)) (Zl 0 ⟨b2, (yJ v).cells, 44⟩ (off := 3) (.string (mkS v.pre)) ?_)))))))
      by_cases h3 : (v.pre : List UInt8) = []
      · refine zV (.bool true) (by kernel_rfl) (x4 (a := v.pre) (b := ([])) rfl (by kernel_rfl) (by kernel_rfl) (decide_eq_true (h3))) ?_
        refine ZY (ZO (Zv (.pointer (some ⟨b1, 0, none⟩)) (Zl 1 ⟨b1, #[.slice A a.rel.length c, .slice B a.pre.length d], 31⟩ (off := 0) (.slice A a.rel.length c) (Zl 0 ⟨b2, (yJ v).cells, 44⟩ (off := 0) (yJ v) (Zc (k := 52) (args := #[.slice A a.rel.length c, yJ v]) (.bool (xM a.rel v)) (fun w hO => rrowHas_any A c a.rel v w (hs.rel.on hO.below hO.below.size) (Nat.le_trans hs.lr (by decide)) hs.sr hv) (Zv (.bool (xM a.rel v)) (zR (zA ?_))))))))
        exact zB (z8 (ZF (.bool (xM a.rel v)) Tryz.results30 (fun w hO => ⟨by simp [qC, h1, h2, h3], hO.below⟩)))
      refine zV (.bool false) (by kernel_rfl) (x4 (a := v.pre) (b := ([])) rfl (by kernel_rfl) (by kernel_rfl) (decide_eq_false (h3))) (ZX (ZB (ZO (Zv (.pointer (some ⟨b1, 1, none⟩)) (Zl 1 ⟨b1, #[.slice A a.rel.length c, .slice B a.pre.length d], 31⟩ (off := 1) (.slice B a.pre.length d) (Zl 0 ⟨b2, (yJ v).cells, 44⟩ (off := 0) (yJ v) (Zc (k := 52) (args := #[.slice B a.pre.length d, yJ v]) (.bool (xM a.pre v)) (fun w hO => rrowHas_any B d a.pre v w (hs.pre.on hO.below hO.below.size) (Nat.le_trans hs.lp (by decide)) hs.sp hv) ?_)))))))
      exact Zv (.bool (xM a.pre v)) (ZN (zB (ZF (.bool (xM a.pre v)) Tryz.results30 (fun w hO => ⟨by simp [qC, h1, h2, h3], hO.below⟩))))
    | false =>
      refine Zv (.bool true) (Zv (.bool true) (ZY (ZO (Zv (.bool false) (ZN (zB (z8 ?_)))))))
      exact ZF (.bool false) Tryz.results30 (fun w hO => ⟨by simp [qC, h1, h2], hO.below⟩)
  | false =>
    refine Zv (.bool true) (Zv (.bool true) (Zk (Zk (Zk (Zv (.bool true) (ZY (ZO (Zv (.bool false) ?_))))))))
    exact ZN (zB (z8 (ZF (.bool false) Tryz.results30 (fun w hO => ⟨by simp [qC, h1], hO.below⟩))))
theorem t8 (A B A' B' : Option Addr) (c d c' d' : Nat) (a b : St) (W : World) (hs : SetIn W W.heap.size A B a) (ht : SetIn W W.heap.size A' B' b) : Calls Tryz.prog 17 #[.agg #[.slice A a.rel.length c, .slice B a.pre.length d], .agg #[.slice A' b.rel.length c', .slice B' b.pre.length d']] W fun e w' => e = .returned (.bool (decide (a.rel = b.rel) && decide (a.pre = b.pre))) ∧ Below W.heap.size W w' := by
  refine zP (n := 17) Tryz.func17 rfl (by kernel_rfl) (by kernel_rfl) (ZO (Zb (.agg #[.slice A a.rel.length c, .slice B a.pre.length d]) (fun b1 => Zb (.agg #[.slice A' b.rel.length c', .slice B' b.pre.length d']) (fun b2 => Zv (.bool false) (ZR (Zv (.pointer (some ⟨b1, 0, none⟩)) (Zl 1 ⟨b1, #[.slice A a.rel.length c, .slice B a.pre.length d], 31⟩ (off := 0) (.slice A a.rel.length c) ?_)))))))
  refine Zv (.pointer (some ⟨b2, 0, none⟩)) (Zl 0 ⟨b2, #[.slice A' b.rel.length c', .slice B' b.pre.length d'], 31⟩ (off := 0) (.slice A' b.rel.length c') (Zc (k := 46) (args := #[.slice A a.rel.length c, .slice A' b.rel.length c']) (.bool (decide (a.rel = b.rel))) (fun w hO => rsame_any A A' c c' a.rel b.rel w (hs.rel.on hO.below hO.size) (ht.rel.on hO.below hO.size) (Nat.le_trans hs.lr (by decide)) (Nat.le_trans ht.lr (by decide))) (Zv (.bool (decide (a.rel = b.rel))) ?_)))
  cases h1 : decide (a.rel = b.rel) with
  | true =>
    exact Zv (.pointer (some ⟨b1, 1, none⟩)) (Zl 1 ⟨b1, #[.slice A a.rel.length c, .slice B a.pre.length d], 31⟩ (off := 1) (.slice B a.pre.length d) (Zv (.pointer (some ⟨b2, 1, none⟩)) (Zl 0 ⟨b2, #[.slice A' b.rel.length c', .slice B' b.pre.length d'], 31⟩ (off := 1) (.slice B' b.pre.length d') (Zc (k := 46) (args := #[.slice B a.pre.length d, .slice B' b.pre.length d']) (.bool (decide (a.pre = b.pre))) (fun w hO => rsame_any B B' d d' a.pre b.pre w (hs.pre.on hO.below hO.size) (ht.pre.on hO.below hO.size) (Nat.le_trans hs.lp (by decide)) (Nat.le_trans ht.lp (by decide))) (Zv (.bool (decide (a.pre = b.pre))) (Zv (.bool (decide (a.pre = b.pre))) (ZN (zB (ZF (.bool (decide (a.pre = b.pre))) Tryz.results17 (fun w hO => ⟨by simp [h1], hO.below⟩))))))))))
  | false =>
    exact Zk (Zk (Zk (Zk (Zk (Zv (.bool false) (Zv (.bool false) (ZN (zB (ZF (.bool false) Tryz.results17 (fun w hO => ⟨by simp [h1], hO.below⟩))))))))))
end
section
section
variable {M : List Nat} {P : Program} {n : Nat} {ops : Array Oper} {W : World} {L0 : List Blk} {Q : Exit → Act → World → Prop} {fuel : Nat} {listed : Array Bool} {L : List Blk} {f : Nat → Value}
theorem h_loadm (i : Nat) (E : List Blk) (oi : Oper) (x : Blk) {ty : TypeId} {p : Operand} {off : Nat} (v : Value) (hi : ops[i]? = some oi) (hs : Region.noSelect ops = true) (hf : Region.free .any ops listed i = true) (hr : (Region.ready .any ops listed).contains i = true)
    (hQ : PQ Q) (hw : xX ops n f oi = true) (ho : oi.op = .load ty p) (hL : x ∈ L0) (hp : ev n f p = .pointer (some ⟨x.b, off, none⟩)) (hv : kN P ty x.cs off = some v)
    (h : vG M P n ops W L0 Q fuel (listed.setIfInBounds i true) (E ++ L0) (upd f oi.dst v)) : vG M P n ops W L0 Q (fuel + 1) listed (E ++ L0) f :=
  wF i E oi v hi hs hf hr hQ hw (fun _ hO => gU ho hp (q8 hv (hO.held x hL))) h
theorem h_drop (E : List Blk) (h : vG M P n ops W L0 Q fuel listed L0 f) : vG M P n ops W L0 Q fuel listed (E ++ L0) f := ⟨fun w hO => h.go w (Own.sub E hO)⟩
theorem hs_front {i : Nat} {E E' : List Blk} (p : E.Perm E') (h : uN M P n ops W L0 Q fuel listed i (E' ++ L0) f) : uN M P n ops W L0 Q fuel listed i (E ++ L0) f := ⟨fun w hO => h.go w (hO.perm (p.append_right L0))⟩
end
theorem qB {M : List Nat} {W w : World} {L : List Blk} (h : Own M W w L) : Own M W w [] := h.sublist (List.nil_sublist _)
theorem own_mid {M : List Nat} {W w : World} {x : Blk} {A B L0 : List Blk} (h : Own M W w ((x :: (A ++ (B ++ []))) ++ L0)) : Own M W w (A ++ B) := by
  rw [List.append_nil] at h
  exact h.sublist ((List.sublist_append_left (A ++ B) L0).cons x)
end
section
theorem wX {A : Option Addr} {n c : Nat} {l : List Sp} {ob : List Blk} (h : SlS (.slice A n c) l ob) : l.length ≤ c := by
  rcases h.2 with ⟨h1, h2, _⟩ | ⟨g, c', cur, h1, _, h3, _⟩
  · rw [h2]; exact Nat.zero_le _
  · simp only [Value.slice.injEq] at h1
    rw [h1.2.2]; exact h3
def SetO (v : Value) (a : St) (ob : List Blk) : Prop := ∃ v1 v2 o1 o2, v = .agg #[v1, v2] ∧ ob = o2 ++ o1 ∧ SlS v1 a.rel o1 ∧ SlS v2 a.pre o2
theorem SetO.form {v : Value} {a : St} {ob : List Blk} (h : SetO v a ob) : ∃ A B c d, v = .agg #[.slice A a.rel.length c, .slice B a.pre.length d] := by
  obtain ⟨v1, v2, o1, o2, rfl, _, h1, h2⟩ := h
  obtain ⟨A, c, rfl⟩ := h1.form
  obtain ⟨B, d, rfl⟩ := h2.form
  exact ⟨A, B, c, d, rfl⟩
theorem agg_two {a b c d : Value} (h : (Value.agg #[a, b]) = .agg #[c, d]) : a = c ∧ b = d := by
  injection h with h
  have h2 := congrArg Array.toList h
  simp only [List.cons.injEq, and_true] at h2
  exact h2
theorem SetO.inn {A B : Option Addr} {c d n : Nat} {a : St} {ob L : List Blk} {M : List Nat} {W w : World} (h : SetO (.agg #[.slice A a.rel.length c, .slice B a.pre.length d]) a ob) (hO : Own M W w L) (hob : ∀ x ∈ ob, x ∈ L) (hf : SF a n) (hn : n ≤ 100000) : SetIn w w.heap.size A B a := by
  obtain ⟨v1, v2, o1, o2, e, rfl, h1, h2⟩ := h
  obtain ⟨rfl, rfl⟩ := agg_two e
  exact ⟨Sl.reads h1 rfl hO (fun x hx => hob x (by simp [hx])), Sl.reads h2 rfl hO (fun x hx => hob x (by simp [hx])), Nat.le_trans hf.rel.len hn, Nat.le_trans hf.pre.len hn, hf.rel.short, hf.pre.short⟩
theorem SetO.caps {A B : Option Addr} {c d : Nat} {a : St} {ob : List Blk} (h : SetO (.agg #[.slice A a.rel.length c, .slice B a.pre.length d]) a ob) : a.rel.length ≤ c ∧ a.pre.length ≤ d := by
  obtain ⟨v1, v2, o1, o2, e, rfl, h1, h2⟩ := h
  obtain ⟨rfl, rfl⟩ := agg_two e
  exact ⟨wX h1, wX h2⟩
theorem SetO.none : SetO (.agg #[.slice none 0 0, .slice none 0 0]) gD [] := ⟨_, _, [], [], rfl, rfl, Sl.nil _ _, Sl.nil _ _⟩
theorem rsetOr_any (A B A' B' : Option Addr) (c d c' d' : Nat) (a b : St) (W : World) (hs : SetIn W W.heap.size A B a) (ht : SetIn W W.heap.size A' B' b) : Calls Tryz.prog 35 #[.agg #[.slice A a.rel.length c, .slice B a.pre.length d], .agg #[.slice A' b.rel.length c', .slice B' b.pre.length d']] W fun e w' => ∃ v' ob', e = .returned v' ∧ SetO v' (if a.may && b.may then orT a b else gD) ob' ∧ Own [] W w' ob' := by
  refine zP (n := 25) Tryz.func35 rfl (by kernel_rfl) (by kernel_rfl) (ZO (Zb (.agg #[.slice A a.rel.length c, .slice B a.pre.length d]) (fun b1 => Zb (.agg #[.slice A' b.rel.length c', .slice B' b.pre.length d']) (fun b2 => Za (.agg #[.slice none 0 0, .slice none 0 0]) (fun b3 => ZN (z6 (ZO (Zl 2 ⟨b1, #[.slice A a.rel.length c, .slice B a.pre.length d], 31⟩ (off := 0) (.agg #[.slice A a.rel.length c, .slice B a.pre.length d]) ?_))))))))
  refine Zc (k := 29) (args := #[.agg #[.slice A a.rel.length c, .slice B a.pre.length d]]) (.bool a.may) (fun w hO => fQ A B c d a w (hs.on hO.below hO.size)) ?_
  cases h1 : a.may with
  | true =>
    refine Zv (.bool false) (Zv (.bool false) (Zl 1 ⟨b2, #[.slice A' b.rel.length c', .slice B' b.pre.length d'], 31⟩ (off := 0) (.agg #[.slice A' b.rel.length c', .slice B' b.pre.length d']) (Zc (k := 29) (args := #[.agg #[.slice A' b.rel.length c', .slice B' b.pre.length d']]) (.bool b.may) (fun w hO => fQ A' B' c' d' b w (ht.on hO.below hO.size)) ?_)))
    cases h2 : b.may with
    | true =>
      refine Zv (.bool false) (Zv (.bool false) (ZX (ZB (z6 (kT [⟨b2, #[.slice A' b.rel.length c', .slice B' b.pre.length d'], 31⟩, ⟨b1, #[.slice A a.rel.length c, .slice B a.pre.length d], 31⟩] (by kernel_rfl) (fun w hO => Own.sub [⟨b3, #[.slice none 0 0, .slice none 0 0], 31⟩] hO) (ZT 0 [⟨b3, #[.slice none 0 0, .slice none 0 0], 31⟩] _ (.pointer (some ⟨b1, 0, none⟩)) (zF zJ) rfl (ZL 1 [⟨b3, #[.slice none 0 0, .slice none 0 0], 31⟩] _ 1 ⟨b1, #[.slice A a.rel.length c, .slice B a.pre.length d], 31⟩ (off := 0) (.slice A a.rel.length c) (zF zJ) rfl rfl (ZT 2 [⟨b3, #[.slice none 0 0, .slice none 0 0], 31⟩] _ (.pointer (some ⟨b2, 0, none⟩)) (zF zJ) rfl ?_))))))))
      refine ZL 3 [⟨b3, #[.slice none 0 0, .slice none 0 0], 31⟩] _ 0 ⟨b2, #[.slice A' b.rel.length c', .slice B' b.pre.length d'], 31⟩ (off := 0) (.slice A' b.rel.length c') (zF zJ) rfl rfl (ZT 5 [⟨b3, #[.slice none 0 0, .slice none 0 0], 31⟩] _ (.pointer (some ⟨b1, 1, none⟩)) (zF zJ) rfl (ZL 6 [⟨b3, #[.slice none 0 0, .slice none 0 0], 31⟩] _ 1 ⟨b1, #[.slice A a.rel.length c, .slice B a.pre.length d], 31⟩ (off := 1) (.slice B a.pre.length d) (zF zJ) rfl rfl (ZT 7 [⟨b3, #[.slice none 0 0, .slice none 0 0], 31⟩] _ (.pointer (some ⟨b2, 1, none⟩)) (zF zJ) rfl (ZL 8 [⟨b3, #[.slice none 0 0, .slice none 0 0], 31⟩] _ 0 ⟨b2, #[.slice A' b.rel.length c', .slice B' b.pre.length d'], 31⟩ (off := 1) (.slice B' b.pre.length d') (zF zJ) rfl rfl (zZ 4 (by kernel_rfl) (gW _ (k := 58) (args := #[.slice A a.rel.length c, .slice A' b.rel.length c']) (fun v' L' => ∃ ob', L' = ob' ++ ([⟨b3, #[.slice none 0 0, .slice none 0 0], 31⟩] ++ ([⟨b2, #[.slice A' b.rel.length c', .slice B' b.pre.length d'], 31⟩, ⟨b1, #[.slice A a.rel.length c, .slice B a.pre.length d], 31⟩])) ∧ SlS v' (orL a.rel b.rel) ob') rfl (by kernel_rfl) (fun _ => by kernel_rfl) (fun w hO => (ror_any A A' c c' a.rel b.rel w (hs.rel.on hO.below hO.size) (ht.rel.on hO.below hO.size) hs.lr ht.lr hs.sr ht.sr).mono fun e w' ⟨v', ob', k1, k2, k3⟩ => ⟨v', _, k1, ⟨ob', rfl, by rw [if_pos (by rw [(St.facts h1).1, (St.facts h2).1]; rfl)] at k2; exact k2⟩, Own.joinN hO k3⟩) (fun v' L' ⟨ob', e, _⟩ w hO => by subst e; exact Own.sub [⟨b3, #[.slice none 0 0, .slice none 0 0], 31⟩] (Own.sub ob' hO)) (fun v1 L2 hv2 => ?_)))))))
      obtain ⟨o1, rfl, hr1⟩ := hv2
      obtain ⟨V1, c1, rfl⟩ := hr1.form
      refine vQ (L' := (o1 ++ ([⟨b3, #[.slice none 0 0, .slice none 0 0], 31⟩] : List Blk)) ++ ([⟨b2, #[.slice A' b.rel.length c', .slice B' b.pre.length d'], 31⟩, ⟨b1, #[.slice A a.rel.length c, .slice B a.pre.length d], 31⟩])) (List.append_assoc _ _ _).symm (zZ 9 (by kernel_rfl) (gW _ (k := 58) (args := #[.slice B a.pre.length d, .slice B' b.pre.length d']) (fun v' L' => ∃ ob', L' = ob' ++ ((o1 ++ ([⟨b3, #[.slice none 0 0, .slice none 0 0], 31⟩] : List Blk)) ++ ([⟨b2, #[.slice A' b.rel.length c', .slice B' b.pre.length d'], 31⟩, ⟨b1, #[.slice A a.rel.length c, .slice B a.pre.length d], 31⟩])) ∧ SlS v' (orL a.pre b.pre) ob') rfl (by kernel_rfl) (fun _ => by kernel_rfl) (fun w hO => (ror_any B B' d d' a.pre b.pre w (hs.pre.on hO.below hO.size) (ht.pre.on hO.below hO.size) hs.lp ht.lp hs.sp ht.sp).mono fun e w' ⟨v', ob', k1, k2, k3⟩ => ⟨v', _, k1, ⟨ob', rfl, by rw [if_pos (by rw [(St.facts h1).2.1, (St.facts h2).2.1]; rfl)] at k2; exact k2⟩, Own.joinN hO k3⟩) (fun v' L' ⟨ob', e, _⟩ w hO => by subst e; exact Own.sub (o1 ++ ([⟨b3, #[.slice none 0 0, .slice none 0 0], 31⟩] : List Blk)) (Own.sub ob' hO)) (fun v2 L2 hv2 => ?_)))
      obtain ⟨o2, rfl, hr2⟩ := hv2
      obtain ⟨V2, c2, rfl⟩ := hr2.form
      exact vQ (L' := (o2 ++ (o1 ++ ([⟨b3, #[.slice none 0 0, .slice none 0 0], 31⟩] : List Blk))) ++ ([⟨b2, #[.slice A' b.rel.length c', .slice B' b.pre.length d'], 31⟩, ⟨b1, #[.slice A a.rel.length c, .slice B a.pre.length d], 31⟩])) (List.append_assoc _ _ _).symm (ZT 10 (o2 ++ (o1 ++ ([⟨b3, #[.slice none 0 0, .slice none 0 0], 31⟩] : List Blk))) _ (.agg #[.slice V1 ((orL a.rel b.rel).length) c1, .slice V2 ((orL a.pre b.pre).length) c2]) (zF zJ) rfl (zZ 11 (by kernel_rfl) (hs_front (E' := (⟨b3, #[.slice none 0 0, .slice none 0 0], 31⟩ :: (o2 ++ (o1 ++ ([] : List Blk))))) (by simpa [List.append_assoc] using (List.perm_middle (a := ⟨b3, #[.slice none 0 0, .slice none 0 0], 31⟩) (l₁ := (o2 ++ (o1 ++ ([] : List Blk)))) (l₂ := []))) (ZS (⟨b3, #[.slice none 0 0, .slice none 0 0], 31⟩ :: (o2 ++ (o1 ++ ([] : List Blk)))) _ 0 ⟨b3, #[.slice none 0 0, .slice none 0 0], 31⟩ (off := 0) (.agg #[.slice V1 ((orL a.rel b.rel).length) c1, .slice V2 ((orL a.pre b.pre).length) c2]) rfl rfl (x7 (by kernel_rfl) (zA (zB (ZC 0 ⟨b3, #[.slice V1 ((orL a.rel b.rel).length) c1, .slice V2 ((orL a.pre b.pre).length) c2], 31⟩ (off := 0) (.agg #[.slice V1 ((orL a.rel b.rel).length) c1, .slice V2 ((orL a.pre b.pre).length) c2]) Tryz.results35 (fun w hO => ⟨_, _, rfl, by rw [if_pos (by simp [h1, h2])]; exact ⟨_, _, o1, o2, rfl, rfl, hr1, hr2⟩, own_mid hO⟩)))))))))
    | false =>
      refine Zv (.bool true) (Zv (.bool true) (ZY (ZO (Zc (k := 34) (args := #[]) (.agg #[.slice none 0 0, .slice none 0 0]) (fun w _ => rnone_any w) (Zs 0 ⟨b3, #[.slice none 0 0, .slice none 0 0], 31⟩ (off := 0) (.agg #[.slice none 0 0, .slice none 0 0]) (ZN (zB ?_)))))))
      exact z8 (ZC 0 ⟨b3, #[.slice none 0 0, .slice none 0 0], 31⟩ (off := 0) (.agg #[.slice none 0 0, .slice none 0 0]) Tryz.results35 (fun w hO => ⟨_, [], rfl, by rw [if_neg (by simp [h1, h2])]; exact SetO.none, qB hO⟩))
  | false =>
    refine Zv (.bool true) (Zv (.bool true) (Zk (Zk (Zk (Zv (.bool true) (ZY (ZO (Zc (k := 34) (args := #[]) (.agg #[.slice none 0 0, .slice none 0 0]) (fun w _ => rnone_any w) ?_))))))))
    exact Zs 0 ⟨b3, #[.slice none 0 0, .slice none 0 0], 31⟩ (off := 0) (.agg #[.slice none 0 0, .slice none 0 0]) (ZN (zB (z8 (ZC 0 ⟨b3, #[.slice none 0 0, .slice none 0 0], 31⟩ (off := 0) (.agg #[.slice none 0 0, .slice none 0 0]) Tryz.results35 (fun w hO => ⟨_, [], rfl, by rw [if_neg (by simp [h1])]; exact SetO.none, qB hO⟩)))))
end
section
def coV (c : Co) : Value := .agg #[.int .i64 c.op, .int .i64 c.parts, .int .i64 c.v.maj, .int .i64 c.v.min, .int .i64 c.v.pat, .string (mkS c.v.pre), .string (mkS c.v.build)]
def Co.short (c : Co) : Prop := c.v.short
def wR (p : Int) (v : Ver) : Ver := ⟨if p < 1 then 0 else v.maj, if p < 2 then 0 else v.min, if p < 3 then 0 else v.pat, if p < 3 then [] else v.pre, []⟩
def xN (l : List Int) (i : Nat) : Co :=
  ⟨1 + plc (atL l (i + 5)) 9, if 1 + plc (atL l (i + 5)) 9 = 9 then plc (atL l (i + 6)) 3 else 1 + plc (atL l (i + 6)) 3, wR (if 1 + plc (atL l (i + 5)) 9 = 9 then plc (atL l (i + 6)) 3 else 1 + plc (atL l (i + 6)) 3) (zO l i)⟩
theorem told_may {p : Int} {v : Ver} (h : v.may = true) : (wR p v).may = true := by
  obtain ⟨h1, h2, h3⟩ := qP h
  have h4 := dW h
  have k0 : yG 0 = true := by decide
  have kp : v8 [] = true := by decide
  have kb : gO [] = true := by decide
  unfold Ver.may wR
  dsimp only
  have e1 : yG (if p < 1 then 0 else v.maj) = true := by split <;> assumption
  have e2 : yG (if p < 2 then 0 else v.min) = true := by split <;> assumption
  have e3 : yG (if p < 3 then 0 else v.pat) = true := by split <;> assumption
  have e4 : v8 (if p < 3 then [] else v.pre) = true := by split <;> assumption
  rw [e1, e2, e3, e4, kb]; rfl
theorem genCo_may (l : List Int) (i : Nat) : (xN l i).may = true := by
  have h5 := plc_in (atL l (i + 5)) 9 (by omega)
  have h6 := plc_in (atL l (i + 6)) 3 (by omega)
  unfold xN
  generalize plc (atL l (i + 5)) 9 = a at h5 ⊢
  generalize plc (atL l (i + 6)) 3 = b at h6 ⊢
  unfold Co.may
  dsimp only
  rw [told_may (gen_may l i)]
  have e : (1 ≤ 1 + a ∧ 1 + a ≤ 9) := by omega
  rw [decide_eq_true e, show (wR (if 1 + a = 9 then b else 1 + b) (zO l i)).build = [] from rfl]
  unfold wR
  dsimp only
  by_cases h9 : 1 + a = 9
  · rw [if_pos h9, if_pos h9]
    have : b = 0 ∨ b = 1 ∨ b = 2 := by omega
    rcases this with rfl | rfl | rfl <;> simp
  · rw [if_neg h9, if_neg h9]
    have : b = 0 ∨ b = 1 ∨ b = 2 := by omega
    rcases this with rfl | rfl | rfl <;> simp
theorem told_short {p : Int} {v : Ver} (h : v.pre.length ≤ 1000000) : (wR p v).short := by
  refine ⟨?_, Nat.zero_le _⟩
  unfold wR
  dsimp only
  by_cases hp : p < 3
  · rw [if_pos hp]; exact Nat.zero_le _
  · rw [if_neg hp]; exact h
theorem genCo_short (l : List Int) (i : Nat) : (xN l i).short := told_short (Nat.le_trans (gen_pre l i) (by decide))
end
section
end
section
theorem rjoin_any (v : Value) (l : List (List UInt8)) (b : UInt8) (w : World) (hv : ReadsT w w.heap.size v l) (hl : (zY b l).length ≤ 1000000000) (hn : l.length ≤ 1000000000) :
    Calls Tryz.prog 127 #[v, .int .u8 b.toNat] w fun e w' => e = .returned (.string (mkS (zY b l))) ∧ Below w.heap.size w w' := by
  have hcv := fun (w : World) (x : Int) => conv1 w x
  obtain ⟨A, cap, rfl, hcell⟩ := hv
  go_enter Tryz.func127, Tryz.ntmps127
  go_wp2
  go_loopw [5, 6] (fun sv iv wr => ∃ (k : Nat), iv = .int .i64 k ∧ k ≤ l.length ∧ sv = .string (mkS (zY b (l.take k))) ∧ Below w.heap.size w wr) (fun _ iv _ => l.length - (intOf iv).toNat)
  case atStart => exact ⟨0, rfl, Nat.zero_le _, rfl, Below.refl _ _⟩
  case round =>
    obtain ⟨k, rfl, hk, rfl, hb⟩ := hrel
    have hsz := hb.size
    by_cases hp : k < l.length
    · obtain ⟨ad, rfl, hlt, hc⟩ := hcell (by omega)
      have hck : wr.cell? (ad.add k) = some (.string (mkS l[k])) := (hb.cell (by rw [fG]; exact hlt)).trans (hc k hp)
      have hln : (zY b (l.take (k + 1))).length ≤ 1000000000 := Nat.le_trans (nJ b l (k + 1)) hl
      have HJ := Lib.hid (joinL_snoc b (l.take k) l[k])
      rw [← take_snocL l k hp] at HJ
      clear hc hcell
      by_cases h0 : k = 0
      · subst h0
        have hx1 : (mkS (zY b [])).size ≤ 0 := by rw [d7]; simp [zY]
        have hx2 : (mkS l[0]).size ≤ 1000000000 := by
          rw [d7]; rw [HJ.out, if_pos List.take_zero] at hln; exact hln
        have hck0 : wr.cell? ad = some (.string (mkS l[0])) := hck
        clear hck
        go_wp2
        go_roundw
        case rel => exact ⟨0 + 1, by go_num, by omega, by rw [HJ.out, if_pos List.take_zero, dV]; rfl, hb⟩
        case measure => simp [intOf]; omega
      · have h0p : 0 < k := by omega
        have hlen : (zY b (l.take k)).length + (l[k].length + 1) ≤ 1000000000 := by
          rw [HJ.out, if_neg (uP l k hp h0p), List.length_append, List.length_cons] at hln; exact hln
        have hx1 : (mkS (zY b (l.take k))).size + ((mkS l[k]).size + 1) ≤ 1000000000 := by rw [d7, d7]; exact hlen
        have hx2 : (one (b.toNat : Int)).size ≤ 1 := Nat.le_refl _
        have hx3 : (mkS (zY b (l.take k)) ++ one (b.toNat : Int)).size ≤ (mkS (zY b (l.take k))).size + 1 := by rw [ByteArray.size_append]; omega
        clear hlen
        have hck2 := fun o => (World.cell?_alloc_lt wr o (ad.add k) (by rw [fG]; omega)).trans hck
        clear hck
        go_wp2
        go_roundw
        case rel => exact ⟨k + 1, by go_num, by omega, by rw [HJ.out, if_neg (uP l k hp h0p), one_mk, dV, dV, List.append_assoc]; rfl, hb.alloc hsz _⟩
        case measure => simp [intOf]; omega
    · obtain rfl : k = l.length := by omega
      go_wp2
      go_ret
      exact ⟨tA (by rw [List.take_length]), hb⟩
end
section
end
section
def SlT (v : Value) (l : List (List UInt8)) (ob : List Blk) : Prop := Sl 9 1 v l.length (qN l) ob
theorem SlT.form {v : Value} {l : List (List UInt8)} {ob : List Blk} (h : SlT v l ob) : ∃ A cap, v = .slice A l.length cap := by
  rcases h.2 with ⟨h1, h2, _⟩ | ⟨g, cap, cur, h1, _⟩
  · exact ⟨none, 0, by rw [h1, h2]⟩
  · exact ⟨_, _, h1⟩
def pY (x : List UInt8) : List Value := [.string (mkS x)]
theorem bO (x : List UInt8) : (pY x).length = 1 := rfl
theorem uV : ∀ (l : List (List UInt8)), qN l = l.flatMap pY
  | [] => rfl
  | x :: l => by
    show Value.string (mkS x) :: qN l = [Value.string (mkS x)] ++ l.flatMap pY
    rw [uV l]; rfl
theorem SlT.reads {A : Option Addr} {n cap : Nat} {l : List (List UInt8)} {ob L : List Blk} {M : List Nat} {W w : World} (h : SlT (.slice A n cap) l ob) (hn : l.length = n) (hO : Own M W w L) (hs : ∀ x ∈ ob, x ∈ L) : Reads pY w w.heap.size A l := by
  subst hn
  unfold SlT at h
  rw [uV] at h
  exact Sl.reads h rfl hO hs
theorem SlT.readsT {v : Value} {l : List (List UInt8)} {ob L : List Blk} {M : List Nat} {W w : World} (h : SlT v l ob) (hO : Own M W w L) (hs : ∀ x ∈ ob, x ∈ L) : ReadsT w w.heap.size v l := by
  obtain ⟨A, cap, rfl⟩ := h.form
  refine ⟨A, cap, rfl, fun h0 => ?_⟩
  obtain ⟨b, off, e, hlt, hc⟩ := SlT.reads h rfl hO hs h0
  refine ⟨⟨b, off, none⟩, e, hlt, fun j hj => ?_⟩
  rw [yM]
  refine hc j _ ?_
  rw [← uV]
  unfold qN
  rw [List.getElem?_map, List.getElem?_eq_getElem hj]; rfl
theorem slt_lit (l : List (List UInt8)) (b : Nat) (cur : Array Value) (h : cur.toList = qN l) (hm : l.length ≤ maxLen) : SlT (.slice (some ⟨b, 0, none⟩) l.length l.length) l [⟨b, cur, 9⟩] := by
  have hc : cur.toList.length = l.length := by rw [h, j4]
  refine ⟨by rw [j4]; omega, .inr ⟨b, l.length, cur, rfl, rfl, Nat.le_refl _, hm, by rw [← Array.length_toList, hc]; omega, ?_⟩⟩
  rw [h]
  exact List.take_of_length_le (by rw [j4]; omega)
theorem str_cells (l : List (List UInt8)) : ∀ u ∈ qN l, u.oneCell' = true := fun u hu => by
  unfold qN at hu
  obtain ⟨x, _, rfl⟩ := List.mem_map.1 hu; rfl
end
section
theorem run_slhm {P : Program} {ρ : Operand → Value} {o : Oper} {t e : TypeId} {x z y : Operand} {b n c sz : Nat} {k q : IntKind} {j m : Int} (ho : o.op = .slice t x none (some z) (some y)) (hx : ρ x = .slice (some ⟨b, 0, none⟩) n c) (hz : ρ z = .int k j) (hy : ρ y = .int q m)
    (hu : P.underlying t = some (.slice e)) (hs : (P.info? e).map (·.size) = some sz) (h0 : 0 ≤ j) (h1 : j ≤ m) (h2 : m ≤ c) (w : World) : (execOp ρ o).run P w = .ok (.value (.slice (some ⟨b, 0, none⟩) j.toNat m.toNat)) w := by
  cases he : P.info? e with
  | none => rw [he] at hs; cases hs
  | some i =>
    rw [he] at hs
    obtain rfl := Option.some.inj hs
    have h3 : 0 ≤ m := Int.le_trans h0 h1
    unfold execOp
    simp [ho, hx, hz, hy, Instr.sliceAt, Instr.slice, Instr.sliceBounds, Instr.sliceBound, Sem.run_bind, asIntOf, run_underlying hu, h0, h1, h2, h3, sizeOf, typeInfo, he, yM]
    try (first | omega | (rw [if_pos (by omega)]; simp [yM]))
theorem yU {P : Program} {ρ : Operand → Value} {o : Oper} {t t' : TypeId} {x y : Operand} {a b : List UInt8} (ho : o.op = .binOp .add t x y t') (hx : ρ x = .string (mkS a)) (hy : ρ y = .string (mkS b)) (hb : a.length + b.length ≤ 4000000000) (w : World) : (execOp ρ o).run P w = .ok (.value (.string (mkS (a ++ b)))) w := by
  unfold execOp
  have h1 : ¬ (9223372036854775807 : Int) < ((mkS a).size : Int) + ((mkS b).size : Int) := by rw [xP, xP]; omega
  simp [ho, hx, hy, Sem.run_bind, eqGuard, binOp, Op.stringOp, dV, h1]
theorem run_min2 {P : Program} {ρ : Operand → Value} {o : Oper} {t t' : TypeId} {x y : Operand} {k q : IntKind} {i j : Int} (ho : o.op = .call { callee := .builtin .min, args := #[x, y], argTypes := #[t, t'] }) (hx : ρ x = .int k i) (hy : ρ y = .int q j) (w : World) : (execOp ρ o).run P w = .ok (.value (.int k (min i j))) w := by
  unfold execOp
  have e : min i j = if j < i then j else i := by split <;> omega
  simp [ho, resolve, invoke, builtin, Builtin.min_, Builtin.min2, hx, hy, e]
section
variable {M : List Nat} {P : Program} {n0 : Nat} {ops : Array Oper} {W : World} {Q : Exit → Act → World → Prop} {rest : List Oper} {o : Oper} {L : List Blk} {f : Nat → Value}
theorem s_appendF {t T : TypeId} {s x : Operand} {i : TypeInfo} {z : Value} {sz : Nat} (hw : xX ops n0 f o = true) (ho : o.op = .call { callee := .builtin .append, args := #[s, x], argTypes := #[t, t] })
    (ht : P.underlying t = some (.slice T)) (hi : P.info? T = some i) (hz : i.zero = some z) (hsz : i.size = sz) (hzs : z.cells.size = sz)
    {b : Addr} {n cap : Nat} {xs : List Value} (hs : ev n0 f s = .slice (some b) n cap) (hxl : xs.length = n * sz) (hxs : ∀ w, Own M W w L → ∀ j u, xs[j]? = some u → w.cell? (b.add j) = some u)
    {a : Addr} {m c : Nat} {news : List Value} (hx : ev n0 f x = .slice (some a) m c) (hl : news.length = m * sz) (hnews : ∀ w, Own M W w L → ∀ j u, news[j]? = some u → w.cell? (a.add j) = some u)
    (hroom : cap < n + m) (h63 : n + m ≤ maxLen) (hbytes : (n + m) * i.bytes ≤ 140737488355328)
    (h : ∀ v' ob', Sl T sz v' (n + m) (xs ++ news) ob' → Seg M P n0 ops W Q rest (ob' ++ L) (upd f o.dst v')) : Seg M P n0 ops W Q (o :: rest) L f :=
  j0 hw fun w hO => by
    subst hsz
    have hsmall : n + m ≤ 9223372036854775807 := by simp only [maxLen] at h63; omega
    have hlen : (xs ++ news).length = (n + m) * i.size := by rw [List.length_append, hxl, hl, Nat.add_mul]
    have hr := run_append_grow (P := P) w t o.type T i z ht hi hz b n cap xs hxl (hxs w hO) a m c news hl (hnews w hO) (by omega) (by omega) (growslice_fits (by omega) hbytes)
    have hge := grownCap_ge w (n + m) cap T
    have hcm := grownCap_le_maxLen w (n + m) cap T h63
    refine vP _ (w' := _) ?_ ((h _ [⟨w.heap.size, xs.toArray ++ news.toArray ++ Builtin.zeroCells z.cells (grownCap w (n + m) cap T - (n + m)), T⟩] ⟨hlen, .inr ⟨w.heap.size, grownCap w (n + m) cap T, _, rfl, rfl, hge, hcm, ?_, ?_⟩⟩).go _ ((tR hO).alloc (xs.toArray ++ news.toArray ++ Builtin.zeroCells z.cells (grownCap w (n + m) cap T - (n + m))) T))
    · unfold execOp
      simp only [ho, resolve, invoke, builtin, Sem.run_bind, Sem.run_pure, Result.andThen_ok, List.map_toArray, List.map_cons, List.map_nil, hs, hx, hr]
    · simp only [Array.size_append, List.size_toArray, size_zeroCells, hzs, hxl, hl, ← Nat.add_mul]
      congr 1
      omega
    · simp only [Array.toList_append, List.append_assoc]
      rw [← List.append_assoc, ← hlen]
      exact List.take_left
end
section
variable {M : List Nat} {P : Program} {n : Nat} {ops : Array Oper} {W : World} {L0 : List Blk} {Q : Exit → Act → World → Prop} {fuel : Nat} {listed : Array Bool} {f : Nat → Value}
end
end
section
theorem bump_short (v : Ver) (k : Int) : (x1 v k).short := by
  by_cases h : yH v k = true
  · obtain ⟨a, b, c, e⟩ := bump_rel h
    rw [e]; exact ⟨Nat.zero_le _, Nat.zero_le _⟩
  · unfold x1
    rw [if_neg h]; exact ⟨Nat.zero_le _, Nat.zero_le _⟩
def uF (v : Ver) (z : Int) : Cu := if z < 0 then y5 1 else qG v z.toNat
theorem highZ_hit {v : Ver} {z : Int} (h0 : 0 ≤ z) (h : yH v z = true) : uF v z = ⟨0, x1 v z, false⟩ := by
  unfold uF
  rw [if_neg (by omega)]
  obtain ⟨k, rfl⟩ : ∃ k : Nat, z = k := ⟨z.toNat, by omega⟩
  rw [Int.toNat_natCast]
  cases k with
  | zero => unfold qG; exact if_pos h
  | succ k => unfold qG; rw [if_pos h]
theorem highZ_next {v : Ver} {z : Int} (h0 : 0 ≤ z) (h : yH v z = false) : uF v z = uF v (z - 1) := by
  unfold uF
  rw [if_neg (by omega)]
  obtain ⟨k, rfl⟩ : ∃ k : Nat, z = k := ⟨z.toNat, by omega⟩
  rw [Int.toNat_natCast]
  cases k with
  | zero => unfold qG; rw [if_neg (by rw [show ((0 : Nat) : Int) = 0 from rfl] at h; rw [h]; decide), if_pos (by decide)]
  | succ k =>
    unfold qG
    rw [if_neg (by rw [h]; decide), if_neg (by omega)]
    rw [show (((k + 1 : Nat) : Int) - 1).toNat = k from by omega]
    cases k <;> rfl
theorem rcMay_any (c : Co) (W : World) (hc : c.short) : Calls Tryz.prog 79 #[coV c] W fun e w' => e = .returned (.bool c.may) ∧ Below W.heap.size W w' := by
  refine zP (n := 80) Tryz.func79 rfl (by kernel_rfl) (by kernel_rfl) (ZO (Zb (coV c) (fun b1 => Zv (.bool false) (ZN (z6 (ZO (Zv (.pointer (some ⟨b1, 0, none⟩)) (Zl 0 ⟨b1, (coV c).cells, 51⟩ (off := 0) (.int .i64 c.op) ?_))))))))
  by_cases h1 : (c.op : Int) < 1
  · refine zW (p := (c.op : Int) < 1) true (by kernel_rfl) (fun _ => by kernel_rfl) (decide_eq_true (h1)) ?_
    refine Zv (.bool true) (Zk (Zk (Zk (Zv (.bool true) (Zv (.bool true) (Zk (Zk (Zk (Zk (Zv (.bool true) (Zv (.bool true) ?_)))))))))))
    refine Zk (Zk (Zk (Zk (Zv (.bool true) (ZY (ZO (Zv (.bool false) (zR ?_))))))))
    exact zA (zB (z8 (ZF (.bool false) Tryz.results79 (fun w hO => ⟨by rw [show c.may = false from Bool.eq_false_iff.2 fun q0 => by have q1 := Co.may_iff.1 q0; grind], hO.below⟩))))
  refine Zd (p := (c.op : Int) < 1) false (decide_eq_false (h1)) (Zv (.bool false) (Zv (.pointer (some ⟨b1, 0, none⟩)) (Zl 0 ⟨b1, (coV c).cells, 51⟩ (off := 0) (.int .i64 c.op) ?_)))
  by_cases h2 : (9 : Int) < c.op
  · refine zW (p := (9 : Int) < c.op) true (by kernel_rfl) (fun _ => by kernel_rfl) (decide_eq_true (h2)) ?_
    refine Zv (.bool true) (Zv (.bool true) (Zk (Zk (Zk (Zk (Zv (.bool true) (Zv (.bool true) (Zk (Zk (Zk (Zk ?_)))))))))))
    refine Zv (.bool true) (ZY (ZO (Zv (.bool false) (ZN (zB (z8 (ZF (.bool false) Tryz.results79 ?_)))))))
    exact fun w hO => ⟨by rw [show c.may = false from Bool.eq_false_iff.2 fun q0 => by have q1 := Co.may_iff.1 q0; grind], hO.below⟩
  refine Zd (p := (9 : Int) < c.op) false (decide_eq_false (h2)) (Zv (.bool false) (Zv (.bool false) (Zv (.pointer (some ⟨b1, 2, none⟩)) (Zl 0 ⟨b1, (coV c).cells, 51⟩ (off := 2) (.agg #[.int .i64 c.v.maj, .int .i64 c.v.min, .int .i64 c.v.pat, .string (mkS c.v.pre), .string (mkS c.v.build)]) (Zc (k := 56) (args := #[.agg #[.int .i64 c.v.maj, .int .i64 c.v.min, .int .i64 c.v.pat, .string (mkS c.v.pre), .string (mkS c.v.build)]]) (.bool c.v.may) (fun w _ => w0 c.v w hc.1 hc.2) ?_)))))
  cases h3 : c.v.may with
  | true =>
    refine Zv (.bool false) (Zv (.bool false) (Zv (.bool false) (Zv (.pointer (some ⟨b1, 2, none⟩)) (Zv (.pointer (some ⟨b1, 6, none⟩)) (Zl 0 ⟨b1, (coV c).cells, 51⟩ (off := 6) (.string (mkS c.v.build)) ?_)))))
    by_cases h4 : (c.v.build : List UInt8) = []
    · refine zV (.bool false) (by kernel_rfl) (xB (a := c.v.build) (b := ([])) rfl (by kernel_rfl) (by kernel_rfl) (decide_eq_true (h4))) ?_
      refine Zv (.bool false) (ZX (ZB (ZO (Zv (.int .i64 1) (Zv (.int .i64 3) (zR (zA ?_)))))))
      refine z6 (ZO (Zv (.pointer (some ⟨b1, 0, none⟩)) (Zl 0 ⟨b1, (coV c).cells, 51⟩ (off := 0) (.int .i64 c.op) ?_)))
      by_cases h5 : (c.op : Int) = 9
      · refine zW (p := (c.op : Int) = 9) true (by kernel_rfl) (fun _ => by kernel_rfl) (decide_eq_true (h5)) ?_
        refine ZN (bA (fun L f => ∃ (lo : Int) (hi : Int) (j : Nat → Value), ((c.op = 9 → lo = 0 ∧ hi = 2) ∧ (¬ c.op = 9 → lo = 1 ∧ hi = 3)) ∧ L = [⟨b1, (coV c).cells, 51⟩] ∧ f = kG j [(1, .pointer (some ⟨b1, 0, none⟩)), (3, .int .i64 lo), (4, .int .i64 hi)]) ?_ ?_)
        · refine ok_true (by kernel_rfl) ?_
          exact z7 (Zv (.int .i64 0) (Zv (.int .i64 2) (zR (yX ⟨0, 2, _, ⟨by omega, by omega⟩, rfl, ZU⟩))))
        · rintro L f ⟨lo, hi, j, hj3, rfl, rfl⟩
          refine zA (z6 (z6 (bA (fun L f => ∃ (bad : Bool) (j : Nat → Value), ((bad = true → ¬ (lo ≤ c.parts ∧ c.parts ≤ hi ∧ (3 ≤ c.parts ∨ c.v.pre = []))) ∧ (bad = false → lo ≤ c.parts ∧ c.parts ≤ hi ∧ (3 ≤ c.parts ∨ c.v.pre = []))) ∧ L = [⟨b1, (coV c).cells, 51⟩] ∧ f = kG j [(1, .pointer (some ⟨b1, 0, none⟩)), (48, .bool bad)]) ?_ ?_)))
          · refine z7 ?_
            refine Zv (.pointer (some ⟨b1, 1, none⟩)) (Zl 0 ⟨b1, (coV c).cells, 51⟩ (off := 1) (.int .i64 c.parts) (Zv (.int .i64 lo) ?_))
            by_cases h6 : (c.parts : Int) < lo
            · refine zW (p := (c.parts : Int) < lo) true (by kernel_rfl) (fun _ => by kernel_rfl) (decide_eq_true (h6)) ?_
              refine Zv (.bool true) (Zk (Zk (Zk (Zk (Zv (.bool true) (Zv (.bool true) (Zk (Zk (Zk (Zk (Zk ?_)))))))))))
              exact Zk (Zk (Zk (Zk (Zv (.bool true) (zR (yX ⟨true, _, ⟨fun q0 => by grind, fun q0 => absurd q0 (by decide)⟩, rfl, ZU⟩))))))
            refine Zd (p := (c.parts : Int) < lo) false (decide_eq_false (h6)) (Zv (.bool false) (Zv (.pointer (some ⟨b1, 1, none⟩)) (Zl 0 ⟨b1, (coV c).cells, 51⟩ (off := 1) (.int .i64 c.parts) (Zv (.int .i64 hi) ?_))))
            by_cases h7 : (hi : Int) < c.parts
            · refine zW (p := (hi : Int) < c.parts) true (by kernel_rfl) (fun _ => by kernel_rfl) (decide_eq_true (h7)) ?_
              refine Zv (.bool true) (Zv (.bool true) (Zk (Zk (Zk (Zk (Zk (Zk (Zk (Zk (Zk (Zv (.bool true) ?_)))))))))))
              exact zR (yX ⟨true, _, ⟨fun q0 => by grind, fun q0 => absurd q0 (by decide)⟩, rfl, ZU⟩)
            refine Zd (p := (hi : Int) < c.parts) false (decide_eq_false (h7)) (Zv (.bool false) (Zv (.bool false) (Zv (.pointer (some ⟨b1, 1, none⟩)) (Zl 0 ⟨b1, (coV c).cells, 51⟩ (off := 1) (.int .i64 c.parts) ?_))))
            by_cases h8 : (c.parts : Int) < 3
            · refine zW (p := (c.parts : Int) < 3) true (by kernel_rfl) (fun _ => by kernel_rfl) (decide_eq_true (h8)) ?_
              refine Zv (.bool true) (Zv (.pointer (some ⟨b1, 2, none⟩)) (Zv (.pointer (some ⟨b1, 5, none⟩)) (Zl 0 ⟨b1, (coV c).cells, 51⟩ (off := 5) (.string (mkS c.v.pre)) ?_)))
              by_cases h9 : (c.v.pre : List UInt8) = []
              · refine zV (.bool false) (by kernel_rfl) (xB (a := c.v.pre) (b := ([])) rfl (by kernel_rfl) (by kernel_rfl) (decide_eq_true (h9))) ?_
                exact Zv (.bool false) (Zv (.bool false) (zR (yX ⟨false, _, ⟨fun q0 => absurd q0 (by decide), fun q0 => ⟨by omega, by omega, by first | exact .inr (by assumption) | exact .inl (by omega)⟩⟩, rfl, ZU⟩)))
              exact zV (.bool true) (by kernel_rfl) (xB (a := c.v.pre) (b := ([])) rfl (by kernel_rfl) (by kernel_rfl) (decide_eq_false (h9))) (Zv (.bool true) (Zv (.bool true) (zR (yX ⟨true, _, ⟨fun q0 => by grind, fun q0 => absurd q0 (by decide)⟩, rfl, ZU⟩))))
            exact Zd (p := (c.parts : Int) < 3) false (decide_eq_false (h8)) (Zv (.bool false) (Zk (Zk (Zk (Zk (Zv (.bool false) (Zv (.bool false) (zR (yX ⟨false, _, ⟨fun q0 => absurd q0 (by decide), fun q0 => ⟨by omega, by omega, by first | exact .inr (by assumption) | exact .inl (by omega)⟩⟩, rfl, ZU⟩)))))))))
          · rintro L f ⟨bad, j, hj2, rfl, rfl⟩
            refine zA ?_
            cases h10 : bad with
            | true =>
              exact Zt (ZO (Zv (.bool false) (ZN (zB (z8 (ZF (.bool false) Tryz.results79 (fun w hO => ⟨by rw [show c.may = false from Bool.eq_false_iff.2 fun q0 => by have q1 := Co.may_iff.1 q0; grind], hO.below⟩)))))))
            | false =>
              refine Zf (ZB (ZO (Zv (.pointer (some ⟨b1, 1, none⟩)) (Zl 0 ⟨b1, (coV c).cells, 51⟩ (off := 1) (.int .i64 c.parts) ?_))))
              by_cases h11 : (0 : Int) < c.parts
              · refine zW (p := (0 : Int) < c.parts) true (by kernel_rfl) (fun _ => by kernel_rfl) (decide_eq_true (h11)) ?_
                refine Zv (.bool true) (Zk (Zk (Zk (Zk (Zv (.bool true) (Zv (.bool true) (Zv (.pointer (some ⟨b1, 1, none⟩)) (Zl 0 ⟨b1, (coV c).cells, 51⟩ (off := 1) (.int .i64 c.parts) ?_))))))))
                by_cases h12 : (1 : Int) < c.parts
                · refine zW (p := (1 : Int) < c.parts) true (by kernel_rfl) (fun _ => by kernel_rfl) (decide_eq_true (h12)) ?_
                  refine Zv (.bool true) (Zk (Zk (Zk (Zk (Zv (.bool true) (Zv (.bool true) (Zv (.bool true) (Zv (.pointer (some ⟨b1, 1, none⟩)) (Zl 0 ⟨b1, (coV c).cells, 51⟩ (off := 1) (.int .i64 c.parts) ?_)))))))))
                  by_cases h13 : (2 : Int) < c.parts
                  · refine zW (p := (2 : Int) < c.parts) true (by kernel_rfl) (fun _ => by kernel_rfl) (decide_eq_true (h13)) ?_
                    refine Zv (.bool true) (Zk (Zk (Zk (Zk (Zv (.bool true) (Zv (.bool true) (Zv (.bool true) (ZN (zB (ZF (.bool true) Tryz.results79 ?_))))))))))
                    exact fun w hO => ⟨by rw [Co.may_iff.2 ⟨by omega, by assumption, by assumption, by grind, by grind, by grind, by omega, by omega, by omega⟩], hO.below⟩
                  refine Zd (p := (2 : Int) < c.parts) false (decide_eq_false (h13)) (Zv (.bool false) (Zv (.pointer (some ⟨b1, 2, none⟩)) (Zv (.pointer (some ⟨b1, 4, none⟩)) (Zl 0 ⟨b1, (coV c).cells, 51⟩ (off := 4) (.int .i64 c.v.pat) ?_))))
                  by_cases h14 : (c.v.pat : Int) = 0
                  · refine zW (p := (c.v.pat : Int) = 0) true (by kernel_rfl) (fun _ => by kernel_rfl) (decide_eq_true (h14)) ?_
                    exact Zv (.bool true) (Zv (.bool true) (Zv (.bool true) (ZN (zB (ZF (.bool true) Tryz.results79 (fun w hO => ⟨by rw [Co.may_iff.2 ⟨by omega, by assumption, by assumption, by grind, by grind, by grind, by omega, by omega, by omega⟩], hO.below⟩))))))
                  exact Zd (p := (c.v.pat : Int) = 0) false (decide_eq_false (h14)) (Zv (.bool false) (Zv (.bool false) (Zv (.bool false) (ZN (zB (ZF (.bool false) Tryz.results79 (fun w hO => ⟨by rw [show c.may = false from Bool.eq_false_iff.2 fun q0 => by have q1 := Co.may_iff.1 q0; grind], hO.below⟩)))))))
                refine Zd (p := (1 : Int) < c.parts) false (decide_eq_false (h12)) (Zv (.bool false) (Zv (.pointer (some ⟨b1, 2, none⟩)) (Zv (.pointer (some ⟨b1, 3, none⟩)) (Zl 0 ⟨b1, (coV c).cells, 51⟩ (off := 3) (.int .i64 c.v.min) ?_))))
                by_cases h15 : (c.v.min : Int) = 0
                · refine zW (p := (c.v.min : Int) = 0) true (by kernel_rfl) (fun _ => by kernel_rfl) (decide_eq_true (h15)) ?_
                  refine Zv (.bool true) (Zv (.bool true) (Zv (.bool true) (Zv (.pointer (some ⟨b1, 1, none⟩)) (Zl 0 ⟨b1, (coV c).cells, 51⟩ (off := 1) (.int .i64 c.parts) ?_))))
                  by_cases h16 : (2 : Int) < c.parts
                  · refine zW (p := (2 : Int) < c.parts) true (by kernel_rfl) (fun _ => by kernel_rfl) (decide_eq_true (h16)) ?_
                    refine Zv (.bool true) (Zk (Zk (Zk (Zk (Zv (.bool true) (Zv (.bool true) (Zv (.bool true) (ZN (zB (ZF (.bool true) Tryz.results79 ?_))))))))))
                    exact fun w hO => ⟨by rw [Co.may_iff.2 ⟨by omega, by assumption, by assumption, by grind, by grind, by grind, by omega, by omega, by omega⟩], hO.below⟩
                  refine Zd (p := (2 : Int) < c.parts) false (decide_eq_false (h16)) (Zv (.bool false) (Zv (.pointer (some ⟨b1, 2, none⟩)) (Zv (.pointer (some ⟨b1, 4, none⟩)) (Zl 0 ⟨b1, (coV c).cells, 51⟩ (off := 4) (.int .i64 c.v.pat) ?_))))
                  by_cases h17 : (c.v.pat : Int) = 0
                  · refine zW (p := (c.v.pat : Int) = 0) true (by kernel_rfl) (fun _ => by kernel_rfl) (decide_eq_true (h17)) ?_
                    exact Zv (.bool true) (Zv (.bool true) (Zv (.bool true) (ZN (zB (ZF (.bool true) Tryz.results79 (fun w hO => ⟨by rw [Co.may_iff.2 ⟨by omega, by assumption, by assumption, by grind, by grind, by grind, by omega, by omega, by omega⟩], hO.below⟩))))))
                  exact Zd (p := (c.v.pat : Int) = 0) false (decide_eq_false (h17)) (Zv (.bool false) (Zv (.bool false) (Zv (.bool false) (ZN (zB (ZF (.bool false) Tryz.results79 (fun w hO => ⟨by rw [show c.may = false from Bool.eq_false_iff.2 fun q0 => by have q1 := Co.may_iff.1 q0; grind], hO.below⟩)))))))
                refine Zd (p := (c.v.min : Int) = 0) false (decide_eq_false (h15)) (Zv (.bool false) (Zv (.bool false) (Zv (.bool false) (Zk (Zk (Zk (Zk (Zk (Zk (Zk (Zk ?_)))))))))))
                exact Zk (Zv (.bool false) (Zv (.bool false) (ZN (zB (ZF (.bool false) Tryz.results79 (fun w hO => ⟨by rw [show c.may = false from Bool.eq_false_iff.2 fun q0 => by have q1 := Co.may_iff.1 q0; grind], hO.below⟩))))))
              refine Zd (p := (0 : Int) < c.parts) false (decide_eq_false (h11)) (Zv (.bool false) (Zv (.pointer (some ⟨b1, 2, none⟩)) (Zv (.pointer (some ⟨b1, 2, none⟩)) (Zl 0 ⟨b1, (coV c).cells, 51⟩ (off := 2) (.int .i64 c.v.maj) ?_))))
              by_cases h18 : (c.v.maj : Int) = 0
              · refine zW (p := (c.v.maj : Int) = 0) true (by kernel_rfl) (fun _ => by kernel_rfl) (decide_eq_true (h18)) ?_
                refine Zv (.bool true) (Zv (.bool true) (Zv (.pointer (some ⟨b1, 1, none⟩)) (Zl 0 ⟨b1, (coV c).cells, 51⟩ (off := 1) (.int .i64 c.parts) ?_)))
                by_cases h19 : (1 : Int) < c.parts
                · refine zW (p := (1 : Int) < c.parts) true (by kernel_rfl) (fun _ => by kernel_rfl) (decide_eq_true (h19)) ?_
                  refine Zv (.bool true) (Zk (Zk (Zk (Zk (Zv (.bool true) (Zv (.bool true) (Zv (.bool true) (Zv (.pointer (some ⟨b1, 1, none⟩)) (Zl 0 ⟨b1, (coV c).cells, 51⟩ (off := 1) (.int .i64 c.parts) ?_)))))))))
                  by_cases h20 : (2 : Int) < c.parts
                  · refine zW (p := (2 : Int) < c.parts) true (by kernel_rfl) (fun _ => by kernel_rfl) (decide_eq_true (h20)) ?_
                    refine Zv (.bool true) (Zk (Zk (Zk (Zk (Zv (.bool true) (Zv (.bool true) (Zv (.bool true) (ZN (zB (ZF (.bool true) Tryz.results79 ?_))))))))))
                    exact fun w hO => ⟨by rw [Co.may_iff.2 ⟨by omega, by assumption, by assumption, by grind, by grind, by grind, by omega, by omega, by omega⟩], hO.below⟩
                  refine Zd (p := (2 : Int) < c.parts) false (decide_eq_false (h20)) (Zv (.bool false) (Zv (.pointer (some ⟨b1, 2, none⟩)) (Zv (.pointer (some ⟨b1, 4, none⟩)) (Zl 0 ⟨b1, (coV c).cells, 51⟩ (off := 4) (.int .i64 c.v.pat) ?_))))
                  by_cases h21 : (c.v.pat : Int) = 0
                  · refine zW (p := (c.v.pat : Int) = 0) true (by kernel_rfl) (fun _ => by kernel_rfl) (decide_eq_true (h21)) ?_
                    exact Zv (.bool true) (Zv (.bool true) (Zv (.bool true) (ZN (zB (ZF (.bool true) Tryz.results79 (fun w hO => ⟨by rw [Co.may_iff.2 ⟨by omega, by assumption, by assumption, by grind, by grind, by grind, by omega, by omega, by omega⟩], hO.below⟩))))))
                  exact Zd (p := (c.v.pat : Int) = 0) false (decide_eq_false (h21)) (Zv (.bool false) (Zv (.bool false) (Zv (.bool false) (ZN (zB (ZF (.bool false) Tryz.results79 (fun w hO => ⟨by rw [show c.may = false from Bool.eq_false_iff.2 fun q0 => by have q1 := Co.may_iff.1 q0; grind], hO.below⟩)))))))
                refine Zd (p := (1 : Int) < c.parts) false (decide_eq_false (h19)) (Zv (.bool false) (Zv (.pointer (some ⟨b1, 2, none⟩)) (Zv (.pointer (some ⟨b1, 3, none⟩)) (Zl 0 ⟨b1, (coV c).cells, 51⟩ (off := 3) (.int .i64 c.v.min) ?_))))
                by_cases h22 : (c.v.min : Int) = 0
                · refine zW (p := (c.v.min : Int) = 0) true (by kernel_rfl) (fun _ => by kernel_rfl) (decide_eq_true (h22)) ?_
                  refine Zv (.bool true) (Zv (.bool true) (Zv (.bool true) (Zv (.pointer (some ⟨b1, 1, none⟩)) (Zl 0 ⟨b1, (coV c).cells, 51⟩ (off := 1) (.int .i64 c.parts) ?_))))
                  by_cases h23 : (2 : Int) < c.parts
                  · refine zW (p := (2 : Int) < c.parts) true (by kernel_rfl) (fun _ => by kernel_rfl) (decide_eq_true (h23)) ?_
                    refine Zv (.bool true) (Zk (Zk (Zk (Zk (Zv (.bool true) (Zv (.bool true) (Zv (.bool true) (ZN (zB (ZF (.bool true) Tryz.results79 ?_))))))))))
                    exact fun w hO => ⟨by rw [Co.may_iff.2 ⟨by omega, by assumption, by assumption, by grind, by grind, by grind, by omega, by omega, by omega⟩], hO.below⟩
                  refine Zd (p := (2 : Int) < c.parts) false (decide_eq_false (h23)) (Zv (.bool false) (Zv (.pointer (some ⟨b1, 2, none⟩)) (Zv (.pointer (some ⟨b1, 4, none⟩)) (Zl 0 ⟨b1, (coV c).cells, 51⟩ (off := 4) (.int .i64 c.v.pat) ?_))))
                  by_cases h24 : (c.v.pat : Int) = 0
                  · refine zW (p := (c.v.pat : Int) = 0) true (by kernel_rfl) (fun _ => by kernel_rfl) (decide_eq_true (h24)) ?_
                    exact Zv (.bool true) (Zv (.bool true) (Zv (.bool true) (ZN (zB (ZF (.bool true) Tryz.results79 (fun w hO => ⟨by rw [Co.may_iff.2 ⟨by omega, by assumption, by assumption, by grind, by grind, by grind, by omega, by omega, by omega⟩], hO.below⟩))))))
                  exact Zd (p := (c.v.pat : Int) = 0) false (decide_eq_false (h24)) (Zv (.bool false) (Zv (.bool false) (Zv (.bool false) (ZN (zB (ZF (.bool false) Tryz.results79 (fun w hO => ⟨by rw [show c.may = false from Bool.eq_false_iff.2 fun q0 => by have q1 := Co.may_iff.1 q0; grind], hO.below⟩)))))))
                refine Zd (p := (c.v.min : Int) = 0) false (decide_eq_false (h22)) (Zv (.bool false) (Zv (.bool false) (Zv (.bool false) (Zk (Zk (Zk (Zk (Zk (Zk (Zk (Zk ?_)))))))))))
                exact Zk (Zv (.bool false) (Zv (.bool false) (ZN (zB (ZF (.bool false) Tryz.results79 (fun w hO => ⟨by rw [show c.may = false from Bool.eq_false_iff.2 fun q0 => by have q1 := Co.may_iff.1 q0; grind], hO.below⟩))))))
              refine Zd (p := (c.v.maj : Int) = 0) false (decide_eq_false (h18)) (Zv (.bool false) (Zv (.bool false) (Zk (Zk (Zk (Zk (Zk (Zk (Zk (Zk (Zk ?_)))))))))))
              refine Zv (.bool false) (Zv (.bool false) (Zk (Zk (Zk (Zk (Zk (Zk (Zk (Zk (Zk (Zv (.bool false) ?_)))))))))))
              exact Zv (.bool false) (ZN (zB (ZF (.bool false) Tryz.results79 (fun w hO => ⟨by rw [show c.may = false from Bool.eq_false_iff.2 fun q0 => by have q1 := Co.may_iff.1 q0; grind], hO.below⟩))))
      refine Zd (p := (c.op : Int) = 9) false (decide_eq_false (h5)) (ZN (bA (fun L f => ∃ (lo : Int) (hi : Int) (j : Nat → Value), ((c.op = 9 → lo = 0 ∧ hi = 2) ∧ (¬ c.op = 9 → lo = 1 ∧ hi = 3)) ∧ L = [⟨b1, (coV c).cells, 51⟩] ∧ f = kG j [(1, .pointer (some ⟨b1, 0, none⟩)), (3, .int .i64 lo), (4, .int .i64 hi)]) ?_ ?_))
      · refine ok_false (by kernel_rfl) ?_
        exact x5 (yX ⟨1, 3, _, ⟨by omega, by omega⟩, rfl, ZU⟩)
      · rintro L f ⟨lo, hi, j, hj3, rfl, rfl⟩
        refine zA (z6 (z6 (bA (fun L f => ∃ (bad : Bool) (j : Nat → Value), ((bad = true → ¬ (lo ≤ c.parts ∧ c.parts ≤ hi ∧ (3 ≤ c.parts ∨ c.v.pre = []))) ∧ (bad = false → lo ≤ c.parts ∧ c.parts ≤ hi ∧ (3 ≤ c.parts ∨ c.v.pre = []))) ∧ L = [⟨b1, (coV c).cells, 51⟩] ∧ f = kG j [(1, .pointer (some ⟨b1, 0, none⟩)), (48, .bool bad)]) ?_ ?_)))
        · refine z7 ?_
          refine Zv (.pointer (some ⟨b1, 1, none⟩)) (Zl 0 ⟨b1, (coV c).cells, 51⟩ (off := 1) (.int .i64 c.parts) (Zv (.int .i64 lo) ?_))
          by_cases h25 : (c.parts : Int) < lo
          · refine zW (p := (c.parts : Int) < lo) true (by kernel_rfl) (fun _ => by kernel_rfl) (decide_eq_true (h25)) ?_
            refine Zv (.bool true) (Zk (Zk (Zk (Zk (Zv (.bool true) (Zv (.bool true) (Zk (Zk (Zk (Zk (Zk ?_)))))))))))
            exact Zk (Zk (Zk (Zk (Zv (.bool true) (zR (yX ⟨true, _, ⟨fun q0 => by grind, fun q0 => absurd q0 (by decide)⟩, rfl, ZU⟩))))))
          refine Zd (p := (c.parts : Int) < lo) false (decide_eq_false (h25)) (Zv (.bool false) (Zv (.pointer (some ⟨b1, 1, none⟩)) (Zl 0 ⟨b1, (coV c).cells, 51⟩ (off := 1) (.int .i64 c.parts) (Zv (.int .i64 hi) ?_))))
          by_cases h26 : (hi : Int) < c.parts
          · refine zW (p := (hi : Int) < c.parts) true (by kernel_rfl) (fun _ => by kernel_rfl) (decide_eq_true (h26)) ?_
            refine Zv (.bool true) (Zv (.bool true) (Zk (Zk (Zk (Zk (Zk (Zk (Zk (Zk (Zk (Zv (.bool true) ?_)))))))))))
            exact zR (yX ⟨true, _, ⟨fun q0 => by grind, fun q0 => absurd q0 (by decide)⟩, rfl, ZU⟩)
          refine Zd (p := (hi : Int) < c.parts) false (decide_eq_false (h26)) (Zv (.bool false) (Zv (.bool false) (Zv (.pointer (some ⟨b1, 1, none⟩)) (Zl 0 ⟨b1, (coV c).cells, 51⟩ (off := 1) (.int .i64 c.parts) ?_))))
          by_cases h27 : (c.parts : Int) < 3
          · refine zW (p := (c.parts : Int) < 3) true (by kernel_rfl) (fun _ => by kernel_rfl) (decide_eq_true (h27)) ?_
            refine Zv (.bool true) (Zv (.pointer (some ⟨b1, 2, none⟩)) (Zv (.pointer (some ⟨b1, 5, none⟩)) (Zl 0 ⟨b1, (coV c).cells, 51⟩ (off := 5) (.string (mkS c.v.pre)) ?_)))
            by_cases h28 : (c.v.pre : List UInt8) = []
            · refine zV (.bool false) (by kernel_rfl) (xB (a := c.v.pre) (b := ([])) rfl (by kernel_rfl) (by kernel_rfl) (decide_eq_true (h28))) ?_
              exact Zv (.bool false) (Zv (.bool false) (zR (yX ⟨false, _, ⟨fun q0 => absurd q0 (by decide), fun q0 => ⟨by omega, by omega, by first | exact .inr (by assumption) | exact .inl (by omega)⟩⟩, rfl, ZU⟩)))
            exact zV (.bool true) (by kernel_rfl) (xB (a := c.v.pre) (b := ([])) rfl (by kernel_rfl) (by kernel_rfl) (decide_eq_false (h28))) (Zv (.bool true) (Zv (.bool true) (zR (yX ⟨true, _, ⟨fun q0 => by grind, fun q0 => absurd q0 (by decide)⟩, rfl, ZU⟩))))
          exact Zd (p := (c.parts : Int) < 3) false (decide_eq_false (h27)) (Zv (.bool false) (Zk (Zk (Zk (Zk (Zv (.bool false) (Zv (.bool false) (zR (yX ⟨false, _, ⟨fun q0 => absurd q0 (by decide), fun q0 => ⟨by omega, by omega, by first | exact .inr (by assumption) | exact .inl (by omega)⟩⟩, rfl, ZU⟩)))))))))
        · rintro L f ⟨bad, j, hj2, rfl, rfl⟩
          refine zA ?_
          cases h29 : bad with
          | true =>
            exact Zt (ZO (Zv (.bool false) (ZN (zB (z8 (ZF (.bool false) Tryz.results79 (fun w hO => ⟨by rw [show c.may = false from Bool.eq_false_iff.2 fun q0 => by have q1 := Co.may_iff.1 q0; grind], hO.below⟩)))))))
          | false =>
            refine Zf (ZB (ZO (Zv (.pointer (some ⟨b1, 1, none⟩)) (Zl 0 ⟨b1, (coV c).cells, 51⟩ (off := 1) (.int .i64 c.parts) ?_))))
            by_cases h30 : (0 : Int) < c.parts
            · refine zW (p := (0 : Int) < c.parts) true (by kernel_rfl) (fun _ => by kernel_rfl) (decide_eq_true (h30)) ?_
              refine Zv (.bool true) (Zk (Zk (Zk (Zk (Zv (.bool true) (Zv (.bool true) (Zv (.pointer (some ⟨b1, 1, none⟩)) (Zl 0 ⟨b1, (coV c).cells, 51⟩ (off := 1) (.int .i64 c.parts) ?_))))))))
              by_cases h31 : (1 : Int) < c.parts
              · refine zW (p := (1 : Int) < c.parts) true (by kernel_rfl) (fun _ => by kernel_rfl) (decide_eq_true (h31)) ?_
                refine Zv (.bool true) (Zk (Zk (Zk (Zk (Zv (.bool true) (Zv (.bool true) (Zv (.bool true) (Zv (.pointer (some ⟨b1, 1, none⟩)) (Zl 0 ⟨b1, (coV c).cells, 51⟩ (off := 1) (.int .i64 c.parts) ?_)))))))))
                by_cases h32 : (2 : Int) < c.parts
                · refine zW (p := (2 : Int) < c.parts) true (by kernel_rfl) (fun _ => by kernel_rfl) (decide_eq_true (h32)) ?_
                  refine Zv (.bool true) (Zk (Zk (Zk (Zk (Zv (.bool true) (Zv (.bool true) (Zv (.bool true) (ZN (zB (ZF (.bool true) Tryz.results79 ?_))))))))))
                  exact fun w hO => ⟨by rw [Co.may_iff.2 ⟨by omega, by assumption, by assumption, by grind, by grind, by grind, by omega, by omega, by omega⟩], hO.below⟩
                refine Zd (p := (2 : Int) < c.parts) false (decide_eq_false (h32)) (Zv (.bool false) (Zv (.pointer (some ⟨b1, 2, none⟩)) (Zv (.pointer (some ⟨b1, 4, none⟩)) (Zl 0 ⟨b1, (coV c).cells, 51⟩ (off := 4) (.int .i64 c.v.pat) ?_))))
                by_cases h33 : (c.v.pat : Int) = 0
                · refine zW (p := (c.v.pat : Int) = 0) true (by kernel_rfl) (fun _ => by kernel_rfl) (decide_eq_true (h33)) ?_
                  exact Zv (.bool true) (Zv (.bool true) (Zv (.bool true) (ZN (zB (ZF (.bool true) Tryz.results79 (fun w hO => ⟨by rw [Co.may_iff.2 ⟨by omega, by assumption, by assumption, by grind, by grind, by grind, by omega, by omega, by omega⟩], hO.below⟩))))))
                exact Zd (p := (c.v.pat : Int) = 0) false (decide_eq_false (h33)) (Zv (.bool false) (Zv (.bool false) (Zv (.bool false) (ZN (zB (ZF (.bool false) Tryz.results79 (fun w hO => ⟨by rw [show c.may = false from Bool.eq_false_iff.2 fun q0 => by have q1 := Co.may_iff.1 q0; grind], hO.below⟩)))))))
              refine Zd (p := (1 : Int) < c.parts) false (decide_eq_false (h31)) (Zv (.bool false) (Zv (.pointer (some ⟨b1, 2, none⟩)) (Zv (.pointer (some ⟨b1, 3, none⟩)) (Zl 0 ⟨b1, (coV c).cells, 51⟩ (off := 3) (.int .i64 c.v.min) ?_))))
              by_cases h34 : (c.v.min : Int) = 0
              · refine zW (p := (c.v.min : Int) = 0) true (by kernel_rfl) (fun _ => by kernel_rfl) (decide_eq_true (h34)) ?_
                refine Zv (.bool true) (Zv (.bool true) (Zv (.bool true) (Zv (.pointer (some ⟨b1, 1, none⟩)) (Zl 0 ⟨b1, (coV c).cells, 51⟩ (off := 1) (.int .i64 c.parts) ?_))))
                by_cases h35 : (2 : Int) < c.parts
                · refine zW (p := (2 : Int) < c.parts) true (by kernel_rfl) (fun _ => by kernel_rfl) (decide_eq_true (h35)) ?_
                  refine Zv (.bool true) (Zk (Zk (Zk (Zk (Zv (.bool true) (Zv (.bool true) (Zv (.bool true) (ZN (zB (ZF (.bool true) Tryz.results79 ?_))))))))))
                  exact fun w hO => ⟨by rw [Co.may_iff.2 ⟨by omega, by assumption, by assumption, by grind, by grind, by grind, by omega, by omega, by omega⟩], hO.below⟩
                refine Zd (p := (2 : Int) < c.parts) false (decide_eq_false (h35)) (Zv (.bool false) (Zv (.pointer (some ⟨b1, 2, none⟩)) (Zv (.pointer (some ⟨b1, 4, none⟩)) (Zl 0 ⟨b1, (coV c).cells, 51⟩ (off := 4) (.int .i64 c.v.pat) ?_))))
                by_cases h36 : (c.v.pat : Int) = 0
                · refine zW (p := (c.v.pat : Int) = 0) true (by kernel_rfl) (fun _ => by kernel_rfl) (decide_eq_true (h36)) ?_
                  exact Zv (.bool true) (Zv (.bool true) (Zv (.bool true) (ZN (zB (ZF (.bool true) Tryz.results79 (fun w hO => ⟨by rw [Co.may_iff.2 ⟨by omega, by assumption, by assumption, by grind, by grind, by grind, by omega, by omega, by omega⟩], hO.below⟩))))))
                exact Zd (p := (c.v.pat : Int) = 0) false (decide_eq_false (h36)) (Zv (.bool false) (Zv (.bool false) (Zv (.bool false) (ZN (zB (ZF (.bool false) Tryz.results79 (fun w hO => ⟨by rw [show c.may = false from Bool.eq_false_iff.2 fun q0 => by have q1 := Co.may_iff.1 q0; grind], hO.below⟩)))))))
              refine Zd (p := (c.v.min : Int) = 0) false (decide_eq_false (h34)) (Zv (.bool false) (Zv (.bool false) (Zv (.bool false) (Zk (Zk (Zk (Zk (Zk (Zk (Zk (Zk ?_)))))))))))
              exact Zk (Zv (.bool false) (Zv (.bool false) (ZN (zB (ZF (.bool false) Tryz.results79 (fun w hO => ⟨by rw [show c.may = false from Bool.eq_false_iff.2 fun q0 => by have q1 := Co.may_iff.1 q0; grind], hO.below⟩))))))
            refine Zd (p := (0 : Int) < c.parts) false (decide_eq_false (h30)) (Zv (.bool false) (Zv (.pointer (some ⟨b1, 2, none⟩)) (Zv (.pointer (some ⟨b1, 2, none⟩)) (Zl 0 ⟨b1, (coV c).cells, 51⟩ (off := 2) (.int .i64 c.v.maj) ?_))))
            by_cases h37 : (c.v.maj : Int) = 0
            · refine zW (p := (c.v.maj : Int) = 0) true (by kernel_rfl) (fun _ => by kernel_rfl) (decide_eq_true (h37)) ?_
              refine Zv (.bool true) (Zv (.bool true) (Zv (.pointer (some ⟨b1, 1, none⟩)) (Zl 0 ⟨b1, (coV c).cells, 51⟩ (off := 1) (.int .i64 c.parts) ?_)))
              by_cases h38 : (1 : Int) < c.parts
              · refine zW (p := (1 : Int) < c.parts) true (by kernel_rfl) (fun _ => by kernel_rfl) (decide_eq_true (h38)) ?_
                refine Zv (.bool true) (Zk (Zk (Zk (Zk (Zv (.bool true) (Zv (.bool true) (Zv (.bool true) (Zv (.pointer (some ⟨b1, 1, none⟩)) (Zl 0 ⟨b1, (coV c).cells, 51⟩ (off := 1) (.int .i64 c.parts) ?_)))))))))
                by_cases h39 : (2 : Int) < c.parts
                · refine zW (p := (2 : Int) < c.parts) true (by kernel_rfl) (fun _ => by kernel_rfl) (decide_eq_true (h39)) ?_
                  refine Zv (.bool true) (Zk (Zk (Zk (Zk (Zv (.bool true) (Zv (.bool true) (Zv (.bool true) (ZN (zB (ZF (.bool true) Tryz.results79 ?_))))))))))
                  exact fun w hO => ⟨by rw [Co.may_iff.2 ⟨by omega, by assumption, by assumption, by grind, by grind, by grind, by omega, by omega, by omega⟩], hO.below⟩
                refine Zd (p := (2 : Int) < c.parts) false (decide_eq_false (h39)) (Zv (.bool false) (Zv (.pointer (some ⟨b1, 2, none⟩)) (Zv (.pointer (some ⟨b1, 4, none⟩)) (Zl 0 ⟨b1, (coV c).cells, 51⟩ (off := 4) (.int .i64 c.v.pat) ?_))))
                by_cases h40 : (c.v.pat : Int) = 0
                · refine zW (p := (c.v.pat : Int) = 0) true (by kernel_rfl) (fun _ => by kernel_rfl) (decide_eq_true (h40)) ?_
                  exact Zv (.bool true) (Zv (.bool true) (Zv (.bool true) (ZN (zB (ZF (.bool true) Tryz.results79 (fun w hO => ⟨by rw [Co.may_iff.2 ⟨by omega, by assumption, by assumption, by grind, by grind, by grind, by omega, by omega, by omega⟩], hO.below⟩))))))
                exact Zd (p := (c.v.pat : Int) = 0) false (decide_eq_false (h40)) (Zv (.bool false) (Zv (.bool false) (Zv (.bool false) (ZN (zB (ZF (.bool false) Tryz.results79 (fun w hO => ⟨by rw [show c.may = false from Bool.eq_false_iff.2 fun q0 => by have q1 := Co.may_iff.1 q0; grind], hO.below⟩)))))))
              refine Zd (p := (1 : Int) < c.parts) false (decide_eq_false (h38)) (Zv (.bool false) (Zv (.pointer (some ⟨b1, 2, none⟩)) (Zv (.pointer (some ⟨b1, 3, none⟩)) (Zl 0 ⟨b1, (coV c).cells, 51⟩ (off := 3) (.int .i64 c.v.min) ?_))))
              by_cases h41 : (c.v.min : Int) = 0
              · refine zW (p := (c.v.min : Int) = 0) true (by kernel_rfl) (fun _ => by kernel_rfl) (decide_eq_true (h41)) ?_
                refine Zv (.bool true) (Zv (.bool true) (Zv (.bool true) (Zv (.pointer (some ⟨b1, 1, none⟩)) (Zl 0 ⟨b1, (coV c).cells, 51⟩ (off := 1) (.int .i64 c.parts) ?_))))
                by_cases h42 : (2 : Int) < c.parts
                · refine zW (p := (2 : Int) < c.parts) true (by kernel_rfl) (fun _ => by kernel_rfl) (decide_eq_true (h42)) ?_
                  refine Zv (.bool true) (Zk (Zk (Zk (Zk (Zv (.bool true) (Zv (.bool true) (Zv (.bool true) (ZN (zB (ZF (.bool true) Tryz.results79 ?_))))))))))
                  exact fun w hO => ⟨by rw [Co.may_iff.2 ⟨by omega, by assumption, by assumption, by grind, by grind, by grind, by omega, by omega, by omega⟩], hO.below⟩
                refine Zd (p := (2 : Int) < c.parts) false (decide_eq_false (h42)) (Zv (.bool false) (Zv (.pointer (some ⟨b1, 2, none⟩)) (Zv (.pointer (some ⟨b1, 4, none⟩)) (Zl 0 ⟨b1, (coV c).cells, 51⟩ (off := 4) (.int .i64 c.v.pat) ?_))))
                by_cases h43 : (c.v.pat : Int) = 0
                · refine zW (p := (c.v.pat : Int) = 0) true (by kernel_rfl) (fun _ => by kernel_rfl) (decide_eq_true (h43)) ?_
                  exact Zv (.bool true) (Zv (.bool true) (Zv (.bool true) (ZN (zB (ZF (.bool true) Tryz.results79 (fun w hO => ⟨by rw [Co.may_iff.2 ⟨by omega, by assumption, by assumption, by grind, by grind, by grind, by omega, by omega, by omega⟩], hO.below⟩))))))
                exact Zd (p := (c.v.pat : Int) = 0) false (decide_eq_false (h43)) (Zv (.bool false) (Zv (.bool false) (Zv (.bool false) (ZN (zB (ZF (.bool false) Tryz.results79 (fun w hO => ⟨by rw [show c.may = false from Bool.eq_false_iff.2 fun q0 => by have q1 := Co.may_iff.1 q0; grind], hO.below⟩)))))))
              refine Zd (p := (c.v.min : Int) = 0) false (decide_eq_false (h41)) (Zv (.bool false) (Zv (.bool false) (Zv (.bool false) (Zk (Zk (Zk (Zk (Zk (Zk (Zk (Zk ?_)))))))))))
              exact Zk (Zv (.bool false) (Zv (.bool false) (ZN (zB (ZF (.bool false) Tryz.results79 (fun w hO => ⟨by rw [show c.may = false from Bool.eq_false_iff.2 fun q0 => by have q1 := Co.may_iff.1 q0; grind], hO.below⟩))))))
            refine Zd (p := (c.v.maj : Int) = 0) false (decide_eq_false (h37)) (Zv (.bool false) (Zv (.bool false) (Zk (Zk (Zk (Zk (Zk (Zk (Zk (Zk (Zk ?_)))))))))))
            refine Zv (.bool false) (Zv (.bool false) (Zk (Zk (Zk (Zk (Zk (Zk (Zk (Zk (Zk (Zv (.bool false) ?_)))))))))))
            exact Zv (.bool false) (ZN (zB (ZF (.bool false) Tryz.results79 (fun w hO => ⟨by rw [show c.may = false from Bool.eq_false_iff.2 fun q0 => by have q1 := Co.may_iff.1 q0; grind], hO.below⟩))))
    refine zV (.bool true) (by kernel_rfl) (xB (a := c.v.build) (b := ([])) rfl (by kernel_rfl) (by kernel_rfl) (decide_eq_false (h4))) (Zv (.bool true) (ZY (ZO (Zv (.bool false) (ZN (zB (z8 ?_)))))))
    exact ZF (.bool false) Tryz.results79 (fun w hO => ⟨by rw [show c.may = false from Bool.eq_false_iff.2 fun q0 => by have q1 := Co.may_iff.1 q0; grind], hO.below⟩)
  | false =>
    refine Zv (.bool true) (Zv (.bool true) (Zv (.bool true) (Zk (Zk (Zk (Zk (Zv (.bool true) (ZY (z6 ?_)))))))))
    exact z7 (Zv (.bool false) (ZN (zB (z8 (ZF (.bool false) Tryz.results79 (fun w hO => ⟨by rw [show c.may = false from Bool.eq_false_iff.2 fun q0 => by have q1 := Co.may_iff.1 q0; grind], hO.below⟩))))))
theorem rcsign_any (op : Int) (W : World) : Calls Tryz.prog 123 #[.int .i64 op] W fun e w' => e = .returned (.string (mkS (y7 op))) ∧ Below W.heap.size W w' := by
  refine zP (n := 20) Tryz.func123 rfl (by kernel_rfl) (by kernel_rfl) (ZO (Zv (.string ⟨#[]⟩) (ZN (z6 (ZO (Zv (.int .i64 op) (zR (zA ?_))))))))
  refine zL (z6 (z7 ?_))
  by_cases h1 : (op : Int) = 1
  · refine zW (p := (op : Int) = 1) true (by kernel_rfl) (fun _ => by kernel_rfl) (decide_eq_true (h1)) ?_
    refine Zv (.bool true) (ZY (ZO (Zv (.string ⟨#[61]⟩) (ZN (zB (zG (z8 ?_)))))))
    exact ZF (.string ⟨#[61]⟩) Tryz.results123 (fun w hO => ⟨by unfold y7; simp [h1]; rfl, hO.below⟩)
  refine Zd (p := (op : Int) = 1) false (decide_eq_false (h1)) (Zv (.bool false) (ZX (z6 (z7 ?_))))
  by_cases h2 : (op : Int) = 2
  · refine zW (p := (op : Int) = 2) true (by kernel_rfl) (fun _ => by kernel_rfl) (decide_eq_true (h2)) ?_
    refine Zv (.bool true) (ZY (ZO (Zv (.string ⟨#[33, 61]⟩) (ZN (zB (zG (z8 ?_)))))))
    exact ZF (.string ⟨#[33, 61]⟩) Tryz.results123 (fun w hO => ⟨by unfold y7; simp [h1, h2]; rfl, hO.below⟩)
  refine Zd (p := (op : Int) = 2) false (decide_eq_false (h2)) (Zv (.bool false) (ZX (z6 (z7 ?_))))
  by_cases h3 : (op : Int) = 3
  · refine zW (p := (op : Int) = 3) true (by kernel_rfl) (fun _ => by kernel_rfl) (decide_eq_true (h3)) ?_
    refine Zv (.bool true) (ZY (ZO (Zv (.string ⟨#[60]⟩) (ZN (zB (zG (z8 ?_)))))))
    exact ZF (.string ⟨#[60]⟩) Tryz.results123 (fun w hO => ⟨by unfold y7; simp [h1, h2, h3]; rfl, hO.below⟩)
  refine Zd (p := (op : Int) = 3) false (decide_eq_false (h3)) (Zv (.bool false) (ZX (z6 (z7 ?_))))
  by_cases h4 : (op : Int) = 4
  · refine zW (p := (op : Int) = 4) true (by kernel_rfl) (fun _ => by kernel_rfl) (decide_eq_true (h4)) ?_
    refine Zv (.bool true) (ZY (ZO (Zv (.string ⟨#[60, 61]⟩) (ZN (zB (zG (z8 ?_)))))))
    exact ZF (.string ⟨#[60, 61]⟩) Tryz.results123 (fun w hO => ⟨by unfold y7; simp [h1, h2, h3, h4]; rfl, hO.below⟩)
  refine Zd (p := (op : Int) = 4) false (decide_eq_false (h4)) (Zv (.bool false) (ZX (z6 (z7 ?_))))
  by_cases h5 : (op : Int) = 5
  · refine zW (p := (op : Int) = 5) true (by kernel_rfl) (fun _ => by kernel_rfl) (decide_eq_true (h5)) ?_
    refine Zv (.bool true) (ZY (ZO (Zv (.string ⟨#[62]⟩) (ZN (zB (zG (z8 ?_)))))))
    exact ZF (.string ⟨#[62]⟩) Tryz.results123 (fun w hO => ⟨by unfold y7; simp [h1, h2, h3, h4, h5]; rfl, hO.below⟩)
  refine Zd (p := (op : Int) = 5) false (decide_eq_false (h5)) (Zv (.bool false) (ZX (z6 (z7 ?_))))
  by_cases h6 : (op : Int) = 6
  · refine zW (p := (op : Int) = 6) true (by kernel_rfl) (fun _ => by kernel_rfl) (decide_eq_true (h6)) ?_
    refine Zv (.bool true) (ZY (ZO (Zv (.string ⟨#[62, 61]⟩) (ZN (zB (zG (z8 ?_)))))))
    exact ZF (.string ⟨#[62, 61]⟩) Tryz.results123 (fun w hO => ⟨by unfold y7; simp [h1, h2, h3, h4, h5, h6]; rfl, hO.below⟩)
  refine Zd (p := (op : Int) = 6) false (decide_eq_false (h6)) (Zv (.bool false) (ZX (z6 (z7 ?_))))
  by_cases h7 : (op : Int) = 7
  · refine zW (p := (op : Int) = 7) true (by kernel_rfl) (fun _ => by kernel_rfl) (decide_eq_true (h7)) ?_
    refine Zv (.bool true) (ZY (ZO (Zv (.string ⟨#[94]⟩) (ZN (zB (zG (z8 ?_)))))))
    exact ZF (.string ⟨#[94]⟩) Tryz.results123 (fun w hO => ⟨by unfold y7; simp [h1, h2, h3, h4, h5, h6, h7]; rfl, hO.below⟩)
  refine Zd (p := (op : Int) = 7) false (decide_eq_false (h7)) (Zv (.bool false) (ZX (z6 (z7 ?_))))
  by_cases h8 : (op : Int) = 8
  · refine zW (p := (op : Int) = 8) true (by kernel_rfl) (fun _ => by kernel_rfl) (decide_eq_true (h8)) ?_
    refine Zv (.bool true) (ZY (ZO (Zv (.string ⟨#[126]⟩) (ZN (zB (zG (z8 ?_)))))))
    exact ZF (.string ⟨#[126]⟩) Tryz.results123 (fun w hO => ⟨by unfold y7; simp [h1, h2, h3, h4, h5, h6, h7, h8]; rfl, hO.below⟩)
  refine Zd (p := (op : Int) = 8) false (decide_eq_false (h8)) (Zv (.bool false) (ZX (x5 (zT (zA (ZO (Zv (.string ⟨#[]⟩) (zR ?_))))))))
  exact zA (zB (ZF (.string ⟨#[]⟩) Tryz.results123 (fun w hO => ⟨by unfold y7; simp [h1, h2, h3, h4, h5, h6, h7, h8]; rfl, hO.below⟩)))
end
section
theorem slit6 (s : Sp) (b : Nat) (cur : Array Value) (h : cur.toList = yW s) : SlS (.slice (some ⟨b, 0, none⟩) 1 1) [s] [⟨b, cur, 80⟩] := by
  have e : ([s] : List Sp).flatMap yW = yW s := List.append_nil _
  have hc : cur.toList.length = 14 := by rw [h]; rfl
  refine ⟨by rw [e]; rfl, .inr ⟨b, 1, cur, rfl, rfl, Nat.le_refl _, by decide, by rw [← Array.length_toList, hc], ?_⟩⟩
  rw [e, h]
  exact List.take_of_length_le (Nat.le_refl 14)
theorem high_short (v : Ver) (k : Nat) : (qG v k).short := by
  induction k with
  | zero =>
    unfold qG
    split
    · exact bump_short v 0
    · exact ⟨Nat.zero_le _, Nat.zero_le _⟩
  | succ k ih =>
    unfold qG
    split
    · exact bump_short v _
    · exact ih
theorem span_short {c : Co} (h : c.short) : c.span.1.short ∧ c.span.2.short := by
  have hl : c.low.short := core_short h
  have he : ∀ e : Int, (y5 e).short := fun e => ⟨Nat.zero_le _, Nat.zero_le _⟩
  have ha : c.aft.short := by
    unfold Co.aft
    split
    · exact high_short _ _
    · exact core_short h
  have hh := fun k => high_short c.v k
  unfold Co.span
  repeat' split
  all_goals exact ⟨by first | exact hl | exact ha | exact he _ | exact hh _, by first | exact hl | exact ha | exact he _ | exact hh _⟩
theorem dU (lo hi : Cu) : kF lo hi = if zM lo hi < 0 then [⟨lo, hi⟩] else [] := by
  unfold kF q7
  by_cases h : zM lo hi < 0
  · rw [if_pos (bQ h), if_pos h]; rfl
  · rw [if_neg (fun q => h (uL q)), if_neg h]
end
section
def triV (l : List (List UInt8)) : Ver := if l.length = 3 then ⟨zS (tg l 0), zS (tg l 1), zS (tg l 2), [], []⟩ else Ver.zero
def triB (l : List (List UInt8)) : Bool := decide (l.length = 3) && (gK (tg l 0) && gK (tg l 1) && gK (tg l 2))
theorem nU (n : Int) (h : yG n = true) (w : World) :
    Calls Tryz.prog 171 #[.int .i64 n] w fun e w' => e = .returned (.string (mkS (Lib.itoa n))) ∧ Below w.heap.size w w' := by
  unfold yG at h; simp at h
  exact rdigits_any n (by omega) (by omega) w
end
section
theorem jS (op : Int) : (y7 op).length ≤ 2 := by
  unfold y7
  repeat' split
  all_goals decide
theorem join_len (b : UInt8) (m : Nat) : ∀ (l : List (List UInt8)), (∀ x ∈ l, x.length ≤ m) → (zY b l).length ≤ l.length * (m + 1)
  | [], _ => by simp [zY]
  | [x], h => by
    have := h x (List.mem_singleton.2 rfl)
    simp [zY]; omega
  | x :: y :: r, h => by
    have h1 := h x (List.mem_cons_self ..)
    have h2 := join_len b m (y :: r) fun z hz => h z (List.mem_cons_of_mem _ hz)
    rw [zY, List.length_append, List.length_cons]
    simp only [List.length_cons, Nat.add_mul] at h2 ⊢
    omega
theorem nums_len9 {v : Ver} (hv : v.may = true) {n : Nat} : ∀ x ∈ yC v n, x.length ≤ 21 := fun x hx => by
  obtain ⟨k, hk, rfl⟩ := nums_mem hv hx
  have := tM hk
  omega
theorem uE (v : Ver) (n : Nat) : (yC v n).length ≤ 3 := by unfold yC; rw [List.length_take]; simp; omega
theorem qU {v : Ver} (hv : v.may = true) (n : Nat) : (zY 46 (yC v n)).length ≤ 100 := by
  have h := join_len 46 21 (yC v n) (nums_len9 hv)
  have := uE v n
  omega
theorem jR {v : Ver} (hv : v.may = true) (n : Nat) : (zY 46 (yC v n ++ [[42]])).length ≤ 200 := by
  have h := join_len 46 21 (yC v n ++ [[42]]) (fun x hx => by
    rcases List.mem_append.1 hx with hx | hx
    · exact nums_len9 hv x hx
    · rw [List.mem_singleton.1 hx]; decide)
  have := uE v n
  rw [List.length_append] at h
  simp at h; omega
def toldC (v : Ver) : Array Value := #[.string (mkS (Lib.itoa v.maj)), .string (mkS (Lib.itoa v.min)), .string (mkS (Lib.itoa v.pat))]
theorem told_take (v : Ver) {n : Nat} (h : n ≤ 3) : (toldC v).toList.take (n * 1) = qN (yC v n) := by
  rw [Nat.mul_one]
  unfold qN yC
  rw [List.map_take]; rfl
theorem told_slt (v : Ver) {n : Nat} (h : n ≤ 3) (g : Nat) : SlT (.slice (some ⟨g, 0, none⟩) n 3) (yC v n) [⟨g, toldC v, 9⟩] := by
  have e := qT v h
  refine ⟨by rw [j4, e]; omega, .inr ⟨g, 3, toldC v, by rw [e], rfl, by rw [e]; exact h, by decide, rfl, ?_⟩⟩
  rw [e]; exact told_take v h
theorem strInfo : (Tryz.prog.info? 9).map (fun i => (i.zero.map (·.cells.size), i.size, i.bytes)) = some (some 1, 1, 16) := by kernel_rfl
theorem fL : ∃ i z, Tryz.prog.info? 9 = some i ∧ i.zero = some z ∧ i.size = 1 ∧ z.cells.size = 1 ∧ i.bytes = 16 := by
  have h := strInfo
  cases hi : Tryz.prog.info? 9 with
  | none => rw [hi] at h; cases h
  | some i =>
    rw [hi] at h
    simp only [Option.map_some, Option.some.injEq, Prod.mk.injEq] at h
    cases hz : i.zero with
    | none => rw [hz] at h; simp at h
    | some z => rw [hz] at h; simp at h; exact ⟨i, z, rfl, hz, h.2.1, h.1, h.2.2⟩
theorem parts_nat {c : Co} (h : c.may = true) : ((c.parts.toNat : Nat) : Int) = c.parts ∧ c.parts.toNat ≤ 3 := by
  obtain ⟨_, _, _, h9, hn, _⟩ := Co.facts h
  by_cases e : c.op = 9
  · have := h9 e; omega
  · have := hn e; omega
theorem star_text {c : Co} (h9 : c.op = 9) : zY 46 (yC c.v c.parts.toNat ++ [[42]]) = c.text := by
  unfold Co.text Co.rest
  rw [h9, if_pos rfl]; rfl
theorem text_pre {c : Co} (h9 : ¬ c.op = 9) (hp : ¬ c.v.pre = []) : y7 c.op ++ zY 46 (yC c.v c.parts.toNat) ++ [45] ++ c.v.pre = c.text := by
  unfold Co.text Co.rest wT
  rw [if_neg h9]
  cases hq : c.v.pre with
  | nil => exact absurd hq hp
  | cons a r => simp
theorem text_bare {c : Co} (h9 : ¬ c.op = 9) (hp : c.v.pre = []) : y7 c.op ++ zY 46 (yC c.v c.parts.toNat) = c.text := by
  unfold Co.text Co.rest wT
  rw [if_neg h9, hp]; simp
theorem rctold_any (c : Co) (W : World) (hc : c.short) (hm : c.may = true) : Calls Tryz.prog 126 #[coV c] W fun e w' => ∃ v' ob', e = .returned v' ∧ (∃ g, v' = .slice (some ⟨g, 0, none⟩) c.parts.toNat 3 ∧ ob' = [⟨g, toldC c.v, 9⟩]) ∧ Own [] W w' ob' := by
  obtain ⟨m1, m2, m3⟩ := qP (Co.facts hm).2.1
  have hpn := parts_nat hm
  refine zP (n := 21) Tryz.func126 rfl (by kernel_rfl) (by kernel_rfl) (ZO (Zb (coV c) (fun b1 => Zv (.slice none 0 0) (ZN (z6 (uQ (by kernel_rfl) (ZT 0 [] _ (.pointer (some ⟨b1, 2, none⟩)) (zF zJ) rfl (ZT 1 [] _ (.pointer (some ⟨b1, 2, none⟩)) (zF zJ) rfl (ZL 2 [] _ 0 ⟨b1, (coV c).cells, 51⟩ (off := 2) (.int .i64 c.v.maj) (zF zJ) rfl rfl ?_)))))))))
  refine ZT 4 [] _ (.pointer (some ⟨b1, 2, none⟩)) (zF zJ) rfl (ZT 5 [] _ (.pointer (some ⟨b1, 3, none⟩)) (zF zJ) rfl (ZL 6 [] _ 0 ⟨b1, (coV c).cells, 51⟩ (off := 3) (.int .i64 c.v.min) (zF zJ) rfl rfl (ZT 8 [] _ (.pointer (some ⟨b1, 2, none⟩)) (zF zJ) rfl (ZT 9 [] _ (.pointer (some ⟨b1, 4, none⟩)) (zF zJ) rfl (ZL 10 [] _ 0 ⟨b1, (coV c).cells, 51⟩ (off := 4) (.int .i64 c.v.pat) (zF zJ) rfl rfl (zZ 3 (by kernel_rfl) (kJ [] _ (k := 171) (args := #[.int .i64 c.v.maj]) (.string (mkS (Lib.itoa c.v.maj))) rfl (by kernel_rfl) (fun _ => by kernel_rfl) (fun w _ => nU c.v.maj m1 w) (zZ 7 (by kernel_rfl) (kJ [] _ (k := 171) (args := #[.int .i64 c.v.min]) (.string (mkS (Lib.itoa c.v.min))) rfl (by kernel_rfl) (fun _ => by kernel_rfl) (fun w _ => nU c.v.min m2 w) (zZ 11 (by kernel_rfl) (kJ [] _ (k := 171) (args := #[.int .i64 c.v.pat]) (.string (mkS (Lib.itoa c.v.pat))) rfl (by kernel_rfl) (fun _ => by kernel_rfl) (fun w _ => nU c.v.pat m3 w) ?_)))))))))))
  refine zZ 12 (by kernel_rfl) (hl_lit _ 9 #[.string (mkS (Lib.itoa c.v.maj)), .string (mkS (Lib.itoa c.v.min)), .string (mkS (Lib.itoa c.v.pat))] rfl (by kernel_rfl) rfl (fun w hO => Own.sub [] hO) (fun _ => by kernel_rfl) (fun b2 => ZT 13 [⟨b2, #[.string (mkS (Lib.itoa c.v.maj)), .string (mkS (Lib.itoa c.v.min)), .string (mkS (Lib.itoa c.v.pat))], 9⟩] _ (.slice (some ⟨b2, 0, none⟩) 3 3) (zF zJ) rfl (x7 (by kernel_rfl) (zA (ZO (Zv (.slice (some ⟨b2, 0, none⟩) 3 3) (Zv (.pointer (some ⟨b1, 1, none⟩)) (Zl 1 ⟨b1, (coV c).cells, 51⟩ (off := 1) (.int .i64 c.parts) (zV (.slice (some ⟨b2, 0, none⟩) c.parts.toNat 3) (by kernel_rfl) (fP (b := b2) (off := 0) (n := 3) (c := 3) (k := .i64) (j := c.parts) (e := 9) (sz := 1) rfl (by kernel_rfl) (by kernel_rfl) (by kernel_rfl) (by kernel_rfl) (by omega) (by omega)) (Zv (.slice (some ⟨b2, 0, none⟩) c.parts.toNat 3) ?_))))))))))
  exact ZN (zB (ZF (.slice (some ⟨b2, 0, none⟩) c.parts.toNat 3) Tryz.results126 (fun w hO => ⟨_, _, rfl, ⟨_, rfl, rfl⟩, hO.sublist (List.cons_sublist_cons.2 (List.nil_sublist _))⟩)))
theorem b8 (c : Co) (W : World) (hc : c.short) : Calls Tryz.prog 78 #[coV c] W fun e w' => e = .returned (.string (mkS c.print)) ∧ Below W.heap.size W w' := by
  refine zP (n := 39) Tryz.func78 rfl (by kernel_rfl) (by kernel_rfl) (ZO (Zb (coV c) (fun b1 => Zv (.string ⟨#[]⟩) (ZN (z6 (ZO (Zl 0 ⟨b1, (coV c).cells, 51⟩ (off := 0) (coV c) (Zc (k := 79) (args := #[coV c]) (.bool c.may) (fun w _ => rcMay_any c w hc) ?_))))))))
  cases h1 : c.may with
  | true =>
    refine Zv (.bool false) (ZX (ZB (ZO (Zl 0 ⟨b1, (coV c).cells, 51⟩ (off := 0) (coV c) ?_))))
    have hcm := h1
    have hcv := (Co.facts hcm).2.1
    have hpn := parts_nat hcm
    refine yE (k := 126) (args := #[coV c]) (fun v' L' => ∃ g, v' = .slice (some ⟨g, 0, none⟩) c.parts.toNat 3 ∧ L' = ⟨g, toldC c.v, 9⟩ :: [⟨b1, (coV c).cells, 51⟩]) (by kernel_rfl) (fun _ => by kernel_rfl) (fun w hO => (rctold_any c w hc hcm).mono fun e w' ⟨v', ob', k1, ⟨g, k2, k4⟩, k3⟩ => ⟨v', _, k1, ⟨g, k2, rfl⟩, by subst k4; exact Own.joinN hO k3⟩) (fun v1 L1 hv1 => ?_)
    obtain ⟨g1, rfl, rfl⟩ := hv1
    refine Zv (.slice (some ⟨g1, 0, none⟩) c.parts.toNat 3) (ZN (z6 (ZO (Zv (.pointer (some ⟨b1, 0, none⟩)) (Zl 1 ⟨b1, (coV c).cells, 51⟩ (off := 0) (.int .i64 c.op) ?_)))))
    by_cases h2 : (c.op : Int) = 9
    · refine zW (p := (c.op : Int) = 9) true (by kernel_rfl) (fun _ => by kernel_rfl) (decide_eq_true (h2)) ?_
      refine ZY (ZO (Zv (.slice (some ⟨g1, 0, none⟩) c.parts.toNat 3) (Zv (.pointer (some ⟨b1, 1, none⟩)) (Zl 1 ⟨b1, (coV c).cells, 51⟩ (off := 1) (.int .i64 c.parts) (Zv (.pointer (some ⟨b1, 1, none⟩)) (Zl 1 ⟨b1, (coV c).cells, 51⟩ (off := 1) (.int .i64 c.parts) (zV (.slice (some ⟨g1, 0, none⟩) c.parts.toNat c.parts.toNat) (by kernel_rfl) (run_slhm (b := g1) (n := c.parts.toNat) (c := 3) (k := .i64) (q := .i64) (j := c.parts) (m := c.parts) (e := 9) (sz := 1) rfl (by kernel_rfl) (by kernel_rfl) (by kernel_rfl) (by kernel_rfl) (by kernel_rfl) (by omega) (by omega) (by omega)) (qZ 9 #[.string ⟨#[42]⟩] (by kernel_rfl) rfl (fun _ => by kernel_rfl) (fun b2 => ?_)))))))))
      obtain ⟨i0, z0, e1, e2, e3, e4, e5⟩ := fL
      refine s_appendF (sz := 1) (by kernel_rfl) rfl Tryz.underlying58 e1 e2 e3 e4 (b := ⟨g1, 0, none⟩) (n := c.parts.toNat) (cap := c.parts.toNat) (xs := qN (yC c.v c.parts.toNat)) (by kernel_rfl) (by rw [j4, qT c.v hpn.2, Nat.mul_one]) (fun w hO j u hj => ?_) (a := ⟨b2, 0, none⟩) (m := 1) (c := 1) (news := qN [[42]]) (by kernel_rfl) (by kernel_rfl) (fun w hO j u hj => ?_) (by omega) (by unfold maxLen; omega) (by rw [e5]; omega) (fun va oa hva0 => ?_)
      · rw [← told_take c.v hpn.2, Nat.mul_one, List.getElem?_take] at hj
        split at hj
        · rw [yM, cell_of_row w g1 (0 + j) (toldC c.v) 9 _ (hO.held ⟨g1, toldC c.v, 9⟩ (by simp))]; simpa using hj
        · cases hj
      · rw [yM, cell_of_row w b2 (0 + j) (qN [[42]]).toArray 9 _ (hO.held ⟨b2, (qN [[42]]).toArray, 9⟩ List.mem_cons_self)]; simpa using hj
      have hva : SlT va (yC c.v c.parts.toNat ++ [[42]]) oa := hva0.to (by rw [List.length_append, qT c.v hpn.2]; rfl) (by unfold qN; rw [List.map_append])
      exact Zc (k := 127) (args := #[va, .int .u8 46]) (.string (mkS (zY 46 (yC c.v c.parts.toNat ++ [[42]])))) (fun w hO => rjoin_any va _ 46 w (SlT.readsT hva hO (fun x hx => by simp [hx])) (Nat.le_trans (jR hcv _) (by decide)) (by rw [List.length_append]; have := uE c.v c.parts.toNat; simp; omega)) (Zv (.string (mkS (zY 46 (yC c.v c.parts.toNat ++ [[42]])))) (ZN (zB (z8 (ZF (.string (mkS (zY 46 (yC c.v c.parts.toNat ++ [[42]])))) Tryz.results78 (fun w hO => ⟨by rw [gE hcm, ← star_text h2], hO.below⟩))))))
    refine Zd (p := (c.op : Int) = 9) false (decide_eq_false (h2)) (ZX (ZB (ZO (Zv (.pointer (some ⟨b1, 0, none⟩)) (Zl 1 ⟨b1, (coV c).cells, 51⟩ (off := 0) (.int .i64 c.op) (Zc (k := 123) (args := #[.int .i64 c.op]) (.string (mkS (y7 c.op))) (fun w _ => rcsign_any c.op w) (Zv (.slice (some ⟨g1, 0, none⟩) c.parts.toNat 3) ?_)))))))
    refine Zc (k := 127) (args := #[.slice (some ⟨g1, 0, none⟩) c.parts.toNat 3, .int .u8 46]) (.string (mkS (zY 46 (yC c.v c.parts.toNat)))) (fun w hO => rjoin_any _ _ 46 w (SlT.readsT (told_slt c.v hpn.2 g1) hO (fun x hx => by rw [List.mem_singleton.1 hx]; exact List.mem_cons_self)) (Nat.le_trans (qU hcv _) (by decide)) (Nat.le_trans (uE _ _) (by decide))) (zV (.string (mkS ((y7 c.op) ++ (zY 46 (yC c.v c.parts.toNat))))) (by kernel_rfl) (yU (a := (y7 c.op)) (b := (zY 46 (yC c.v c.parts.toNat))) rfl (by kernel_rfl) (by kernel_rfl) (by have q1 := jS c.op; have q2 := qU hcv c.parts.toNat; have q3 := hc.1; first | omega | (simp only [List.length_append, List.length_cons, List.length_nil]; omega))) (Zv (.string (mkS ((y7 c.op) ++ (zY 46 (yC c.v c.parts.toNat))))) (ZN (z6 (ZO (Zv (.pointer (some ⟨b1, 2, none⟩)) (Zv (.pointer (some ⟨b1, 5, none⟩)) (Zl 1 ⟨b1, (coV c).cells, 51⟩ (off := 5) (.string (mkS c.v.pre)) ?_))))))))
    by_cases h3 : (c.v.pre : List UInt8) = []
    · refine zV (.bool false) (by kernel_rfl) (xB (a := c.v.pre) (b := ([])) rfl (by kernel_rfl) (by kernel_rfl) (decide_eq_true (h3))) ?_
      refine ZX (ZB (ZO (Zv (.string (mkS ((y7 c.op) ++ (zY 46 (yC c.v c.parts.toNat))))) (Zv (.string (mkS ((y7 c.op) ++ (zY 46 (yC c.v c.parts.toNat))))) (ZN (zB ?_))))))
      exact ZF (.string (mkS ((y7 c.op) ++ (zY 46 (yC c.v c.parts.toNat))))) Tryz.results78 (fun w hO => ⟨by rw [gE hcm, ← text_bare h2 h3], hO.below⟩)
    refine zV (.bool true) (by kernel_rfl) (xB (a := c.v.pre) (b := ([])) rfl (by kernel_rfl) (by kernel_rfl) (decide_eq_false (h3))) (ZY (z7 (Zv (.string (mkS ((y7 c.op) ++ (zY 46 (yC c.v c.parts.toNat))))) (zV (.string (mkS (((y7 c.op) ++ (zY 46 (yC c.v c.parts.toNat))) ++ [45]))) (by kernel_rfl) (yU (a := ((y7 c.op) ++ (zY 46 (yC c.v c.parts.toNat)))) (b := [45]) rfl (by kernel_rfl) (by kernel_rfl) (by have q1 := jS c.op; have q2 := qU hcv c.parts.toNat; have q3 := hc.1; first | omega | (simp only [List.length_append, List.length_cons, List.length_nil]; omega))) (Zv (.pointer (some ⟨b1, 2, none⟩)) (Zv (.pointer (some ⟨b1, 5, none⟩)) (Zl 1 ⟨b1, (coV c).cells, 51⟩ (off := 5) (.string (mkS c.v.pre)) (zV (.string (mkS ((((y7 c.op) ++ (zY 46 (yC c.v c.parts.toNat))) ++ [45]) ++ c.v.pre))) (by kernel_rfl) (yU (a := (((y7 c.op) ++ (zY 46 (yC c.v c.parts.toNat))) ++ [45])) (b := c.v.pre) rfl (by kernel_rfl) (by kernel_rfl) (by have q1 := jS c.op; have q2 := qU hcv c.parts.toNat; have q3 := hc.1; first | omega | (simp only [List.length_append, List.length_cons, List.length_nil]; omega))) (Zv (.string (mkS ((((y7 c.op) ++ (zY 46 (yC c.v c.parts.toNat))) ++ [45]) ++ c.v.pre))) ?_)))))))))
    exact ZR (Zv (.string (mkS ((((y7 c.op) ++ (zY 46 (yC c.v c.parts.toNat))) ++ [45]) ++ c.v.pre))) (Zv (.string (mkS ((((y7 c.op) ++ (zY 46 (yC c.v c.parts.toNat))) ++ [45]) ++ c.v.pre))) (ZN (zB (ZF (.string (mkS ((((y7 c.op) ++ (zY 46 (yC c.v c.parts.toNat))) ++ [45]) ++ c.v.pre))) Tryz.results78 (fun w hO => ⟨by rw [gE hcm, ← text_pre h2 h3], hO.below⟩))))))
  | false =>
    refine Zv (.bool true) (ZY (ZO (Zv (.string ⟨#[]⟩) (ZN (zB (z8 (ZF (.string ⟨#[]⟩) Tryz.results78 ?_)))))))
    exact fun w hO => ⟨by unfold Co.print; simp [h1]; rfl, hO.below⟩
end
section
def numsOk (l : List (List UInt8)) : Bool := decide (l.length ≤ 3) && l.all gK
def numsVal (l : List (List UInt8)) : Ver := if numsOk l then ⟨zS (tg l 0), zS (tg l 1), zS (tg l 2), [], []⟩ else Ver.zero
theorem pW {l : List (List UInt8)} {i : Nat} (h : i < l.length) : l[i] = tg l i := by
  unfold tg
  rw [List.getElem?_eq_getElem h]; rfl
theorem tgi_out {l : List (List UInt8)} {i : Nat} (h : l.length ≤ i) : zS (tg l i) = 0 := by
  unfold tg
  rw [List.getElem?_eq_none h]; rfl
end
section
end
section
def pcV (s : List UInt8) : Co := (qE s).getD ⟨0, 0, Ver.zero⟩
def pcE (s : List UInt8) : Int := if (qE s).isSome then 0 else 6
theorem pc_none {s : List UInt8} (h : qE s = none) : pcV s = ⟨0, 0, Ver.zero⟩ ∧ pcE s = 6 := by unfold pcV pcE; rw [h]; exact ⟨rfl, rfl⟩
theorem pc_some {s : List UInt8} {c : Co} (h : qE s = some c) : pcV s = c ∧ pcE s = 0 := by unfold pcV pcE; rw [h]; exact ⟨rfl, rfl⟩
theorem tg_short {l : List (List UInt8)} (h : ∀ x ∈ l, x.length ≤ 1000000) (i : Nat) : (tg l i).length ≤ 1000000 := by
  unfold tg
  cases hq : l[i]? with
  | none => exact Nat.zero_le _
  | some x => exact h x (List.mem_of_getElem? hq)
end
end Go.Proofs.YtkljdpiaghepfaaGreatDoor
