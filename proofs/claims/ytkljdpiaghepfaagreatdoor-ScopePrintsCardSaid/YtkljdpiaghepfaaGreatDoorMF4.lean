/-
  What the statement's proof leans on: the ways of walking, n7 mathematics, and what the program's functions return; each theorem says on what conditions.
-/
import Derived.Test.YtkljdpiaghepfaaGreatDoorMF3
set_option maxRecDepth 1000000
set_option maxHeartbeats 8000000
set_option linter.unusedVariables false
set_option linter.unusedSimpArgs false
set_option linter.unnecessarySimpa false
namespace Go.Proofs.YtkljdpiaghepfaaGreatDoor
open Go.RowKit

section
structure St where
  rel : List Sp
  pre : List Sp
def St.may (s : St) : Bool := zL s.rel && zL s.pre && s.rel.all fun x => x7 x.lo && x7 x.hi
structure SF (s : St) (n : Nat) : Prop where
  rel : RF s.rel n
  pre : RF s.pre n
  right : AllRight s.rel
theorem right_all {l : List Sp} : (l.all fun x => x7 x.lo && x7 x.hi) = true ↔ AllRight l := by
  rw [List.all_eq_true]
  exact ⟨fun h s hs => by simpa using h s hs, fun h s hs => by simpa using h s hs⟩
theorem SF.may {s : St} {n : Nat} (h : SF s n) : s.may = true := by
  unfold St.may
  rw [h.rel.may, h.pre.may, right_all.2 h.right]; rfl
theorem St.facts {s : St} (h : s.may = true) : zL s.rel = true ∧ zL s.pre = true ∧ AllRight s.rel := by
  unfold St.may at h
  rw [Bool.and_eq_true, Bool.and_eq_true, right_all] at h
  exact ⟨h.1.1, h.1.2, h.2⟩
theorem SF.of {s : St} {n : Nat} (h : s.may = true) (h1 : s.rel.length ≤ n) (h2 : s.pre.length ≤ n) : SF s n :=
  ⟨⟨(St.facts h).1, h1⟩, ⟨(St.facts h).2.1, h2⟩, (St.facts h).2.2⟩
def q9 (s : St) (v : Ver) : Bool := s.may && v.may && (if v.pre = [] then xN s.rel v else xN s.pre v)
def gD : St := ⟨[], []⟩
def v7 : List Sp := [⟨zT (-1), zT 1⟩]
def allT : St := ⟨v7, v7⟩
def orT (a b : St) : St := ⟨orL a.rel b.rel, orL a.pre b.pre⟩
def andT (a b : St) : St := ⟨uP a.rel b.rel, uP a.pre b.pre⟩
def notT (a : St) : St := ⟨v8 a.rel, v8 a.pre⟩
def minusT (a b : St) : St := andT a (notT b)
def exactT (v : Ver) : St := if v.may then (if v.pre = [] then ⟨oneRel v, []⟩ else ⟨[], onePre v⟩) else gD
theorem St.eq {a b : St} (h1 : a.rel = b.rel) (h2 : a.pre = b.pre) : a = b := by cases a; cases b; simp only at h1 h2; rw [h1, h2]
theorem nil_rf : RF [] 0 := ⟨rfl, Nat.le_refl _⟩
theorem RF.le {l : List Sp} {n m : Nat} (h : RF l n) (hm : n ≤ m) : RF l m := ⟨h.may, Nat.le_trans h.len hm⟩
theorem SF.le {s : St} {n m : Nat} (h : SF s n) (hm : n ≤ m) : SF s m := ⟨h.rel.le hm, h.pre.le hm, h.right⟩
theorem nil_right : AllRight [] := fun s hs => by simp at hs
theorem none_sf : SF gD 0 := ⟨nil_rf, nil_rf, nil_right⟩
theorem whole_rf : RF v7 1 := ⟨by decide, Nat.le_refl _⟩
theorem SF.or {a b : St} {n m : Nat} (ha : SF a n) (hb : SF b m) : SF (orT a b) (2 + 2 * (n + m)) := ⟨ha.rel.or hb.rel, ha.pre.or hb.pre, ha.right.or hb.right⟩
theorem has_may {s : St} {v : Ver} {n : Nat} (hs : SF s n) (hv : v.may = true) : q9 s v = if v.pre = [] then xN s.rel v else xN s.pre v := by
  unfold q9; rw [hs.may, hv, Bool.true_and, Bool.true_and]
section
variable {a b : St} {n m : Nat} {v : Ver} (ha : SF a n) (hb : SF b m) (hv : v.may = true)
include ha hb hv
theorem setHas_or : q9 (orT a b) v = (q9 a v || q9 b v) := by
  rw [has_may (ha.or hb) hv, has_may ha hv, has_may hb hv]
  split
  · exact has_or4 ha.rel.may hb.rel.may hv
  · exact has_or4 ha.pre.may hb.pre.may hv
end
theorem whole_den {x : Cu} (hx : x.may = true) (he : zQ x (zT 1) < 0) : den v7 x = true := by
  show (g6 ⟨zT (-1), zT 1⟩ x || false) = true
  rw [Bool.or_false]
  unfold g6
  rw [decide_eq_true (fW hx), decide_eq_true he]; rfl
theorem setHas_none {v : Ver} : q9 gD v = false := by
  unfold q9
  have h : xN [] v = false := rfl
  show (_ && (if v.pre = [] then xN [] v else xN [] v)) = false
  rw [h, ite_self, Bool.and_false]
def edgeN (l : List Sp) : List Int := l.flatMap fun s => [s.lo, s.hi].filterMap fun c => if c.e = 0 then some c.v.code else none
theorem not_whole : v8 v7 = [] := mD _ _ (bE whole_rf.may).1 rfl fun x hx he => by
  rw [(bE whole_rf.may).2 x hx he, whole_den hx he]; rfl
theorem not_nil : v8 [] = v7 := by rw [← not_whole, not_not4 whole_rf.may]
end
section
structure Co where
  op : Int
  parts : Int
  v : Ver
deriving DecidableEq
def yA (op : Int) : List UInt8 := if op = 1 then [61] else if op = 2 then [33, 61] else if op = 3 then [60] else if op = 4 then [60, 61] else if op = 5 then [62] else if op = 6 then [62, 61] else if op = 7 then [94] else if op = 8 then [126] else []
def Co.may (c : Co) : Bool := decide (1 ≤ c.op ∧ c.op ≤ 9) && c.v.may && decide (c.v.build = []) && (if c.op = 9 then decide (0 ≤ c.parts ∧ c.parts ≤ 2) else decide (1 ≤ c.parts ∧ c.parts ≤ 3)) && decide (3 ≤ c.parts ∨ c.v.pre = []) && decide (0 < c.parts ∨ c.v.maj = 0) && decide (1 < c.parts ∨ c.v.min = 0) && decide (2 < c.parts ∨ c.v.pat = 0)
theorem Co.facts {c : Co} (h : c.may = true) : (1 ≤ c.op ∧ c.op ≤ 9) ∧ c.v.may = true ∧ c.v.build = [] ∧ (c.op = 9 → 0 ≤ c.parts ∧ c.parts ≤ 2) ∧ (¬ c.op = 9 → 1 ≤ c.parts ∧ c.parts ≤ 3) ∧ (3 ≤ c.parts ∨ c.v.pre = []) ∧ (0 < c.parts ∨ c.v.maj = 0) ∧ (1 < c.parts ∨ c.v.min = 0) ∧ (2 < c.parts ∨ c.v.pat = 0) := by
  unfold Co.may at h
  simp only [Bool.and_eq_true, decide_eq_true_eq] at h
  obtain ⟨⟨⟨⟨⟨⟨⟨h1, h2⟩, h3⟩, h4⟩, h5⟩, h6⟩, h7⟩, h8⟩ := h
  refine ⟨h1, h2, h3, fun e => ?_, fun e => ?_, h5, h6, h7, h8⟩
  · rw [if_pos e] at h4; exact of_decide_eq_true h4
  · rw [if_neg e] at h4; exact of_decide_eq_true h4
theorem Co.may_iff {c : Co} : c.may = true ↔ (1 ≤ c.op ∧ c.op ≤ 9) ∧ c.v.may = true ∧ c.v.build = [] ∧ (c.op = 9 → 0 ≤ c.parts ∧ c.parts ≤ 2) ∧ (¬ c.op = 9 → 1 ≤ c.parts ∧ c.parts ≤ 3) ∧ (3 ≤ c.parts ∨ c.v.pre = []) ∧ (0 < c.parts ∨ c.v.maj = 0) ∧ (1 < c.parts ∨ c.v.min = 0) ∧ (2 < c.parts ∨ c.v.pat = 0) := by
  refine ⟨Co.facts, fun ⟨h1, h2, h3, k9, kn, h5, h6, h7, h8⟩ => ?_⟩
  unfold Co.may
  rw [decide_eq_true h1, h2, decide_eq_true h3, decide_eq_true h5, decide_eq_true h6, decide_eq_true h7, decide_eq_true h8]
  by_cases e : c.op = 9
  · rw [if_pos e, decide_eq_true (k9 e)]; rfl
  · rw [if_neg e, decide_eq_true (kn e)]; rfl
def yF (v : Ver) (n : Nat) : List (List UInt8) := [Lib.itoa v.maj, Lib.itoa v.min, Lib.itoa v.pat].take n
def Co.rest (c : Co) : List UInt8 := if c.op = 9 then yC 46 (yF c.v c.parts.toNat ++ [[42]]) else yC 46 (yF c.v c.parts.toNat) ++ fE 45 c.v.pre
def Co.text (c : Co) : List UInt8 := yA c.op ++ c.rest
def Co.print (c : Co) : List UInt8 := if c.may then c.text else []
def xK (s t : List UInt8) : Bool := decide (s.take t.length = t)
def fI (s : List UInt8) : Int × List UInt8 :=
  if xK s [33, 61] then (2, s.drop 2) else if xK s [60, 61] then (4, s.drop 2) else if xK s [62, 61] then (6, s.drop 2) else if xK s [61] then (1, s.drop 1)
  else if xK s [60] then (3, s.drop 1) else if xK s [62] then (5, s.drop 1) else if xK s [94] then (7, s.drop 1) else if xK s [126] then (8, s.drop 1)
  else if s.getLast? = some 42 then (9, s) else (7, s)
def fV (op : Int) (rest : List UInt8) : List (List UInt8) := if op = 9 then (pcs (yG 45 rest).1).dropLast else pcs (yG 45 rest).1
def guessC (op : Int) (rest : List UInt8) : Option Co :=
  if (fV op rest).length ≤ 3 ∧ (fV op rest).all gJ = true then
    some ⟨op, (fV op rest).length, ⟨zR (tg (fV op rest) 0), zR (tg (fV op rest) 1), zR (tg (fV op rest) 2), (yG 45 rest).2.1, []⟩⟩
  else none
def fits (s : List UInt8) (c : Co) : Bool := !decide (c.print = []) && (decide (c.print = s) || decide (c.print = 94 :: s))
def qB (s : List UInt8) : Option Co := (guessC (fI s).1 (fI s).2).filter (fits s)
theorem print_may {c : Co} (h : ¬ c.print = []) : c.may = true := by
  cases hm : c.may with
  | true => rfl
  | false => exact absurd (show c.print = [] by unfold Co.print; rw [hm]; rfl) h
theorem qF {c : Co} (h : c.may = true) : c.print = c.text := by unfold Co.print; rw [h]; rfl
theorem parseC_back {s : List UInt8} {c : Co} (h : qB s = some c) : c.may = true ∧ (c.text = s ∨ c.text = 94 :: s) := by
  unfold qB at h
  obtain ⟨_, h⟩ := Option.filter_eq_some_iff.1 h
  unfold fits at h
  simp only [Bool.and_eq_true, Bool.not_eq_true', decide_eq_false_iff_not, Bool.or_eq_true, decide_eq_true_eq] at h
  have hm := print_may h.1
  rw [qF hm] at h
  exact ⟨hm, h.2⟩
theorem pcs_cons {x y : List UInt8} (h : (46 : UInt8) ∉ x) : pcs (x ++ 46 :: y) = x :: pcs y := by
  unfold pcs
  rw [uL, cutAt_hit 46 _ _ h]
  simp
theorem pcs_one {x : List UInt8} (h : (46 : UInt8) ∉ x) : pcs x = [x] := by
  unfold pcs
  rw [uL, wL 46 _ h]
  simp
theorem pcs_join : ∀ (l : List (List UInt8)), l ≠ [] → (∀ x ∈ l, (46 : UInt8) ∉ x) → pcs (yC 46 l) = l
  | [], h, _ => absurd rfl h
  | [x], _, h => pcs_one (h x (List.mem_singleton.2 rfl))
  | x :: y :: r, _, h => by
    rw [yC, pcs_cons (h x (List.mem_cons_self ..)), pcs_join (y :: r) (by simp) fun z hz => h z (List.mem_cons_of_mem _ hz)]
theorem nums_mem {v : Ver} (hv : v.may = true) {n : Nat} {x : List UInt8} (h : x ∈ yF v n) : ∃ k : Int, yH k = true ∧ x = Lib.itoa k := by
  obtain ⟨h1, h2, h3⟩ := vG hv
  unfold yF at h
  have h := List.mem_of_mem_take h
  simp only [List.mem_cons, List.not_mem_nil, or_false] at h
  rcases h with rfl | rfl | rfl
  · exact ⟨_, h1, rfl⟩
  · exact ⟨_, h2, rfl⟩
  · exact ⟨_, h3, rfl⟩
theorem jF {v : Ver} (hv : v.may = true) {n : Nat} (b : UInt8) (hb : kM b.toNat = false) : ∀ x ∈ yF v n, b ∉ x := fun x hx => by
  obtain ⟨k, hk, rfl⟩ := nums_mem hv hx
  exact dig_free hk b hb
theorem wC (b : UInt8) (hb : b ≠ 46) : ∀ (l : List (List UInt8)), (∀ x ∈ l, b ∉ x) → b ∉ yC 46 l
  | [], _ => by simp [yC]
  | [x], h => h x (List.mem_singleton.2 rfl)
  | x :: y :: r, h => by
    rw [yC]
    simp only [List.mem_append, List.mem_cons, not_or]
    exact ⟨h x (List.mem_cons_self ..), hb, wC b hb (y :: r) fun z hz => h z (List.mem_cons_of_mem _ hz)⟩
theorem qX (v : Ver) {n : Nat} (h : n ≤ 3) : (yF v n).length = n := by
  unfold yF
  rw [List.length_take]
  simp; omega
theorem nums_num {v : Ver} (hv : v.may = true) (n : Nat) : (yF v n).all gJ = true := List.all_eq_true.2 fun x hx => by
  obtain ⟨k, hk, rfl⟩ := nums_mem hv hx
  exact numI_itoa hk
theorem nums_back {v : Ver} (hv : v.may = true) {n : Nat} (h : n ≤ 3) (h0 : 0 < n ∨ v.maj = 0) (h1 : 1 < n ∨ v.min = 0) (h2 : 2 < n ∨ v.pat = 0) : zR (tg (yF v n) 0) = v.maj ∧ zR (tg (yF v n) 1) = v.min ∧ zR (tg (yF v n) 2) = v.pat := by
  obtain ⟨m1, m2, m3⟩ := vG hv
  have e1 := bY m1
  have e2 := bY m2
  have e3 := bY m3
  match n, h with
  | 0, _ => exact ⟨(h0.resolve_left (by decide)).symm, (h1.resolve_left (by decide)).symm, (h2.resolve_left (by decide)).symm⟩
  | 1, _ => exact ⟨e1, (h1.resolve_left (by decide)).symm, (h2.resolve_left (by decide)).symm⟩
  | 2, _ => exact ⟨e1, e2, (h2.resolve_left (by decide)).symm⟩
  | 3, _ => exact ⟨e1, e2, e3⟩
theorem guess_rest {c : Co} (h : c.may = true) : guessC c.op c.rest = some c := by
  obtain ⟨_, hv, hb, h9, hn, hp, k0, k1, k2⟩ := Co.facts h
  obtain ⟨op, parts, v⟩ := c
  simp only at hv hb h9 hn hp k0 k1 k2 ⊢
  have hparts : (parts.toNat : Int) = parts ∧ parts.toNat ≤ 3 := by
    by_cases e : op = 9
    · have := h9 e; omega
    · have := hn e; omega
  have key : fV op (Co.rest ⟨op, parts, v⟩) = yF v parts.toNat ∧ (yG 45 (Co.rest ⟨op, parts, v⟩)).2.1 = v.pre := by
    unfold fV Co.rest
    by_cases e : op = 9
    · rw [if_pos e]
      dsimp only
      rw [if_pos e]
      have f : ∀ b : UInt8, kM b.toNat = false → b ≠ 42 → ∀ x ∈ yF v parts.toNat ++ [[42]], b ∉ x := fun b hb hb2 x hx => by
        rcases List.mem_append.1 hx with hx | hx
        · exact jF hv b hb x hx
        · rw [List.mem_singleton.1 hx]
          intro hm
          exact hb2 (List.mem_singleton.1 hm)
      rw [wL 45 _ (wC 45 (by decide) _ (f 45 (by decide) (by decide)))]
      have hpre : v.pre = [] := hp.resolve_left (by have := h9 e; omega)
      exact ⟨by
        show (pcs (yC 46 (yF v parts.toNat ++ [[42]]))).dropLast = _
        rw [pcs_join _ (by simp) (f 46 (by decide) (by decide)), List.dropLast_concat], hpre.symm⟩
    · rw [if_neg e]
      dsimp only
      rw [if_neg e]
      have hne : yF v parts.toNat ≠ [] := fun h0 => by
        have := qX v hparts.2
        rw [h0] at this
        have := hn e
        simp at *; omega
      rw [cut_tail 45 _ _ (wC 45 (by decide) _ (jF hv 45 (by decide)))]
      exact ⟨pcs_join _ hne (jF hv 46 (by decide)), rfl⟩
  unfold guessC
  rw [key.1, key.2, if_pos ⟨by rw [qX v hparts.2]; exact hparts.2, nums_num hv _⟩]
  obtain ⟨e1, e2, e3⟩ := nums_back hv hparts.2 (by omega) (by omega) (by omega)
  rw [e1, e2, e3, qX v hparts.2, hparts.1]
  obtain ⟨a, b, p, q, r⟩ := v
  simp only at hb
  rw [hb]
theorem itoa_head {k : Int} (h : yH k = true) : ∃ d r, Lib.itoa k = d :: r ∧ kM d.toNat = true := by
  have hm := num_itoa h
  cases e : Lib.itoa k with
  | nil => rw [e] at hm; cases hm
  | cons d r => exact ⟨d, r, rfl, by
      have := dig_mem k.toNat d (by rw [← tF h, e]; exact List.mem_cons_self)
      exact this⟩
theorem join_head {x : List UInt8} {l : List (List UInt8)} {d : UInt8} {r : List UInt8} (h : x = d :: r) : ∃ r', yC 46 (x :: l) = d :: r' := by
  subst h
  cases l with
  | nil => exact ⟨r, rfl⟩
  | cons y t => exact ⟨_, rfl⟩
theorem bX {c : Co} (h : c.may = true) (hn : ¬ c.op = 9) : ∃ d r, c.rest = d :: r ∧ kM d.toNat = true := by
  obtain ⟨_, hv, _, _, h9, _⟩ := Co.facts h
  obtain ⟨d, r, e, hd⟩ := itoa_head (vG hv).1
  obtain ⟨n, en⟩ : ∃ n, c.parts.toNat = n + 1 := ⟨c.parts.toNat - 1, by have := h9 hn; omega⟩
  obtain ⟨r', e'⟩ := join_head (l := [Lib.itoa c.v.min, Lib.itoa c.v.pat].take n) e
  refine ⟨d, r' ++ fE 45 c.v.pre, ?_, hd⟩
  unfold Co.rest yF
  rw [if_neg hn, en, List.take_succ_cons, e']; rfl
theorem mC {c : Co} (h : c.may = true) (hn : c.op = 9) : ∃ d r, c.rest = d :: r ∧ (kM d.toNat = true ∨ d = 42) := by
  obtain ⟨_, hv, _, h9, _⟩ := Co.facts h
  obtain ⟨d, r, e, hd⟩ := itoa_head (vG hv).1
  unfold Co.rest yF
  rw [if_pos hn]
  cases hp : c.parts.toNat with
  | zero => exact ⟨42, [], rfl, .inr rfl⟩
  | succ n =>
    obtain ⟨r', e'⟩ := join_head (l := [Lib.itoa c.v.min, Lib.itoa c.v.pat].take n ++ [[42]]) e
    exact ⟨d, r', by rw [List.take_succ_cons, List.cons_append, e'], .inl hd⟩
theorem qN {d : UInt8} {r : List UInt8} {a : UInt8} {t : List UInt8} (h : d ≠ a) : xK (d :: r) (a :: t) = false := decide_eq_false fun e => by
  rw [List.length_cons, List.take_succ_cons] at e
  injection e with e1 _
  exact h e1
theorem split_plain {d : UInt8} {r : List UInt8} (h : kM d.toNat = true ∨ d = 42) : fI (d :: r) = if (d :: r).getLast? = some 42 then (9, d :: r) else (7, d :: r) := by
  have hd : ∀ a : UInt8, kM a.toNat = false → a ≠ 42 → d ≠ a := fun a ha h42 e => by
    subst e
    rcases h with h | h
    · rw [ha] at h; cases h
    · exact h42 h
  unfold fI
  rw [qN (hd 33 (by decide) (by decide)), qN (hd 60 (by decide) (by decide)), qN (hd 62 (by decide) (by decide)), qN (hd 61 (by decide) (by decide)), qN (hd 60 (by decide) (by decide)), qN (hd 62 (by decide) (by decide)), qN (hd 94 (by decide) (by decide)), qN (hd 126 (by decide) (by decide))]
  rfl
theorem split_sign {op : Int} (h1 : 1 ≤ op) (h8 : op ≤ 8) {d : UInt8} {r : List UInt8} (hd : kM d.toNat = true) : fI (yA op ++ d :: r) = (op, d :: r) := by
  have h61 : d ≠ 61 := fun e => by subst e; revert hd; decide
  have hop : op = 1 ∨ op = 2 ∨ op = 3 ∨ op = 4 ∨ op = 5 ∨ op = 6 ∨ op = 7 ∨ op = 8 := by omega
  rcases hop with rfl | rfl | rfl | rfl | rfl | rfl | rfl | rfl <;> simp [yA, fI, xK, h61]
theorem last_join (x : List UInt8) : ∀ (l : List (List UInt8)), (yC 46 (l ++ [x ++ [42]])).getLast? = some 42
  | [] => by simp [yC]
  | [y] => by
    show (y ++ 46 :: (x ++ [42])).getLast? = some 42
    rw [show y ++ 46 :: (x ++ [42]) = (y ++ 46 :: x) ++ [42] from by simp, List.getLast?_concat]
  | y :: z :: r => by
    have := last_join x (z :: r)
    show (y ++ 46 :: yC 46 (z :: r ++ [x ++ [42]])).getLast? = some 42
    rw [List.getLast?_append]
    cases hj : yC 46 (z :: r ++ [x ++ [42]]) with
    | nil => rw [hj] at this; cases this
    | cons a b => rw [hj] at this; rw [List.getLast?_cons_cons, this]; rfl
theorem star_free (s : List UInt8) (h : qO s = true) : (42 : UInt8) ∉ s := by
  intro hm
  unfold qO at h
  rcases splitL_mem 46 s [] 42 hm with e | ⟨x, hx, hc⟩
  · revert e; decide
  · have hne : s.isEmpty = false := by cases s with
      | nil => cases hm
      | cons _ _ => rfl
    rw [hne, Bool.false_or, Bool.and_eq_true] at h
    have := List.all_eq_true.1 h.2 x hx
    unfold gH at this
    rw [Bool.and_eq_true] at this
    have := List.all_eq_true.1 this.2 _ hc
    revert this; decide
theorem rest_star {c : Co} (h : c.may = true) (hn : ¬ c.op = 9) : (42 : UInt8) ∉ c.rest := by
  obtain ⟨_, hv, _⟩ := Co.facts h
  have hl : qO c.v.pre = true := by
    have := tC hv
    unfold jC at this
    exact (Bool.and_eq_true_iff.1 this).1
  unfold Co.rest
  rw [if_neg hn]
  intro hm
  rcases List.mem_append.1 hm with hm | hm
  · exact wC 42 (by decide) _ (jF hv 42 (by decide)) hm
  · unfold fE at hm
    split at hm
    · cases hm
    · rcases List.mem_cons.1 hm with e | hm
      · revert e; decide
      · exact star_free _ hl hm
theorem split_text {c : Co} (h : c.may = true) : fI c.text = (c.op, c.rest) := by
  obtain ⟨ho, _⟩ := Co.facts h
  unfold Co.text
  by_cases hn : c.op = 9
  · obtain ⟨d, r, e, hd⟩ := mC h hn
    have hl : c.rest.getLast? = some 42 := by unfold Co.rest; rw [if_pos hn]; exact last_join [] _
    rw [hn, show yA 9 = [] from rfl, List.nil_append]
    rw [e] at hl ⊢
    rw [split_plain hd, if_pos hl]
  · obtain ⟨d, r, e, hd⟩ := bX h hn
    rw [e]
    exact split_sign ho.1 (by omega) hd
theorem parseC_text {c : Co} (h : c.may = true) : qB c.text = some c := by
  unfold qB
  rw [split_text h, guess_rest h]
  refine Option.filter_eq_some_iff.2 ⟨rfl, ?_⟩
  have hne : ¬ c.text = [] := fun e => by
    unfold Co.text at e
    have e2 := (List.append_eq_nil_iff.1 e).2
    by_cases hn : c.op = 9
    · obtain ⟨d, r, e3, _⟩ := mC h hn; rw [e3] at e2; cases e2
    · obtain ⟨d, r, e3, _⟩ := bX h hn; rw [e3] at e2; cases e2
  unfold fits
  rw [qF h, decide_eq_false hne, decide_eq_true rfl]; rfl
theorem parseC_caret {c : Co} {s : List UInt8} (h : c.may = true) (hs : c.text = 94 :: s) : qB s = some c := by
  obtain ⟨ho, _⟩ := Co.facts h
  have hop : c.op = 7 ∧ c.rest = s := by
    unfold Co.text at hs
    by_cases hn : c.op = 9
    · obtain ⟨d, r, e, hd⟩ := mC h hn
      rw [hn, show yA 9 = [] from rfl, List.nil_append, e] at hs
      injection hs with e1 _
      rw [e1] at hd
      exact absurd hd (by decide)
    · have hop : c.op = 1 ∨ c.op = 2 ∨ c.op = 3 ∨ c.op = 4 ∨ c.op = 5 ∨ c.op = 6 ∨ c.op = 7 ∨ c.op = 8 := by omega
      rcases hop with e | e | e | e | e | e | e | e <;> rw [e] at hs <;> simp [yA] at hs
      exact ⟨e, hs⟩
  obtain ⟨d, r, e, hd⟩ := bX h (by omega)
  have h42 : ¬ s.getLast? = some 42 := fun hl => by
    have := List.mem_of_getLast? hl
    rw [← hop.2] at this
    exact rest_star h (by omega) this
  unfold qB
  have hsp : fI s = (7, s) := by
    rw [← hop.2, e, split_plain (.inl hd), if_neg (by rw [← e, hop.2]; exact h42)]
  rw [hsp]
  have hg := guess_rest h
  rw [hop.1, hop.2] at hg
  rw [hg]
  refine Option.filter_eq_some_iff.2 ⟨rfl, ?_⟩
  unfold fits
  rw [qF h, hs, decide_eq_false (by simp), decide_eq_true rfl, Bool.or_true]; rfl
theorem dU (s : List UInt8) (c : Co) : qB s = some c ↔ c.may = true ∧ (c.text = s ∨ c.text = 94 :: s) :=
  ⟨parseC_back, fun ⟨hm, h⟩ => h.elim (fun e => e ▸ parseC_text hm) (fun e => parseC_caret hm e)⟩
end
section
end
section
def xW (v : Ver) : Nat → Cu
  | 0 => if y8 v 0 then ⟨0, yD v 0, false⟩ else zT 1
  | k + 1 => if y8 v ((k + 1 : Nat) : Int) then ⟨0, yD v ((k + 1 : Nat) : Int), false⟩ else xW v k
def g9 (c : Co) : Nat := if 0 < c.v.maj ∨ c.parts = 1 then 0 else if 0 < c.v.min ∨ c.parts = 2 then 1 else 2
def Co.low (c : Co) : Cu := ⟨0, zW c.v, false⟩
def Co.aft (c : Co) : Cu := if c.parts < 3 ∧ 0 < c.parts then xW c.v (c.parts - 1).toNat else ⟨0, zW c.v, true⟩
def Co.span (c : Co) : Cu × Cu :=
  if c.op = 1 ∨ c.op = 2 then (c.low, c.aft) else if c.op = 3 then (zT (-1), c.low) else if c.op = 4 then (zT (-1), c.aft) else if c.op = 5 then (c.aft, zT 1) else if c.op = 6 then (c.low, zT 1)
  else if c.op = 7 then (c.low, xW c.v (g9 c)) else if c.op = 8 then (c.low, xW c.v (min (c.parts - 1) 1).toNat) else if c.parts = 0 then (zT (-1), zT 1) else (c.low, xW c.v (c.parts - 1).toNat)
def kI (lo hi : Cu) : List Sp := gY [] lo hi
def Co.region (c : Co) : List Sp := if c.may then (if c.op = 2 then v8 (kI c.span.1 c.span.2) else kI c.span.1 c.span.2) else []
def Co.zone (c : Co) : List Sp := if c.may && !decide (c.v.pre = []) then [⟨⟨0, { c.v with pre := [48], build := [] }, false⟩, ⟨0, { c.v with pre := [], build := [] }, false⟩⟩] else []
theorem oneRow_may (lo hi : Cu) : zL (kI lo hi) = true := add_ok rfl (fun t h => by cases h)
theorem before_may {v : Ver} (h : v.may = true) (a : Bool) : (⟨0, zW v, a⟩ : Cu).may = true := by
  have h2 := fY h
  unfold Cu.may
  rw [if_pos rfl]
  show ((zW v).may && ([] : List UInt8).isEmpty) = true
  rw [h2]; rfl
theorem bump_rel {v : Ver} {k : Int} (h : y8 v k = true) : ∃ a b c, yD v k = Ver.rel a b c := by
  unfold yD
  rw [if_pos h]
  unfold tM
  split
  · exact ⟨_, _, _, rfl⟩
  · split
    · exact ⟨_, _, _, rfl⟩
    · exact ⟨_, _, _, rfl⟩
def upN (v : Ver) (k : Nat) : Int := if k = 0 then (v.maj + 1) * 100000000 else if k = 1 then v.maj * 100000000 + (v.min + 1) * 10000 else v.code + 1
theorem turns_lt (c : Co) : g9 c < 3 := by
  unfold g9
  split
  · omega
  · split <;> omega
def ordB (op n : Int) : Bool := if op = 1 then decide (n = 0) else if op = 2 then decide (¬ n = 0) else if op = 3 then decide (n < 0) else if op = 4 then decide (n ≤ 0) else if op = 5 then decide (0 < n) else decide (0 ≤ n)
end
section
def uW (c : Co) (v : Ver) (p : Int) : Bool := (decide (p < 1) || decide (v.maj = c.v.maj)) && (decide (p < 2) || decide (v.min = c.v.min)) && (decide (p < 3) || decide (v.pat = c.v.pat))
def overB (c : Co) (v : Ver) : Bool := if ¬ v.maj = c.v.maj ∨ c.parts = 1 then decide (c.v.maj < v.maj) else if ¬ v.min = c.v.min ∨ c.parts = 2 then decide (c.v.min < v.min) else decide (c.v.pat < v.pat)
def saysN (c : Co) : Int := if 0 < c.v.maj ∨ c.parts = 1 then 1 else if 0 < c.v.min ∨ c.parts = 2 then 2 else 3
def saysB (c : Co) (v : Ver) : Bool :=
  if c.op = 1 ∨ c.op = 9 then uW c v c.parts else if c.op = 2 then !uW c v c.parts else if c.op = 3 then !uW c v c.parts && !overB c v else if c.op = 4 then uW c v c.parts || !overB c v
  else if c.op = 5 then overB c v else if c.op = 6 then uW c v c.parts || overB c v else if c.op = 8 then uW c v (min c.parts 2) && (uW c v c.parts || overB c v)
  else uW c v (saysN c) && (uW c v c.parts || overB c v)
def truncN (v : Ver) (q : Nat) : Int := if q = 1 then v.maj * 100000000 else if q = 2 then v.maj * 100000000 + v.min * 10000 else v.code
end
section
def dZ (v : Ver) : Ver := { v with pre := [48], build := [] }
def tO (v : Ver) : Ver := { v with pre := [], build := [] }
theorem least_may {v : Ver} (h : v.may = true) : (dZ v).may = true ∧ (tO v).may = true := by
  obtain ⟨h1, h2, h3⟩ := vG h
  have k : jC [48] = true := by decide
  unfold Ver.may dZ tO
  dsimp only
  rw [h1, h2, h3, k]
  exact ⟨rfl, rfl⟩
theorem zone_row {c : Co} (h : c.may = true) (hp : ¬ c.v.pre = []) : c.zone = [⟨⟨0, dZ c.v, false⟩, ⟨0, tO c.v, false⟩⟩] := by
  unfold Co.zone
  rw [h, decide_eq_false hp]; rfl
theorem zone_sp {v : Ver} (h : v.may = true) : (Sp.mk ⟨0, dZ v, false⟩ ⟨0, tO v, false⟩).may = true := by
  obtain ⟨m1, m2⟩ := least_may h
  refine wA ?_
  have c1 : (⟨0, dZ v, false⟩ : Cu).may = true := before_may m1 false
  have c2 : (⟨0, tO v, false⟩ : Cu).may = true := before_may m2 false
  rw [qZ c1 c2]
  have e : kD (dZ v) (tO v) = -1 := by
    rw [dD m1 m2]
    have e1 : (dZ v).code = (tO v).code := rfl
    rw [e1, if_neg (by omega), if_neg (by omega)]; rfl
  show lex (Lib.compareInt 0 0) (lex (kD (dZ v) (tO v)) (Lib.compareInt (b01 false) (b01 false))) < 0
  rw [e]
  decide
theorem zone_may {c : Co} : zL c.zone = true := by
  by_cases h : c.may = true
  · by_cases hp : c.v.pre = []
    · unfold Co.zone; rw [h, decide_eq_true hp]; rfl
    · rw [zone_row h hp]; exact zone_sp (Co.facts h).2.1
  · unfold Co.zone
    rw [Bool.eq_false_iff.2 h]; rfl
def withO (c : Co) (o : Int) : Co := { c with op := o }
end
section
def vD (sep : List UInt8) : List (List UInt8) → List UInt8
  | [] => []
  | [x] => x
  | x :: y :: l => x ++ sep ++ vD sep (y :: l)
theorem mL (sep x y : List UInt8) (l : List (List UInt8)) : vD sep (x :: y :: l) = x ++ sep ++ vD sep (y :: l) := rfl
theorem joinB_snoc (sep x : List UInt8) : ∀ (l : List (List UInt8)), vD sep (l ++ [x]) = if l = [] then x else vD sep l ++ sep ++ x
  | [] => rfl
  | [y] => rfl
  | y :: z :: l => by
    rw [if_neg (by simp)]
    show y ++ sep ++ vD sep ((z :: l) ++ [x]) = y ++ sep ++ vD sep (z :: l) ++ sep ++ x
    rw [joinB_snoc sep x (z :: l), if_neg (by simp)]
    simp only [List.append_assoc]
def sumN : List Nat → Nat
  | [] => 0
  | n :: l => n + sumN l
theorem joinB_len (sep : List UInt8) : ∀ (l : List (List UInt8)), (vD sep l).length = sumN (l.map (·.length)) + (l.length - 1) * sep.length
  | [] => by simp [vD, sumN]
  | [x] => by simp [vD, sumN]
  | x :: y :: l => by
    rw [mL, List.length_append, List.length_append, joinB_len sep (y :: l)]
    show x.length + sep.length + (sumN ((y :: l).map (·.length)) + ((y :: l).length - 1) * sep.length) = x.length + sumN ((y :: l).map (·.length)) + ((y :: l).length + 1 - 1) * sep.length
    have e : ((y :: l).length + 1 - 1) * sep.length = ((y :: l).length - 1) * sep.length + sep.length := by
      rw [show (y :: l).length + 1 - 1 = ((y :: l).length - 1) + 1 from by simp, Nat.add_mul, Nat.one_mul]
    omega
def xG (a : List Co) : List UInt8 := vD [44, 32] (a.map Co.print)
def kH (r : List (List Co)) : List UInt8 := vD [32, 124, 124, 32] (r.map xG)
def fewA (a : List Co) : Bool := decide (1 ≤ a.length ∧ a.length ≤ 6) && a.all Co.may
def fewR (r : List (List Co)) : Bool := decide (1 ≤ r.length ∧ r.length ≤ 6) && r.all fewA
def rgMay (r : List (List Co)) : Bool := fewR r && decide ((kH r).length ≤ 96)
def gN (r : List (List Co)) : List UInt8 := if rgMay r then kH r else []
theorem fewA.facts {a : List Co} (h : fewA a = true) : (1 ≤ a.length ∧ a.length ≤ 6) ∧ ∀ c ∈ a, c.may = true := by
  unfold fewA at h
  rw [Bool.and_eq_true, decide_eq_true_eq] at h
  exact ⟨h.1, List.all_eq_true.1 h.2⟩
theorem fewR.facts {r : List (List Co)} (h : fewR r = true) : (1 ≤ r.length ∧ r.length ≤ 6) ∧ ∀ a ∈ r, fewA a = true := by
  unfold fewR at h
  rw [Bool.and_eq_true, decide_eq_true_eq] at h
  exact ⟨h.1, List.all_eq_true.1 h.2⟩
theorem rgMay.facts {r : List (List Co)} (h : rgMay r = true) : fewR r = true ∧ (kH r).length ≤ 96 := by
  unfold rgMay at h
  rw [Bool.and_eq_true, decide_eq_true_eq] at h
  exact h
def kU : List UInt8 → List UInt8
  | [] => []
  | c :: l => if c = 32 then kU l else c :: l
def kE (s : List UInt8) : List UInt8 := (kU (kU s).reverse).reverse
def gG : List UInt8 → List UInt8 → List (List UInt8)
  | acc, [] => [acc]
  | acc, [c] => [acc ++ [c]]
  | acc, c :: d :: r => if c = 124 ∧ d = 124 then acc :: gG [] r else gG (acc ++ [c]) (d :: r)
def uY {α β : Type} (f : α → Option β) : List α → Option (List β)
  | [] => some []
  | x :: l => match f x, uY f l with
    | some y, some m => some (y :: m)
    | _, _ => none
theorem allO_cons {α β : Type} {f : α → Option β} {x : α} {l : List α} {y : β} {m : List β} (h1 : f x = some y) (h2 : uY f l = some m) : uY f (x :: l) = some (y :: m) := by
  show (match f x, uY f l with | some y, some m => some (y :: m) | _, _ => none) = _
  rw [h1, h2]
theorem allO_inv {α β : Type} {f : α → Option β} {x : α} {l : List α} {m : List β} (h : uY f (x :: l) = some m) : ∃ y m', m = y :: m' ∧ f x = some y ∧ uY f l = some m' := by
  have h : (match f x, uY f l with | some y, some m => some (y :: m) | _, _ => none) = some m := h
  cases h1 : f x with
  | none => rw [h1] at h; cases h
  | some y =>
    cases h2 : uY f l with
    | none => rw [h1, h2] at h; cases h
    | some m' => rw [h1, h2] at h; injection h with h; exact ⟨y, m', h.symm, rfl, rfl⟩
theorem allO_none {α β : Type} {f : α → Option β} : ∀ {l : List α} {x : α}, x ∈ l → f x = none → uY f l = none
  | y :: l, x, hx, h => by
    show (match f y, uY f l with | some y, some m => some (y :: m) | _, _ => none) = _
    rcases List.mem_cons.1 hx with rfl | hx
    · rw [h]
    · rw [allO_none hx h]; cases f y <;> rfl
theorem dH {α β : Type} {f : α → Option β} : ∀ {l : List α} {m : List β}, uY f l = some m → m.length = l.length
  | [], m, h => by injection h with h; subst h; rfl
  | x :: l, m, h => by
    obtain ⟨y, m', rfl, _, h2⟩ := allO_inv h
    rw [List.length_cons, List.length_cons, dH h2]
theorem allO_app {α β : Type} {f : α → Option β} {b : List α} {n : List β} (hb : uY f b = some n) : ∀ {a : List α} {m : List β}, uY f a = some m → uY f (a ++ b) = some (m ++ n)
  | [], m, h => by injection h with h; subst h; exact hb
  | x :: a, m, h => by
    obtain ⟨y, m', rfl, h1, h2⟩ := allO_inv h
    exact allO_cons h1 (allO_app hb h2)
theorem allO_snoc {α β : Type} {f : α → Option β} {a : List α} {m : List β} {x : α} {y : β} (h : uY f a = some m) (h1 : f x = some y) : uY f (a ++ [x]) = some (m ++ [y]) := allO_app (allO_cons h1 rfl) h
theorem allO_back {α β : Type} {f : α → Option β} : ∀ {l : List α} {m : List β}, uY f l = some m → ∀ y ∈ m, ∃ x ∈ l, f x = some y
  | [], m, h, y, hy => by injection h with h; subst h; cases hy
  | z :: l, m, h, y, hy => by
    obtain ⟨w, m', rfl, h1, h2⟩ := allO_inv h
    rcases List.mem_cons.1 hy with rfl | hy
    · exact ⟨z, List.mem_cons_self .., h1⟩
    · obtain ⟨x, hx, e⟩ := allO_back h2 y hy
      exact ⟨x, List.mem_cons_of_mem _ hx, e⟩
def parseP (s : List UInt8) : Option Co := qB (kE s)
def parseA (s : List UInt8) : Option (List Co) := uY parseP (yX 44 [] s)
def qT (s : List UInt8) : Option (List (List Co)) := uY parseA (gG [] s)
def kC (s : List UInt8) : Option (List (List Co)) := if 96 < s.length then none else (qT s).filter rgMay
def jM (s : List UInt8) : Int := if 96 < s.length then 3 else match qT s with
  | none => 6
  | some r => if fewR r then (if (kH r).length ≤ 96 then 0 else 3) else 6
def blanks (n : Nat) : List UInt8 := List.replicate n 32
theorem altsL_ne : ∀ (s acc : List UInt8), gG acc s ≠ []
  | [], acc => by simp [gG]
  | [c], acc => by simp [gG]
  | c :: d :: r, acc => by
    rw [gG]
    split
    · simp
    · exact altsL_ne (d :: r) _
theorem tS : ∀ (s acc : List UInt8), ∀ x ∈ gG acc s, x.length ≤ acc.length + s.length
  | [], acc, x, hx => by
    have : x = acc := by simpa [gG] using hx
    subst this; simp
  | [c], acc, x, hx => by
    have : x = acc ++ [c] := by simpa [gG] using hx
    subst this; simp
  | c :: d :: r, acc, x, hx => by
    rw [gG] at hx
    split at hx
    · rcases List.mem_cons.1 hx with rfl | hx
      · simp only [List.length_cons]; omega
      · have := tS r [] x hx
        simp only [List.length_cons, List.length_nil] at this ⊢; omega
    · have := tS (d :: r) (acc ++ [c]) x hx
      simp only [List.length_append, List.length_cons, List.length_nil] at this ⊢; omega
theorem pL : ∀ (s acc : List UInt8), (gG acc s).length ≤ s.length + 1
  | [], acc => by simp [gG]
  | [c], acc => by simp [gG]
  | c :: d :: r, acc => by
    rw [gG]
    split
    · have := pL r []; simp only [List.length_cons]; omega
    · have := pL (d :: r) (acc ++ [c]); simp only [List.length_cons] at this ⊢; omega
inductive Two {α β : Type} (R : α → β → Prop) : List α → List β → Prop
  | nil : Two R [] []
  | cons {x : α} {y : β} {l : List α} {m : List β} (h : R x y) (t : Two R l m) : Two R (x :: l) (y :: m)
def SpellC (s : List UInt8) (c : Co) : Prop := ∃ n m, s = blanks n ++ c.text ++ blanks m
def SpellA (s : List UInt8) (a : List Co) : Prop := ∃ ps, s = yC 44 ps ∧ Two SpellC ps a ∧ ps ≠ []
def SpellR (s : List UInt8) (r : List (List Co)) : Prop := ∃ l, s = vD [124, 124] l ∧ Two SpellA l r ∧ l ≠ []
theorem text_ne {c : Co} (h : c.may = true) : c.text ≠ [] := by
  intro e
  have := (dU c.text c).2 ⟨h, .inl rfl⟩
  rw [e] at this
  revert this
  have : qB [] = none := by decide
  rw [this]; simp
theorem fX {s : List UInt8} {r : List (List Co)} (h : kC s = some r) : jM s = 0 ∧ rgMay r = true ∧ qT s = some r ∧ s.length ≤ 96 := by
  unfold kC at h
  split at h
  · cases h
  · rename_i hl
    cases hp : qT s with
    | none => rw [hp] at h; cases h
    | some q =>
      rw [hp] at h
      unfold Option.filter at h
      simp only at h
      split at h
      · rename_i hm
        injection h with h
        subst h
        obtain ⟨k1, k2⟩ := rgMay.facts hm
        refine ⟨?_, hm, rfl, by omega⟩
        unfold jM
        rw [if_neg hl, hp]
        simp only
        rw [if_pos k1, if_pos k2]
      · cases h
theorem err_none {s : List UInt8} (h : kC s = none) : jM s = 3 ∨ jM s = 6 := by
  unfold kC at h
  unfold jM
  split at h
  · rename_i hl; rw [if_pos hl]; exact .inl rfl
  · rename_i hl
    rw [if_neg hl]
    cases hp : qT s with
    | none => exact .inr rfl
    | some q =>
      rw [hp] at h
      simp only
      cases h1 : fewR q with
      | false => exact .inr rfl
      | true =>
        rw [if_pos rfl]
        by_cases h2 : (kH q).length ≤ 96
        · exfalso
          have : rgMay q = true := by unfold rgMay; rw [h1, decide_eq_true h2]; rfl
          simp [Option.filter, this] at h
        · rw [if_neg h2]; exact .inl rfl
end
section
theorem nodup_le {α : Type} [DecidableEq α] : ∀ (l m : List α), l.Nodup → (∀ x ∈ l, x ∈ m) → l.length ≤ m.length
  | [], m, _, _ => Nat.zero_le _
  | x :: l, m, hn, hs => by
    have hx := hs x (List.mem_cons_self ..)
    have h1 := List.length_erase_of_mem hx
    have hn2 := List.nodup_cons.1 hn
    have h2 := nodup_le l (m.erase x) hn2.2 fun y hy => (List.mem_erase_of_ne (by rintro rfl; exact hn2.1 hy)).2 (hs y (List.mem_cons_of_mem _ hy))
    have h3 : 0 < m.length := List.length_pos_of_mem hx
    rw [List.length_cons]; omega
def flatC : List Sp → List Cu
  | [] => []
  | s :: l => s.lo :: s.hi :: flatC l
theorem flatC_len : ∀ (l : List Sp), (flatC l).length = 2 * l.length
  | [] => rfl
  | s :: l => by show (flatC l).length + 1 + 1 = 2 * (l.length + 1); rw [flatC_len l]; omega
theorem mM : ∀ {l : List Sp} {x : Cu}, x ∈ flatC l → ∃ s ∈ l, x = s.lo ∨ x = s.hi
  | s :: l, x, h => by
    rcases List.mem_cons.1 h with e | h
    · exact ⟨s, List.mem_cons_self .., .inl e⟩
    · rcases List.mem_cons.1 h with e | h
      · exact ⟨s, List.mem_cons_self .., .inr e⟩
      · obtain ⟨t, ht, e⟩ := mM h
        exact ⟨t, List.mem_cons_of_mem _ ht, e⟩
theorem flatC_nodup : ∀ {l : List Sp}, zL l = true → (flatC l).Nodup
  | [], _ => List.nodup_nil
  | s :: l, h => by
    have hs := xV h
    have hm := y9 hs
    have hlt := uQ hs
    have haf := g8 h
    have far : ∀ x ∈ flatC l, zQ s.hi x < 0 := fun x hx => by
      obtain ⟨t, ht, e⟩ := mM hx
      have tm := x8 (kR h) t ht
      have t2 := y9 tm
      rcases e with rfl | rfl
      · exact haf t ht
      · exact xT hm.2 t2.1 t2.2 (haf t ht) (uQ tm)
    have xm : ∀ x ∈ flatC l, x.may = true := fun x hx => by
      obtain ⟨t, ht, e⟩ := mM hx
      have t2 := y9 (x8 (kR h) t ht)
      rcases e with rfl | rfl
      · exact t2.1
      · exact t2.2
    refine List.nodup_cons.2 ⟨fun hx => ?_, List.nodup_cons.2 ⟨fun hx => ?_, flatC_nodup (kR h)⟩⟩
    · rcases List.mem_cons.1 hx with e | hx
      · rw [e, g0] at hlt; omega
      · have := xT hm.1 hm.2 (xm _ hx) hlt (far _ hx)
        rw [g0] at this; omega
    · have := far _ hx
      rw [g0] at this; omega
theorem row_half {l : List Sp} {C : List Cu} (h : zL l = true) (hc : ∀ s ∈ l, s.lo ∈ C ∧ s.hi ∈ C) : 2 * l.length ≤ C.length := by
  rw [← flatC_len]
  refine nodup_le _ _ (flatC_nodup h) fun x hx => ?_
  obtain ⟨s, hs, e⟩ := mM hx
  rcases e with rfl | rfl
  · exact (hc s hs).1
  · exact (hc s hs).2
theorem pG {p : Cu → Cu → Bool} {l : List Sp} (hl : ∀ s ∈ l, s.may = true) (h : zL (kW p [] (kT l)) = true) : (kW p [] (kT l)).length ≤ 1 + l.length := by
  have h1 := row_half h (pH p (· ∈ kT l) (kT l) [] (fun c hc => hc) (fun s hs => by simp at hs))
  have h2 := cuts_len hl
  omega
theorem RF.make1 {l : List Sp} {n : Nat} (hl : ∀ s ∈ l, s.may = true) (hn : l.length ≤ n) : RF (vX l) (1 + n) := ⟨(uV hl).1, by
  have := pG (p := inL l) hl (uV hl).1
  unfold vX; omega⟩
theorem RF.or1 {a b : List Sp} {n m : Nat} (ha : RF a n) (hb : RF b m) : RF (orL a b) (1 + (n + m)) := RF.make1 (wP ha.may hb.may) (by rw [List.length_append]; have := ha.len; have := hb.len; omega)
theorem RF.and1 {a b : List Sp} {n m : Nat} (ha : RF a n) (hb : RF b m) : RF (uP a b) (1 + (n + m)) := ⟨(and_ok ha.may hb.may).1, by
  have h1 := pG (p := fun c d => inL a c d && inL b c d) (wP ha.may hb.may) (and_ok ha.may hb.may).1
  have := ha.len; have := hb.len
  rw [List.length_append] at h1
  unfold uP; omega⟩
theorem RF.not1 {a : List Sp} {n : Nat} (ha : RF a n) : RF (v8 a) (1 + n) := ⟨(bE ha.may).1, by
  have h1 := pG (p := fun c d => !inL a c d) (x8 ha.may) (bE ha.may).1
  have := ha.len
  unfold v8; omega⟩
theorem RF.rel1 {a : List Sp} {n : Nat} (ha : RF a n) : RF (xR a) (1 + n) := RF.make1 (dX a) (by
  have := List.length_filter_le (fun s : Sp => s.may) (a.map jO)
  rw [List.length_map] at this
  have := ha.len; omega)
theorem SF.or1 {a b : St} {n m : Nat} (ha : SF a n) (hb : SF b m) : SF (orT a b) (1 + (n + m)) := ⟨ha.rel.or1 hb.rel, ha.pre.or1 hb.pre, ha.right.or hb.right⟩
theorem one_r1 (lo hi : Cu) : RF (kI lo hi) 1 := ⟨oneRow_may lo hi, by have := mS [] lo hi; unfold kI; simpa using this⟩
theorem vN (c : Co) : RF c.region 2 := by
  unfold Co.region
  split
  · split
    · exact (one_r1 _ _).not1
    · exact (one_r1 _ _).le (by decide)
  · exact nil_rf.le (by decide)
theorem uS (c : Co) : RF c.zone 1 := ⟨zone_may, by unfold Co.zone; split <;> simp⟩
def yT (a : List Co) : List Sp := a.foldl (fun l c => uP l c.region) v7
def yS (a : List Co) : List Sp := a.foldl (fun l c => orL l c.zone) []
def yB (a : List Co) : St := ⟨xR (yT a), uP (yT a) (yS a)⟩
def xF (r : List (List Co)) : St := r.foldl (fun s a => orT s (yB a)) gD
def x9 (r : List (List Co)) : St := if rgMay r then xF r else gD
theorem hY (a : List Co) (c : Co) : yT (a ++ [c]) = uP (yT a) c.region := by unfold yT; rw [List.foldl_append]; rfl
theorem fA (a : List Co) (c : Co) : yS (a ++ [c]) = orL (yS a) c.zone := by unfold yS; rw [List.foldl_append]; rfl
theorem nP (r : List (List Co)) (a : List Co) : xF (r ++ [a]) = orT (xF r) (yB a) := by unfold xF; rw [List.foldl_append]; rfl
theorem bP {α : Type} {P : List α → Prop} (h0 : P []) (h1 : ∀ l x, P l → P (l ++ [x])) (l : List α) : P l := by
  have : ∀ n (l : List α), l.length = n → P l := by
    intro n
    induction n with
    | zero => intro l hl; rw [List.length_eq_zero_iff.1 hl]; exact h0
    | succ n ih =>
      intro l hl
      have hne : l ≠ [] := by rintro rfl; simp at hl
      rw [← List.dropLast_concat_getLast hne]
      exact h1 _ _ (ih _ (by rw [List.length_dropLast, hl]; rfl))
  exact this _ l rfl
theorem jK (a : List Co) : RF (yT a) (1 + 3 * a.length) :=
  bP (P := fun a => RF (yT a) (1 + 3 * a.length)) whole_rf (fun l x h => by
    rw [hY, List.length_append]
    exact (h.and1 (vN x)).le (by simp; omega)) a
theorem wQ (a : List Co) : RF (yS a) (2 * a.length) :=
  bP (P := fun a => RF (yS a) (2 * a.length)) nil_rf (fun l x h => by
    rw [fA, List.length_append]
    exact (h.or1 (uS x)).le (by simp; omega)) a
theorem jJ (a : List Co) : SF (yB a) (2 + 5 * a.length) := ⟨(jK a).rel1.le (by omega), ((jK a).and1 (wQ a)).le (by omega), makeRel_right (x8 (jK a).may)⟩
theorem orAll_sf {n : Nat} (r : List (List Co)) : (∀ a ∈ r, a.length ≤ n) → SF (xF r) (r.length * (3 + 5 * n)) :=
  bP (P := fun r => (∀ a ∈ r, a.length ≤ n) → SF (xF r) (r.length * (3 + 5 * n))) (fun _ => by rw [List.length_nil, Nat.zero_mul]; exact none_sf) (fun l x h ha => by
    rw [nP, List.length_append]
    have h1 := h fun a hm => ha a (List.mem_append.2 (.inl hm))
    have h2 := (jJ x).le (m := 2 + 5 * n) (by have := ha x (by simp); omega)
    refine (h1.or1 h2).le ?_
    show _ ≤ (l.length + 1) * (3 + 5 * n)
    rw [Nat.add_mul, Nat.one_mul]; omega) r
theorem orAll_few {r : List (List Co)} (h : fewR r = true) : SF (xF r) 198 := by
  obtain ⟨h1, h2⟩ := fewR.facts h
  refine (orAll_sf (n := 6) r fun a ha => ((fewA.facts (h2 a ha)).1).2).le ?_
  show r.length * 33 ≤ 198
  omega
theorem bV (r : List (List Co)) : SF (x9 r) 198 := by
  unfold x9
  split
  · rename_i h; exact orAll_few (rgMay.facts h).1
  · exact none_sf.le (by decide)
theorem altRel_den (a : List Co) {x : Cu} (hx : x.may = true) (he : zQ x (zT 1) < 0) : den (yT a) x = a.all fun c => den c.region x :=
  bP (P := fun a => den (yT a) x = a.all fun c => den c.region x) (whole_den hx he) (fun l c h => by
    rw [hY, (and_ok (jK l).may (vN c).may).2 x hx he, h]; simp) a
theorem altZone_den (a : List Co) {x : Cu} (hx : x.may = true) (he : zQ x (zT 1) < 0) : den (yS a) x = a.any fun c => den c.zone x :=
  bP (P := fun a => den (yS a) x = a.any fun c => den c.zone x) rfl (fun l c h => by
    rw [fA, (or_ok (wQ l).may (uS c).may).2 x hx he, h]; simp) a
theorem altRel_has (a : List Co) {v : Ver} (hv : v.may = true) : xN (yT a) v = a.all fun c => xN c.region v := by
  rw [j3 (jK a).may hv, altRel_den a (qS hv) (u9 hv)]
  congr 1; funext c; rw [j3 (vN c).may hv]
theorem altZone_has (a : List Co) {v : Ver} (hv : v.may = true) : xN (yS a) v = a.any fun c => xN c.zone v := by
  rw [j3 (wQ a).may hv, altZone_den a (qS hv) (u9 hv)]
  congr 1; funext c; rw [j3 (uS c).may hv]
theorem altSet_has (a : List Co) {v : Ver} (hv : v.may = true) : q9 (yB a) v = ((a.all fun c => xN c.region v) && (decide (v.pre = []) || a.any fun c => xN c.zone v)) := by
  rw [has_may (jJ a) hv, ← altRel_has a hv, ← altZone_has a hv]
  by_cases hp : v.pre = []
  · rw [if_pos hp, decide_eq_true hp, Bool.true_or, Bool.and_true]
    exact makeRel_has (jK a).may hv hp
  · rw [if_neg hp, decide_eq_false hp, Bool.false_or]
    exact has_and4 (jK a).may (wQ a).may hv
theorem orAll_may (r : List (List Co)) : ∃ n, SF (xF r) n := by
  have : ∃ n, ∀ a ∈ r, a.length ≤ n := by
    induction r with
    | nil => exact ⟨0, fun a h => by simp at h⟩
    | cons a r ih =>
      obtain ⟨n, h⟩ := ih
      refine ⟨a.length + n, fun b hb => ?_⟩
      rcases List.mem_cons.1 hb with rfl | hb
      · omega
      · have := h b hb; omega
  obtain ⟨n, h⟩ := this
  exact ⟨_, orAll_sf r h⟩
theorem orAll_has (r : List (List Co)) {v : Ver} (hv : v.may = true) : q9 (xF r) v = r.any fun a => q9 (yB a) v :=
  bP (P := fun r => q9 (xF r) v = r.any fun a => q9 (yB a) v) setHas_none (fun l a h => by
    obtain ⟨n, hl⟩ := orAll_may l
    rw [nP, setHas_or hl (jJ a) hv, h]; simp) r
theorem rgSet_has {r : List (List Co)} (h : rgMay r = true) {v : Ver} (hv : v.may = true) : q9 (x9 r) v = r.any fun a => (a.all fun c => xN c.region v) && (decide (v.pre = []) || a.any fun c => xN c.zone v) := by
  unfold x9
  rw [if_pos h, orAll_has r hv]
  congr 1; funext a; exact altSet_has a hv
end
section
end
section
def ordSp (c d : Cu) : Sp := if 0 < zQ c d then ⟨d, c⟩ else ⟨c, d⟩
def spG (l : List Int) (i n : Nat) : Sp := ordSp (genC l (i + 12 * n - 11)) (genC l (i + 12 * n - 5))
def spansG (l : List Int) (i : Nat) : Nat → List Sp
  | 0 => []
  | n + 1 => (if (spG l i (n + 1)).may then [spG l i (n + 1)] else []) ++ spansG l i n
structure SpI (l : List Int) (i N n : Nat) (z : Int) (u : Value) (acc : List Sp) (ob : List Blk) : Prop where
  z : z = (n : Int)
  sl : SlS u acc ob
  len : acc.length + n ≤ N
  eq : acc ++ spansG l i n = spansG l i N
end
section
def rowG (l : List Int) (i : Nat) : List Sp := vX (spansG l i (plc (atL l i) (4 + 1 : Nat)).toNat)
end
section
theorem rel_may (a b c : Int) : (Ver.rel a b c).may = (yH a && yH b && yH c) := by
  unfold Ver.may Ver.rel
  have h1 : jC [] = true := by decide
  have h2 : qO [] = true := by decide
  dsimp only
  rw [h1, h2, Bool.and_true, Bool.and_true]
theorem may_nat3 {v : Ver} (h : v.may = true) : (0 ≤ v.maj ∧ v.maj ≤ 9999) ∧ (0 ≤ v.min ∧ v.min ≤ 9999) ∧ (0 ≤ v.pat ∧ v.pat ≤ 9999) := by
  obtain ⟨h1, h2, h3⟩ := vG h
  unfold yH at h1 h2 h3; simp at h1 h2 h3
  exact ⟨h1, h2, h3⟩
theorem up_ok {a : Int} (h : 0 ≤ a ∧ a ≤ 9999) : yH (a + 1) = !(a == 9999) := by
  unfold yH
  by_cases e : a = 9999
  · subst e; decide
  · have : (a == 9999) = false := by simpa using e
    rw [this]; simp; omega
theorem in_ok {a : Int} (h : 0 ≤ a ∧ a ≤ 9999) : yH a = true := by unfold yH; simp; omega
theorem bump_may {v : Ver} (h : v.may = true) (k : Nat) (hk : k < 3) : (tM v k).may = y8 v k := by
  obtain ⟨h1, h2, h3⟩ := may_nat3 h
  have hz : yH 0 = true := by decide
  match k, hk with
  | 0, _ =>
    show (Ver.rel (v.maj + 1) 0 0).may = _
    rw [rel_may, up_ok h1, hz]
    unfold y8; rw [h, show xQ v.maj v.min v.pat ((0 : Nat) : Int).toNat = v.maj from rfl]; simp
  | 1, _ =>
    show (Ver.rel v.maj (v.min + 1) 0).may = _
    rw [rel_may, up_ok h2, hz, in_ok h1]
    unfold y8; rw [h, show xQ v.maj v.min v.pat ((1 : Nat) : Int).toNat = v.min from rfl]; simp
  | 2, _ =>
    show (Ver.rel v.maj v.min (v.pat + 1)).may = _
    rw [rel_may, up_ok h3, in_ok h1, in_ok h2]
    unfold y8; rw [h, show xQ v.maj v.min v.pat ((2 : Nat) : Int).toNat = v.pat from rfl]; simp
theorem qK {v u : Ver} {part : Int} {b : Bool} {w wr : World} {tmps : Array Value} {old : Array Value} (h2 : tmps.getD 4 undef = .pointer (some ⟨w.heap.size + 1, 0, none⟩)) (h3 : tmps.getD 5 undef = .bool b)
    (hg : wr.heap[w.heap.size + 1]? = some (.cells old 44)) (hbel : Below w.heap.size w wr) (hb : y8 v part = b) (hv : yD v part = u) :
    bodyPost Tryz.prog Tryz.f186 (BEnd v part w) .ret ⟨tmps, []⟩ (wr.setRow (w.heap.size + 1) (ZP u)) := by
  have hrow := setRow_heap wr (w.heap.size + 1) _ (ZP u) _ _ hg
  have hr := run_loadVar_row (P := Tryz.prog) _ (w.heap.size + 1) 44 44 _ _ _ hrow Tryz.underlying44 rfl (by kernel_rfl)
  have h2' : tmps[4]?.getD undef = .pointer (some ⟨w.heap.size + 1, 0, none⟩) := by simpa using h2
  have h3' : tmps[5]?.getD undef = .bool b := by simpa using h3
  refine bodyPost_ret (v := .tuple #[y6 u, .bool b]) (by simp [results, Tryz.results186, asAddr, h2', h3', hr, y6]) rfl ⟨by rw [hv, hb], kY hbel (by omega) _⟩
theorem rbump_go (v : Ver) (part : Int) (w : World) (hp : v.pre.length ≤ 1000000) (hq : v.build.length ≤ 1000000) :
    Calls Tryz.prog 186 #[y6 v, .int .i64 part] w (BEnd v part w) := by
  have cM := fun w' => qR v w' hp hq
  obtain ⟨m, hm⟩ : ∃ m, v.may = m := ⟨_, rfl⟩
  rw [hm] at cM
  obtain ⟨a, b, c, p, q⟩ := v
  unfold y6 at cM ⊢
  dsimp only at cM ⊢
  cases m with
  | false =>
    have HB : Hid (y8 ⟨a, b, c, p, q⟩ part = false) := by show _ = _; unfold y8; rw [hm]; rfl
    clear hm
    go_enter Tryz.func186, Tryz.ntmps186
    go_wp2_with fail
    refine (cM _).mono ?_
    rintro e w1 ⟨rfl, hb1⟩
    have hgR := Lib.hid ((hb1.block (w.heap.size + 1) (by simp only [zU]; omega)).trans (jW _ _ _ (by simp only [zU])))
    have hbw : Below w.heap.size w w1 := (((Below.refl _ _).alloc (Nat.le_refl _) _).alloc (by simp only [zU]; omega) _).trans (hb1.mono (by simp only [zU]; omega))
    go_wp2_with (refine wpList_store_row rfl 44 _ _ rfl (w.heap.size + 1) Z7 rfl rfl _ _ hgR.out (by kernel_rfl) rfl (xU _ _ _ _ _) ?_)
    exact qK (u := Ver.zero) rfl rfl hgR.out hbw HB.out (by unfold yD; rw [HB.out]; rfl)
  | true =>
    have HM := Lib.hid hm
    obtain ⟨⟨a0, a9⟩, ⟨b0, b9⟩, ⟨c0, c9⟩⟩ := may_nat3 hm
    dsimp only at a0 a9 b0 b9 c0 c9
    clear hm
    go_enter Tryz.func186, Tryz.ntmps186
    go_wp2_with fail
    refine (cM _).mono ?_
    rintro e w1 ⟨rfl, hb1⟩
    have hz1 := hb1.size
    simp only [zU] at hz1
    have hgB := (hb1.block w.heap.size (by simp only [zU]; omega)).trans ((xA _ _ (by simp only [zU]; omega)).trans (kL w _))
    have hgR := Lib.hid ((hb1.block (w.heap.size + 1) (by simp only [zU]; omega)).trans (jW _ _ _ (by simp only [zU])))
    have hbw : Below w.heap.size w w1 := (((Below.refl _ _).alloc (Nat.le_refl _) _).alloc (by simp only [zU]; omega) _).trans (hb1.mono (by simp only [zU]; omega))
    obtain ⟨k0, _⟩ := x3 (j := 0) hgB (by simp)
    obtain ⟨k1, _⟩ := x3 (j := 1) hgB (by simp)
    obtain ⟨k2, _⟩ := x3 (j := 2) hgB (by simp)
    simp only [List.getElem_toArray, List.getElem_cons_succ, List.getElem_cons_zero] at k0 k1 k2
    have hsB : w.heap.size < w1.heap.size := by omega
    clear hgB hb1 cM
    by_cases p0 : part < 0
    · have HB : Hid (y8 ⟨a, b, c, p, q⟩ part = false) := by show _ = _; unfold y8; rw [decide_eq_false (by omega)]; simp
      go_wp2_with (refine wpList_store_row rfl 44 _ _ rfl (w.heap.size + 1) Z7 rfl rfl _ _ hgR.out (by kernel_rfl) rfl (xU _ _ _ _ _) ?_)
      exact qK (u := Ver.zero) rfl rfl hgR.out hbw HB.out (by unfold yD; rw [HB.out]; rfl)
    · by_cases p3 : 2 < part
      · have HB : Hid (y8 ⟨a, b, c, p, q⟩ part = false) := by show _ = _; unfold y8; rw [decide_eq_false (by omega)]; simp
        go_wp2_with (refine wpList_store_row rfl 44 _ _ rfl (w.heap.size + 1) Z7 rfl rfl _ _ hgR.out (by kernel_rfl) rfl (xU _ _ _ _ _) ?_)
        exact qK (u := Ver.zero) rfl rfl hgR.out hbw HB.out (by unfold yD; rw [HB.out]; rfl)
      · have hpart : part = ((0 : Nat) : Int) ∨ part = ((1 : Nat) : Int) ∨ part = ((2 : Nat) : Int) := by omega
        clear p0 p3
        rcases hpart with rfl | rfl | rfl
        · have hmb := bump_may (v := ⟨a, b, c, p, q⟩) HM.out 0 (by omega)
          have cO := fun w' => qR (tM ⟨a, b, c, p, q⟩ 0) w' (by show (0 : Nat) ≤ _; omega) (by show (0 : Nat) ≤ _; omega)
          rw [hmb] at cO
          obtain ⟨o, ho⟩ : ∃ o, y8 ⟨a, b, c, p, q⟩ ((0 : Nat) : Int) = o := ⟨_, rfl⟩
          have hval : o = true → yD ⟨a, b, c, p, q⟩ ((0 : Nat) : Int) = Ver.rel (a + 1) (0) (0) := fun h => by unfold yD; rw [ho, h]; rfl
          have hval2 : o = false → yD ⟨a, b, c, p, q⟩ ((0 : Nat) : Int) = Ver.zero := fun h => by unfold yD; rw [ho, h]; rfl
          rw [ho] at cO
          have HO := Lib.hid ho
          have HV := Lib.hid hval
          have HV2 := Lib.hid hval2
          clear ho hval hval2 hmb
          rw [show tM ⟨a, b, c, p, q⟩ 0 = Ver.rel (a + 1) (0) (0) from rfl] at cO
          unfold y6 Ver.rel at cO
          dsimp only at cO
          go_wp2_with fail
          refine (cO _).mono ?_
          rintro e w2 ⟨rfl, hb2⟩
          have hg2 := Lib.hid ((hb2.block (w.heap.size + 1) (by rw [zU]; omega)).trans ((xA w1 _ (by omega)).trans hgR.out))
          have hgV := Lib.hid ((hb2.block w1.heap.size (by rw [zU]; omega)).trans (kL w1 _))
          have hbw2 : Below w.heap.size w w2 := (hbw.alloc (by omega) _).trans (hb2.mono (by rw [zU]; omega))
          cases o with
          | false =>
            go_wp2_with (refine wpList_store_row rfl 44 _ _ rfl (w.heap.size + 1) Z7 rfl rfl _ _ hg2.out (by kernel_rfl) rfl (xU _ _ _ _ _) ?_)
            exact qK (u := Ver.zero) rfl rfl hg2.out hbw2 HO.out (HV2.out trivial)
          | true =>
            go_wp2_with (first
              | (refine wpList_load_row rfl 44 _ rfl w1.heap.size rfl _ _ _ _ hgV.out Tryz.underlying44 rfl (by kernel_rfl) ?_)
              | (refine wpList_store_row rfl 44 _ _ rfl (w.heap.size + 1) _ rfl rfl _ _ hg2.out (by kernel_rfl) rfl (xU _ _ _ _ _) ?_))
            exact qK (u := Ver.rel (a + 1) (0) (0)) rfl rfl hg2.out hbw2 HO.out (HV.out trivial)
        · have hmb := bump_may (v := ⟨a, b, c, p, q⟩) HM.out 1 (by omega)
          have cO := fun w' => qR (tM ⟨a, b, c, p, q⟩ 1) w' (by show (0 : Nat) ≤ _; omega) (by show (0 : Nat) ≤ _; omega)
          rw [hmb] at cO
          obtain ⟨o, ho⟩ : ∃ o, y8 ⟨a, b, c, p, q⟩ ((1 : Nat) : Int) = o := ⟨_, rfl⟩
          have hval : o = true → yD ⟨a, b, c, p, q⟩ ((1 : Nat) : Int) = Ver.rel (a) (b + 1) (0) := fun h => by unfold yD; rw [ho, h]; rfl
          have hval2 : o = false → yD ⟨a, b, c, p, q⟩ ((1 : Nat) : Int) = Ver.zero := fun h => by unfold yD; rw [ho, h]; rfl
          rw [ho] at cO
          have HO := Lib.hid ho
          have HV := Lib.hid hval
          have HV2 := Lib.hid hval2
          clear ho hval hval2 hmb
          rw [show tM ⟨a, b, c, p, q⟩ 1 = Ver.rel (a) (b + 1) (0) from rfl] at cO
          unfold y6 Ver.rel at cO
          dsimp only at cO
          go_wp2_with fail
          refine (cO _).mono ?_
          rintro e w2 ⟨rfl, hb2⟩
          have hg2 := Lib.hid ((hb2.block (w.heap.size + 1) (by rw [zU]; omega)).trans ((xA w1 _ (by omega)).trans hgR.out))
          have hgV := Lib.hid ((hb2.block w1.heap.size (by rw [zU]; omega)).trans (kL w1 _))
          have hbw2 : Below w.heap.size w w2 := (hbw.alloc (by omega) _).trans (hb2.mono (by rw [zU]; omega))
          cases o with
          | false =>
            go_wp2_with (refine wpList_store_row rfl 44 _ _ rfl (w.heap.size + 1) Z7 rfl rfl _ _ hg2.out (by kernel_rfl) rfl (xU _ _ _ _ _) ?_)
            exact qK (u := Ver.zero) rfl rfl hg2.out hbw2 HO.out (HV2.out trivial)
          | true =>
            go_wp2_with (first
              | (refine wpList_load_row rfl 44 _ rfl w1.heap.size rfl _ _ _ _ hgV.out Tryz.underlying44 rfl (by kernel_rfl) ?_)
              | (refine wpList_store_row rfl 44 _ _ rfl (w.heap.size + 1) _ rfl rfl _ _ hg2.out (by kernel_rfl) rfl (xU _ _ _ _ _) ?_))
            exact qK (u := Ver.rel (a) (b + 1) (0)) rfl rfl hg2.out hbw2 HO.out (HV.out trivial)
        · have hmb := bump_may (v := ⟨a, b, c, p, q⟩) HM.out 2 (by omega)
          have cO := fun w' => qR (tM ⟨a, b, c, p, q⟩ 2) w' (by show (0 : Nat) ≤ _; omega) (by show (0 : Nat) ≤ _; omega)
          rw [hmb] at cO
          obtain ⟨o, ho⟩ : ∃ o, y8 ⟨a, b, c, p, q⟩ ((2 : Nat) : Int) = o := ⟨_, rfl⟩
          have hval : o = true → yD ⟨a, b, c, p, q⟩ ((2 : Nat) : Int) = Ver.rel (a) (b) (c + 1) := fun h => by unfold yD; rw [ho, h]; rfl
          have hval2 : o = false → yD ⟨a, b, c, p, q⟩ ((2 : Nat) : Int) = Ver.zero := fun h => by unfold yD; rw [ho, h]; rfl
          rw [ho] at cO
          have HO := Lib.hid ho
          have HV := Lib.hid hval
          have HV2 := Lib.hid hval2
          clear ho hval hval2 hmb
          rw [show tM ⟨a, b, c, p, q⟩ 2 = Ver.rel (a) (b) (c + 1) from rfl] at cO
          unfold y6 Ver.rel at cO
          dsimp only at cO
          go_wp2_with fail
          refine (cO _).mono ?_
          rintro e w2 ⟨rfl, hb2⟩
          have hg2 := Lib.hid ((hb2.block (w.heap.size + 1) (by rw [zU]; omega)).trans ((xA w1 _ (by omega)).trans hgR.out))
          have hgV := Lib.hid ((hb2.block w1.heap.size (by rw [zU]; omega)).trans (kL w1 _))
          have hbw2 : Below w.heap.size w w2 := (hbw.alloc (by omega) _).trans (hb2.mono (by rw [zU]; omega))
          cases o with
          | false =>
            go_wp2_with (refine wpList_store_row rfl 44 _ _ rfl (w.heap.size + 1) Z7 rfl rfl _ _ hg2.out (by kernel_rfl) rfl (xU _ _ _ _ _) ?_)
            exact qK (u := Ver.zero) rfl rfl hg2.out hbw2 HO.out (HV2.out trivial)
          | true =>
            go_wp2_with (first
              | (refine wpList_load_row rfl 44 _ rfl w1.heap.size rfl _ _ _ _ hgV.out Tryz.underlying44 rfl (by kernel_rfl) ?_)
              | (refine wpList_store_row rfl 44 _ _ rfl (w.heap.size + 1) _ rfl rfl _ _ hg2.out (by kernel_rfl) rfl (xU _ _ _ _ _) ?_))
            exact qK (u := Ver.rel (a) (b) (c + 1)) rfl rfl hg2.out hbw2 HO.out (HV.out trivial)
theorem rbump_any (v : Ver) (part : Int) (w : World) (hp : v.pre.length ≤ 1000000) (hq : v.build.length ≤ 1000000) :
    Calls Tryz.prog 186 #[y6 v, .int .i64 part] w fun e w' => e = .returned (.tuple #[y6 (yD v part), .bool (y8 v part)]) ∧ Below w.heap.size w w' := rbump_go v part w hp hq
theorem dP {v u : Ver} {b : Bool} {w wr : World} {tmps : Array Value} {old : Array Value} (h2 : tmps.getD 2 undef = .pointer (some ⟨w.heap.size + 1, 0, none⟩)) (h3 : tmps.getD 3 undef = .bool b)
    (hg : wr.heap[w.heap.size + 1]? = some (.cells old 44)) (hbel : Below w.heap.size w wr) (hb : xS v = b) (hv : yI v = u) :
    bodyPost Tryz.prog Tryz.f210 (NEnd v w) .ret ⟨tmps, []⟩ (wr.setRow (w.heap.size + 1) (ZP u)) := by
  have hrow := setRow_heap wr (w.heap.size + 1) _ (ZP u) _ _ hg
  have hr := run_loadVar_row (P := Tryz.prog) _ (w.heap.size + 1) 44 44 _ _ _ hrow Tryz.underlying44 rfl (by kernel_rfl)
  have h2' : tmps[2]?.getD undef = .pointer (some ⟨w.heap.size + 1, 0, none⟩) := by simpa using h2
  have h3' : tmps[3]?.getD undef = .bool b := by simpa using h3
  refine bodyPost_ret (v := .tuple #[y6 u, .bool b]) (by simp [results, Tryz.results210, asAddr, h2', h3', hr, y6]) rfl ⟨by rw [hv, hb], kY hbel (by omega) _⟩
theorem rnext_go (v : Ver) (w : World) (hp : v.pre.length ≤ 1000000) (hq : v.build.length ≤ 1000000) :
    Calls Tryz.prog 210 #[y6 v] w (NEnd v w) := by
  have cM := fun w' => qR v w' hp hq
  have ep := empty_mk2 v.pre
  obtain ⟨m, hm⟩ : ∃ m, v.may = m := ⟨_, rfl⟩
  rw [hm] at cM
  obtain ⟨a, b, c, p, q⟩ := v
  unfold y6 at cM ⊢
  dsimp only at cM ep hp hq ⊢
  go_enter Tryz.func210, Tryz.ntmps210
  go_wp2_with fail
  refine (cM _).mono ?_
  rintro e w1 ⟨rfl, hb1⟩
  have hz1 := hb1.size
  simp only [zU] at hz1
  have hgB := (hb1.block w.heap.size (by simp only [zU]; omega)).trans ((xA _ _ (by simp only [zU]; omega)).trans (kL w _))
  have hgR := (hb1.block (w.heap.size + 1) (by simp only [zU]; omega)).trans (jW _ _ _ (by simp only [zU]))
  have hbw : Below w.heap.size w w1 := (((Below.refl _ _).alloc (Nat.le_refl _) _).alloc (by simp only [zU]; omega) _).trans (hb1.mono (by simp only [zU]; omega))
  obtain ⟨k0, _⟩ := x3 (j := 0) hgB (by simp)
  obtain ⟨k1, _⟩ := x3 (j := 1) hgB (by simp)
  obtain ⟨k2, _⟩ := x3 (j := 2) hgB (by simp)
  obtain ⟨k3, _⟩ := x3 (j := 3) hgB (by simp)
  simp only [List.getElem_toArray, List.getElem_cons_succ, List.getElem_cons_zero] at k0 k1 k2 k3
  have HGB := Lib.hid hgB
  have HGR := Lib.hid hgR
  clear hgB hgR hb1 cM
  cases m with
  | false =>
    have HV : Hid (yI ⟨a, b, c, p, q⟩ = Ver.zero) := by show _ = _; unfold yI; rw [if_neg (by simp [hm])]
    have HO : Hid (xS ⟨a, b, c, p, q⟩ = false) := by show _ = _; unfold xS; rw [hm]; rfl
    clear hm
    go_wp2_with (refine wpList_store_row rfl 44 _ _ rfl (w.heap.size + 1) Z7 rfl rfl _ _ HGR.out (by kernel_rfl) rfl (xU _ _ _ _ _) ?_)
    exact dP (u := Ver.zero) rfl rfl HGR.out hbw HO.out HV.out
  | true =>
    cases he : p.isEmpty with
    | true =>
      have HG : Hid ((!p.isEmpty && (Ver.mk a b c p q).may) = false) := by show _ = _; rw [he]; rfl
      rw [he] at ep
      clear he hm
      go_wp2
      go_loopw [4] (fun x wr => ∃ k : Nat, k ≤ 3 ∧ x = .int .i64 ((k : Int) - 1) ∧ wr.heap[w.heap.size]? = some (.cells #[.int .i64 a, .int .i64 b, .int .i64 c, .string (mkS p), .string (mkS q)] 44) ∧ wr.heap[w.heap.size + 1]? = some (.cells Z7 44) ∧ Below w.heap.size w wr ∧ Hid (qE ⟨a, b, c, p, q⟩ k = qE ⟨a, b, c, p, q⟩ 3)) (fun x _ => ((intOf x) + 1).toNat)
      case atStart => exact ⟨3, by omega, rfl, HGB.out, HGR.out, hbw, rfl⟩
      case round =>
        obtain ⟨k, hk, rfl, hB, hR, hbel, HR⟩ := hrel
        have hlR := (Array.getElem?_eq_some_iff.1 hR).1
        have HB := Lib.hid hB
        have HR0 := Lib.hid hR
        clear hB hR
        cases k with
        | zero =>
          have HF : Hid (qE ⟨a, b, c, p, q⟩ 3 = (Ver.zero, false)) := HR.out.symm
          go_wp2_with (refine wpList_store_row rfl 44 _ _ rfl (w.heap.size + 1) Z7 rfl rfl _ _ HR0.out (by kernel_rfl) rfl (xU _ _ _ _ _) ?_)
          have hf := wD ⟨a, b, c, p, q⟩ HG.out
          rw [HF.out] at hf
          exact dP (u := Ver.zero) rfl rfl HR0.out hbel hf.2 hf.1
        | succ k =>
          have hk0 : (0 : Int) ≤ k := by omega
          have hke : (((k + 1 : Nat) : Int) - 1) = (k : Int) := by omega
          rw [hke]
          have cB := fun w' => rbump_any ⟨a, b, c, p, q⟩ (k : Int) w' hp hq
          unfold y6 at cB
          dsimp only at cB
          cases hb : y8 ⟨a, b, c, p, q⟩ (k : Int) with
          | true =>
            rw [hb] at cB
            obtain ⟨u, hu⟩ : ∃ u, yD ⟨a, b, c, p, q⟩ (k : Int) = u := ⟨_, rfl⟩
            rw [hu] at cB
            have hfq : qE ⟨a, b, c, p, q⟩ 3 = (u, true) := by rw [← HR.out, qE, hb, hu]; rfl
            have HF := Lib.hid hfq
            clear hfq hb hu hke
            go_wp2_with (first
              | (refine wpList_load_row rfl 44 _ rfl w.heap.size rfl _ _ _ _ HB.out Tryz.underlying44 rfl (by kernel_rfl) ?_)
              | (go_at_call 186; refine (cB _).mono ?_; rintro e w3 ⟨rfl, hb3⟩; have hR3 := Lib.hid ((hb3.block (w.heap.size + 1) hlR).trans HR0.out); have hbw3 := hbel.trans (hb3.mono hbel.size); have hl3 := Nat.lt_of_lt_of_le hlR hb3.size)
              | (refine wpList_store_row rfl 44 _ _ rfl (w.heap.size + 1) (ZP u) rfl rfl _ _ ((xA _ _ hl3).trans hR3.out) (by kernel_rfl) rfl (xU _ _ _ _ _) ?_))
            have hf := wD ⟨a, b, c, p, q⟩ HG.out
            rw [HF.out] at hf
            exact dP (u := u) rfl rfl ((xA _ _ hl3).trans hR3.out) (hbw3.alloc (by omega) _) hf.2 hf.1
          | false =>
            rw [hb] at cB
            obtain ⟨u, hu⟩ : ∃ u, yD ⟨a, b, c, p, q⟩ (k : Int) = u := ⟨_, rfl⟩
            rw [hu] at cB
            have hfq : qE ⟨a, b, c, p, q⟩ k = qE ⟨a, b, c, p, q⟩ 3 := by rw [← HR.out, qE, hb]; rfl
            have HF := Lib.hid hfq
            clear hfq hb hu hke
            go_wp2_with (first
              | (refine wpList_load_row rfl 44 _ rfl w.heap.size rfl _ _ _ _ HB.out Tryz.underlying44 rfl (by kernel_rfl) ?_)
              | (go_at_call 186; refine (cB _).mono ?_; rintro e w3 ⟨rfl, hb3⟩; have hl3 := Nat.lt_of_lt_of_le hlR hb3.size))
            have hR3 := (hb3.block (w.heap.size + 1) hlR).trans HR0.out
            have hB3 := (hb3.block w.heap.size (by omega)).trans HB.out
            have hbw3 := hbel.trans (hb3.mono hbel.size)
            go_roundw
            case rel => exact ⟨k, by omega, rfl, (xA _ _ (by omega)).trans hB3, (xA _ _ hl3).trans hR3, hbw3.alloc (by omega) _, HF.out⟩
            case measure => simp [intOf]; try omega
    | false =>
      have HV : Hid (yI ⟨a, b, c, p, q⟩ = Ver.rel a b c) := by show _ = _; unfold yI; rw [if_pos hm, if_neg (by simp [he])]
      have HO : Hid (xS ⟨a, b, c, p, q⟩ = true) := by show _ = _; unfold xS; rw [hm]; simp [he]
      rw [he] at ep
      clear he hm
      go_wp2_with (refine wpList_store_row rfl 44 _ _ rfl (w.heap.size + 1) #[.int .i64 a, .int .i64 b, .int .i64 c, .string (mkS []), .string (mkS [])] rfl rfl _ _ HGR.out (by kernel_rfl) rfl (xU _ _ _ _ _) ?_)
      exact dP (u := Ver.rel a b c) rfl rfl HGR.out hbw HO.out HV.out
theorem rnext_any (v : Ver) (w : World) (hp : v.pre.length ≤ 1000000) (hq : v.build.length ≤ 1000000) :
    Calls Tryz.prog 210 #[y6 v] w fun e w' => e = .returned (.tuple #[y6 (yI v), .bool (xS v)]) ∧ Below w.heap.size w w' := rnext_go v w hp hq
end
section
theorem core_short {v : Ver} (h : v.short) : (zW v).short := ⟨h.1, by show ([] : List UInt8).length ≤ _; exact Nat.zero_le _⟩
theorem mI (v : Ver) : (yI v).pre = [] ∧ (yI v).build = [] := by
  cases h : v.may with
  | false => unfold yI; rw [h]; exact ⟨rfl, rfl⟩
  | true =>
    rcases next_is h with ⟨h1, h2, _⟩ | ⟨_, a, b, c, e, _⟩
    · unfold xS at h1
      rw [h, h2] at h1
      simp at h1
      unfold yI
      simp [h, h2, h1]
      exact ⟨rfl, rfl⟩
    · rw [e]; exact ⟨rfl, rfl⟩
theorem next_core (v : Ver) : zW (yI v) = yI v := by
  have h := (mI v).2
  generalize yI v = u at h ⊢
  obtain ⟨a, b, c, p, q⟩ := u
  simp only at h; subst h; rfl
theorem next_short (v : Ver) : (yI v).short := ⟨by rw [(mI v).1]; exact Nat.zero_le _, by rw [(mI v).2]; exact Nat.zero_le _⟩
theorem dR (v : Ver) : (gQ v).short := ⟨by show ([] : List UInt8).length ≤ _; exact Nat.zero_le _, by show ([] : List UInt8).length ≤ _; exact Nat.zero_le _⟩
theorem rleast_any (v : Ver) (W : World) : Calls Tryz.prog 97 #[y6 v] W fun e w' => e = .returned (.bool (qD v)) ∧ Below W.heap.size W w' := by
  refine Z2 (n := 16) Tryz.func97 rfl (ZO (Zb (y6 v) (fun b1 => Zv Z5 (ZR (Zv (Zp b1 0) (Zl 0 ⟨b1, (y6 v).cells, 44⟩ (off := 0) (.int .i64 v.maj) ?_))))))
  by_cases h1 : (v.maj : Int) = 0
  · refine Zg h1 (Zv Z4 (Zv (Zp b1 1) (Zl 0 ⟨b1, (y6 v).cells, 44⟩ (off := 1) (.int .i64 v.min) ?_)))
    by_cases h2 : (v.min : Int) = 0
    · refine Zg h2 (Zv Z4 (Zv Z4 (Zv (Zp b1 2) (Zl 0 ⟨b1, (y6 v).cells, 44⟩ (off := 2) (.int .i64 v.pat) ?_))))
      by_cases h3 : (v.pat : Int) = 0
      · exact Zg h3 (Zv Z4 (Zv Z4 (ZN (zC (ZF Z4 Tryz.results97 (fun w hO => ⟨by simp [qD, h1, h2, h3], hO.below⟩))))))
      exact Zh h3 (Zv Z5 (Zv Z5 (ZN (zC (ZF Z5 Tryz.results97 (fun w hO => ⟨by simp [qD, h1, h2, h3], hO.below⟩))))))
    refine Zh h2 (Zv Z5 (Zv Z5 (Zk (Zk (Zk (Zv Z5 (Zv Z5 (ZN (zC (ZF Z5 Tryz.results97 ?_))))))))))
    exact fun w hO => ⟨by simp [qD, h1, h2], hO.below⟩
  refine Zh h1 (Zv Z5 (Zk (Zk (Zk (Zv Z5 (Zv Z5 (Zk (Zk (Zk (Zv Z5 (Zv Z5 ?_)))))))))))
  exact ZN (zC (ZF Z5 Tryz.results97 (fun w hO => ⟨by simp [qD, h1], hO.below⟩)))
theorem rright_any (c : Cu) (W : World) : Calls Tryz.prog 55 #[z8 c] W fun e w' => e = .returned (.bool (x7 c)) ∧ Below W.heap.size W w' := by
  refine Z2 (n := 23) Tryz.func55 rfl (ZO (Zb (z8 c) (fun b1 => Zv Z5 (ZR (Zv (Zp b1 0) (Zl 0 ⟨b1, (z8 c).cells, 78⟩ (off := 0) (.int .i64 c.e) ?_))))))
  by_cases h1 : (c.e : Int) = 0
  · refine Zn (p := (c.e : Int) = 0) true (decide_eq_true (h1)) (Zv Z5 (Zv (Zp b1 6) (Zl 0 ⟨b1, (z8 c).cells, 78⟩ (off := 6) (.bool c.aft) ?_)))
    cases h2 : c.aft with
    | true =>
      refine Zv Z5 (Zv Z5 (Zk (Zk (Zk (Zk (Zv Z5 (Zv Z5 (Zk (Zk (Zk (Zk ?_)))))))))))
      exact Zv Z5 (Zv Z5 (Zv Z5 (ZN (zC (ZF Z5 Tryz.results55 (fun w hO => ⟨by simp [x7, h1, h2], hO.below⟩))))))
    | false =>
      refine Zv Z4 (Zv Z4 (Zv (Zp b1 1) (Zv (Zp b1 4) (Zl 0 ⟨b1, (z8 c).cells, 78⟩ (off := 4) (.string (mkS c.v.pre)) ?_))))
      by_cases h3 : (c.v.pre : List UInt8) = []
      · refine zV Z4 (by kernel_rfl) (yM (a := c.v.pre) (b := ([])) rfl (by kernel_rfl) (by kernel_rfl) (decide_eq_true (h3))) (Zv Z4 (Zv Z4 (Zv (Zp b1 1) (Zl 0 ⟨b1, (z8 c).cells, 78⟩ (off := 1) (.agg (ZP c.v)) (Zc (k := 97) (args := #[.agg (ZP c.v)]) (.bool (qD c.v)) (fun w _ => rleast_any c.v w) ?_)))))
        cases h4 : qD c.v with
        | true =>
          exact Zv Z5 (Zv Z5 (Zv Z5 (Zv Z5 (ZN (zC (ZF Z5 Tryz.results55 (fun w hO => ⟨by simp [x7, h1, h2, h3, h4], hO.below⟩)))))))
        | false =>
          exact Zv Z4 (Zv Z4 (Zv Z4 (Zv Z4 (ZN (zC (ZF Z4 Tryz.results55 (fun w hO => ⟨by simp [x7, h1, h2, h3, h4], hO.below⟩)))))))
      refine zV Z5 (by kernel_rfl) (yM (a := c.v.pre) (b := ([])) rfl (by kernel_rfl) (by kernel_rfl) (decide_eq_false (h3))) (Zv Z5 (Zv Z5 (Zk (Zk (Zk (Zk (Zv Z5 (Zv Z5 (Zv Z5 (zO (zB ?_)))))))))))
      exact zC (ZF Z5 Tryz.results55 (fun w hO => ⟨by simp [x7, h1, h2, h3], hO.below⟩))
  refine Zn (p := (c.e : Int) = 0) false (decide_eq_false (h1)) (Zv Z4 (Zk (Zk (Zk (Zk (Zk (Zk (Zk (Zk (Zk (Zk ?_)))))))))))
  exact Zk (Zk (Zk (Zk (Zk (Zv Z4 (Zv Z4 (ZN (zC (ZF Z4 Tryz.results55 (fun w hO => ⟨by simp [x7, h1], hO.below⟩))))))))))
theorem vF (v : Ver) (W : World) (hv : v.short) : Calls Tryz.prog 142 #[y6 v] W fun e w' => e = .returned (z8 ⟨0, zW v, false⟩) ∧ Below W.heap.size W w' := by
  refine Z2 (n := 6) Tryz.func142 rfl (ZO (Zb (y6 v) (fun b1 => Za (.agg ZE) (fun b2 => ZR (Zl 1 ⟨b1, (y6 v).cells, 44⟩ (off := 0) (y6 v) (Zc (k := 183) (args := #[y6 v]) (y6 (zW v)) (fun w _ => rcore_any v w) (Zv (.agg #[.int .i64 0, .int .i64 ((zW v).maj), .int .i64 ((zW v).min), .int .i64 ((zW v).pat), .string (mkS (zW v).pre), .string (mkS (zW v).build), .bool false]) ?_)))))))
  exact Zs 0 ⟨b2, ZE, 78⟩ (off := 0) (.agg #[.int .i64 0, .int .i64 ((zW v).maj), .int .i64 ((zW v).min), .int .i64 ((zW v).pat), .string (mkS (zW v).pre), .string (mkS (zW v).build), .bool false]) (ZN (zC (ZC 0 ⟨b2, #[.int .i64 0, .int .i64 ((zW v).maj), .int .i64 ((zW v).min), .int .i64 ((zW v).pat), .string (mkS (zW v).pre), .string (mkS (zW v).build), .bool false], 78⟩ (off := 0) (.agg #[.int .i64 0, .int .i64 ((zW v).maj), .int .i64 ((zW v).min), .int .i64 ((zW v).pat), .string (mkS (zW v).pre), .string (mkS (zW v).build), .bool false]) Tryz.results142 (fun w hO => ⟨rfl, hO.below⟩))))
theorem rbehindC_any (v : Ver) (W : World) (hv : v.short) : Calls Tryz.prog 145 #[y6 v] W fun e w' => e = .returned (z8 ⟨0, zW v, true⟩) ∧ Below W.heap.size W w' := by
  refine Z2 (n := 6) Tryz.func145 rfl (ZO (Zb (y6 v) (fun b1 => Za (.agg ZE) (fun b2 => ZR (Zl 1 ⟨b1, (y6 v).cells, 44⟩ (off := 0) (y6 v) (Zc (k := 183) (args := #[y6 v]) (y6 (zW v)) (fun w _ => rcore_any v w) (Zv (.agg #[.int .i64 0, .int .i64 ((zW v).maj), .int .i64 ((zW v).min), .int .i64 ((zW v).pat), .string (mkS (zW v).pre), .string (mkS (zW v).build), .bool true]) ?_)))))))
  exact Zs 0 ⟨b2, ZE, 78⟩ (off := 0) (.agg #[.int .i64 0, .int .i64 ((zW v).maj), .int .i64 ((zW v).min), .int .i64 ((zW v).pat), .string (mkS (zW v).pre), .string (mkS (zW v).build), .bool true]) (ZN (zC (ZC 0 ⟨b2, #[.int .i64 0, .int .i64 ((zW v).maj), .int .i64 ((zW v).min), .int .i64 ((zW v).pat), .string (mkS (zW v).pre), .string (mkS (zW v).build), .bool true], 78⟩ (off := 0) (.agg #[.int .i64 0, .int .i64 ((zW v).maj), .int .i64 ((zW v).min), .int .i64 ((zW v).pat), .string (mkS (zW v).pre), .string (mkS (zW v).build), .bool true]) Tryz.results145 (fun w hO => ⟨rfl, hO.below⟩))))
theorem rahead_any (v : Ver) (W : World) (hv : v.short) : Calls Tryz.prog 185 #[y6 v] W fun e w' => e = .returned (z8 (wR v)) ∧ Below W.heap.size W w' := by
  refine Z2 (n := 14) Tryz.func185 rfl (ZO (Zb (y6 v) (fun b1 => Za (.agg ZE) (fun b2 => ZN (z7 (ZO (Zl 1 ⟨b1, (y6 v).cells, 44⟩ (off := 0) (y6 v) (Zc (k := 97) (args := #[y6 v]) (.bool (qD v)) (fun w _ => rleast_any v w) ?_))))))))
  refine zO (zB ?_)
  cases h1 : qD v with
  | true =>
    exact Zt (ZO (Zc (k := 147) (args := #[]) (z8 (zT (-1))) (fun w _ => u7 w) (Zs 0 ⟨b2, ZE, 78⟩ (off := 0) (z8 (zT (-1))) (ZN (zC (z6 (ZC 0 ⟨b2, (z8 (zT (-1))).cells, 78⟩ (off := 0) (z8 (zT (-1))) Tryz.results185 (fun w hO => ⟨by unfold wR; rw [h1]; rfl, hO.below⟩))))))))
  | false =>
    refine Zf (ZB (ZO (Zv (Zp b1 0) (Zl 1 ⟨b1, (y6 v).cells, 44⟩ (off := 0) (.int .i64 v.maj) (Zv (Zp b1 1) (Zl 1 ⟨b1, (y6 v).cells, 44⟩ (off := 1) (.int .i64 v.min) (Zv (Zp b1 2) (Zl 1 ⟨b1, (y6 v).cells, 44⟩ (off := 2) (.int .i64 v.pat) (Zv (.agg #[.int .i64 v.maj, .int .i64 v.min, .int .i64 v.pat, .string ⟨#[]⟩, .string ⟨#[]⟩]) ?_)))))))))
    exact Zc (k := 142) (args := #[.agg #[.int .i64 v.maj, .int .i64 v.min, .int .i64 v.pat, .string ⟨#[]⟩, .string ⟨#[]⟩]]) (z8 ⟨0, zW (gQ v), false⟩) (fun w _ => vF (gQ v) w (dR v)) (Zs 0 ⟨b2, ZE, 78⟩ (off := 0) (z8 ⟨0, zW (gQ v), false⟩) (ZN (zC (ZC 0 ⟨b2, (z8 ⟨0, zW (gQ v), false⟩).cells, 78⟩ (off := 0) (z8 ⟨0, zW (gQ v), false⟩) Tryz.results185 (fun w hO => ⟨by unfold wR; rw [h1]; rfl, hO.below⟩)))))
theorem rbehind_any (v : Ver) (W : World) (hv : v.short) : Calls Tryz.prog 184 #[y6 v] W fun e w' => e = .returned (z8 (mT v)) ∧ Below W.heap.size W w' := by
  have hnc : zW (yI (gQ v)) = yI (gQ v) := next_core (gQ v)
  have hns : (yI (gQ v)).short := next_short (gQ v)
  refine Z2 (n := 21) Tryz.func184 rfl (ZO (Zb (y6 v) (fun b1 => Za (.agg ZE) (fun b2 => ZR (Zv (Zp b1 0) (Zl 1 ⟨b1, (y6 v).cells, 44⟩ (off := 0) (.int .i64 v.maj) (Zv (Zp b1 1) ?_)))))))
  refine Zl 1 ⟨b1, (y6 v).cells, 44⟩ (off := 1) (.int .i64 v.min) (Zv (Zp b1 2) (Zl 1 ⟨b1, (y6 v).cells, 44⟩ (off := 2) (.int .i64 v.pat) (Zv (.agg #[.int .i64 v.maj, .int .i64 v.min, .int .i64 v.pat, .string ⟨#[]⟩, .string ⟨#[]⟩]) (Zc (k := 210) (args := #[.agg #[.int .i64 v.maj, .int .i64 v.min, .int .i64 v.pat, .string ⟨#[]⟩, .string ⟨#[]⟩]]) (.tuple #[y6 (yI (gQ v)), .bool (xS (gQ v))]) (fun w _ => rnext_any (gQ v) w (dR v).1 (dR v).2) (Zv (.tuple #[y6 (yI (gQ v)), .bool (xS (gQ v))]) (Zv (y6 (yI (gQ v))) (Zv (.bool (xS (gQ v))) (Za (.agg Z7) (fun b3 => Zs 0 ⟨b3, Z7, 44⟩ (off := 0) (y6 (yI (gQ v))) (Zv (.bool (xS (gQ v))) (zO ?_)))))))))))
  refine zB (z7 (ZO (Zv (.bool (xS (gQ v))) ?_)))
  cases h1 : xS (gQ v) with
  | true =>
    refine Zv Z5 (ZX (ZB (ZO (Zl 0 ⟨b3, (y6 (yI (gQ v))).cells, 44⟩ (off := 0) (y6 (yI (gQ v))) (Zc (k := 142) (args := #[y6 (yI (gQ v))]) (z8 ⟨0, zW (yI (gQ v)), false⟩) (fun w _ => vF (yI (gQ v)) w hns) (Zs 1 ⟨b2, ZE, 78⟩ (off := 0) (z8 ⟨0, zW (yI (gQ v)), false⟩) (zO ?_)))))))
    exact zB (zC (ZC 1 ⟨b2, (z8 ⟨0, zW (yI (gQ v)), false⟩).cells, 78⟩ (off := 0) (z8 ⟨0, zW (yI (gQ v)), false⟩) Tryz.results184 (fun w hO => ⟨by unfold mT; rw [h1]; first | rfl | (rw [hnc]; rfl), hO.below⟩)))
  | false =>
    refine Zv Z4 (ZY (ZO (Zc (k := 148) (args := #[]) (z8 (zT 1)) (fun w _ => u6 w) (Zs 1 ⟨b2, ZE, 78⟩ (off := 0) (z8 (zT 1)) (ZN (zC (z6 ?_)))))))
    exact ZC 1 ⟨b2, (z8 (zT 1)).cells, 78⟩ (off := 0) (z8 (zT 1)) Tryz.results184 (fun w hO => ⟨by unfold mT; rw [h1]; first | rfl | (rw [hnc]; rfl), hO.below⟩)
theorem uH (c : Cu) (W : World) (hc : c.v.short) : Calls Tryz.prog 143 #[z8 c] W fun e w' => e = .returned (z8 (xX c)) ∧ Below W.heap.size W w' := by
  refine Z2 (n := 21) Tryz.func143 rfl (ZO (Zb (z8 c) (fun b1 => Za (.agg ZE) (fun b2 => ZN (z7 (ZO (Zv (Zp b1 0) (Zl 1 ⟨b1, (z8 c).cells, 78⟩ (off := 0) (.int .i64 c.e) ?_))))))))
  by_cases h1 : (c.e : Int) = 0
  · refine Zn (p := (c.e : Int) = 0) true (decide_eq_true (h1)) (ZX (ZB (z7 (ZO (Zv (Zp b1 6) (Zl 1 ⟨b1, (z8 c).cells, 78⟩ (off := 6) (.bool c.aft) (Zv (.bool c.aft) ?_)))))))
    cases h2 : c.aft with
    | true =>
      refine Zv (Zp b1 1) (Zv (Zp b1 4) (Zl 1 ⟨b1, (z8 c).cells, 78⟩ (off := 4) (.string (mkS c.v.pre)) ?_))
      by_cases h3 : (c.v.pre : List UInt8) = []
      · refine zV Z4 (by kernel_rfl) (yM (a := c.v.pre) (b := ([])) rfl (by kernel_rfl) (by kernel_rfl) (decide_eq_true (h3))) (Zv Z4 (ZY (ZO (Zv (Zp b1 1) (Zl 1 ⟨b1, (z8 c).cells, 78⟩ (off := 1) (.agg (ZP c.v)) (Zc (k := 184) (args := #[.agg (ZP c.v)]) (z8 (mT c.v)) (fun w _ => rbehind_any c.v w hc) (Zs 0 ⟨b2, ZE, 78⟩ (off := 0) (z8 (mT c.v)) (zO ?_))))))))
        exact zB (zC (z6 (ZC 0 ⟨b2, (z8 (mT c.v)).cells, 78⟩ (off := 0) (z8 (mT c.v)) Tryz.results143 (fun w hO => ⟨by unfold xX; simp [h1, h2, h3], hO.below⟩))))
      refine zV Z5 (by kernel_rfl) (yM (a := c.v.pre) (b := ([])) rfl (by kernel_rfl) (by kernel_rfl) (decide_eq_false (h3))) (Zv Z5 (ZX (ZB (ZO (Zv (Zp b1 1) (Zl 1 ⟨b1, (z8 c).cells, 78⟩ (off := 1) (.agg (ZP c.v)) (Zc (k := 185) (args := #[.agg (ZP c.v)]) (z8 (wR c.v)) (fun w _ => rahead_any c.v w hc) ?_)))))))
      exact Zs 0 ⟨b2, ZE, 78⟩ (off := 0) (z8 (wR c.v)) (ZN (zC (ZC 0 ⟨b2, (z8 (wR c.v)).cells, 78⟩ (off := 0) (z8 (wR c.v)) Tryz.results143 (fun w hO => ⟨by unfold xX; simp [h1, h2, h3], hO.below⟩))))
    | false =>
      refine Zk (Zk (Zk (Zk (Zv Z5 (ZX (ZB (z7 (zA ?_))))))))
      exact Zv (Zp b1 1) (Zl 1 ⟨b1, (z8 c).cells, 78⟩ (off := 1) (.agg (ZP c.v)) (Zc (k := 185) (args := #[.agg (ZP c.v)]) (z8 (wR c.v)) (fun w _ => rahead_any c.v w hc) (Zs 0 ⟨b2, ZE, 78⟩ (off := 0) (z8 (wR c.v)) (ZN (zC (ZC 0 ⟨b2, (z8 (wR c.v)).cells, 78⟩ (off := 0) (z8 (wR c.v)) Tryz.results143 (fun w hO => ⟨by unfold xX; simp [h1, h2], hO.below⟩)))))))
  refine Zn (p := (c.e : Int) = 0) false (decide_eq_false (h1)) (ZY (ZO (Zl 1 ⟨b1, (z8 c).cells, 78⟩ (off := 0) (z8 c) (Zs 0 ⟨b2, ZE, 78⟩ (off := 0) (z8 c) (ZN (zC (z6 ?_)))))))
  exact ZC 0 ⟨b2, (z8 c).cells, 78⟩ (off := 0) (z8 c) Tryz.results143 (fun w hO => ⟨by unfold xX; simp [h1], hO.below⟩)
theorem bR (W : World) : Calls Tryz.prog 34 #[] W fun e w' => e = .returned (.agg ZM) ∧ Below W.heap.size W w' := by
  refine Z2 (n := 2) Tryz.func34 rfl (ZO (Za (.agg ZM) (fun b1 => ZR (Zv (.agg ZM) (Zs 0 ⟨b1, ZM, 31⟩ (off := 0) (.agg ZM) (zO (zB ?_)))))))
  exact zC (ZC 0 ⟨b1, ZM, 31⟩ (off := 0) (.agg ZM) Tryz.results34 (fun w hO => ⟨rfl, hO.below⟩))
end
section
structure SetIn (w : World) (B : Nat) (A A' : Option Addr) (a : St) : Prop where
  rel : Reads yJ w B A a.rel
  pre : Reads yJ w B A' a.pre
  lr : a.rel.length ≤ 100000
  lp : a.pre.length ≤ 100000
  sr : yU a.rel
  sp : yU a.pre
theorem SetIn.on {w w' : World} {B B' : Nat} {A A' : Option Addr} {a : St} (h : SetIn w B A A' a) (hb : Below B w w') (hB : B ≤ B') : SetIn w' B' A A' a := ⟨h.rel.on hb hB, h.pre.on hb hB, h.lr, h.lp, h.sr, h.sp⟩
theorem all_take (p : Sp → Bool) {l : List Sp} {k : Nat} (hk : k < l.length) (h : (l.take k).all p = true) (hs : p l[k] = true) : (l.take (k + 1)).all p = true := by
  rw [List.take_succ_eq_append_getElem hk, List.all_append, h]
  simp [hs]
theorem all_not (p : Sp → Bool) {l : List Sp} {k : Nat} (hk : k < l.length) (hs : p l[k] = false) : l.all p = false := by
  cases h : l.all p with
  | false => rfl
  | true => rw [List.all_eq_true.1 h _ (List.getElem_mem hk)] at hs; cases hs
theorem fM (A B : Option Addr) (c d : Nat) (a : St) (W : World) (hs : SetIn W W.heap.size A B a) : Calls Tryz.prog 29 #[.agg #[.slice A a.rel.length c, .slice B a.pre.length d]] W fun e w' => e = .returned (.bool a.may) ∧ Below W.heap.size W w' := by
  refine Z2 (n := 39) Tryz.func29 rfl (ZO (Zb (.agg #[.slice A a.rel.length c, .slice B a.pre.length d]) (fun b1 => Zv Z5 (ZN (z7 (ZO (Zv (Zp b1 0) (Zl 0 ⟨b1, #[.slice A a.rel.length c, .slice B a.pre.length d], 31⟩ (off := 0) (.slice A a.rel.length c) ?_))))))))
  refine Zc (k := 54) (args := #[.slice A a.rel.length c]) (.bool (zL a.rel)) (fun w hO => gF A c a.rel w (hs.rel.on hO.below hO.below.size) (Nat.le_trans hs.lr (by decide)) hs.sr) ?_
  cases h1 : zL a.rel with
  | true =>
    refine Zv Z5 (Zv Z5 (Zv (Zp b1 1) (Zl 0 ⟨b1, #[.slice A a.rel.length c, .slice B a.pre.length d], 31⟩ (off := 1) (.slice B a.pre.length d) (Zc (k := 54) (args := #[.slice B a.pre.length d]) (.bool (zL a.pre)) (fun w hO => gF B d a.pre w (hs.pre.on hO.below hO.below.size) (Nat.le_trans hs.lp (by decide)) hs.sp) ?_))))
    cases h2 : zL a.pre with
    | true =>
      refine Zv Z5 (Zv Z5 (ZX (ZB (z7 (ZO (Zv (.int .i64 0) (zO ?_)))))))
      refine zB (zM (yN (fun L f m => ∃ (k : Nat) (j : Nat → Value), (k ≤ a.rel.length ∧ (a.rel.take k).all (fun x => x7 x.lo && x7 x.hi) = true) ∧ L = [⟨b1, #[.slice A a.rel.length c, .slice B a.pre.length d], 31⟩] ∧ f = xZ j [(1, Zp b1 0), (3, .int .i64 (k : Int))] ∧ m = a.rel.length - k) (a.rel.length - 0) ⟨0, _, ⟨Nat.zero_le _, by rw [List.take_zero]; rfl⟩, rfl, ZU, rfl⟩ ?_))
      rintro L f m ⟨k, j, hrel, rfl, rfl, rfl⟩
      have hkl := hrel.1; have hln := hs.lr
      refine z7 (ZO (Zv (.int .i64 (k : Int)) (Zv (Zp b1 0) (Zl 0 ⟨b1, #[.slice A a.rel.length c, .slice B a.pre.length d], 31⟩ (off := 0) (.slice A a.rel.length c) (Zv (.int .i64 (a.rel.length : Int)) ?_)))))
      by_cases h3 : (k : Int) < (a.rel.length : Int)
      · have hk : k < a.rel.length := by omega
        obtain ⟨b, off, hA, hlt, hcell⟩ := hs.rel (by omega)
        obtain ⟨s, he⟩ : ∃ s, a.rel[k] = s := ⟨_, rfl⟩
        refine Zg h3 (ZY (ZB (z7 (zM (ZO (Zv (Zp b1 0) (Zl 0 ⟨b1, #[.slice A a.rel.length c, .slice B a.pre.length d], 31⟩ (off := 0) (.slice A a.rel.length c) ?_)))))))
        refine Zv (.int .i64 (k : Int)) (zV (Zp b (off + k * 14)) (by kernel_rfl) (ZA (b := b) (off := off) (c := c) (n := a.rel.length) (k := .i64) (j := (k : Int)) (e := 80) (sz := 14) hA) (Zv (Zp b (off + k * 14 + 0)) (Zo (z8 s.lo) (a := ⟨b, off + k * 14 + 0, none⟩) (fun w hO => zX zY (fun j u h => (hO.below.cell (p := ⟨b, off + j, none⟩) hlt).trans (hcell j u h)) k 0 hk (by omega) _ (by rw [he]; kernel_rfl)) (Zc (k := 55) (args := #[z8 s.lo]) (.bool (x7 s.lo)) (fun w _ => rright_any s.lo w) ?_))))
        cases h4 : x7 s.lo with
        | true =>
          refine Zv Z5 (Zv Z5 (Zv (Zp b1 0) (Zl 0 ⟨b1, #[.slice A a.rel.length c, .slice B a.pre.length d], 31⟩ (off := 0) (.slice A a.rel.length c) (Zv (.int .i64 (k : Int)) (zV (Zp b (off + k * 14)) (by kernel_rfl) (ZA (b := b) (off := off) (c := c) (n := a.rel.length) (k := .i64) (j := (k : Int)) (e := 80) (sz := 14) hA) (Zv (Zp b (off + k * 14 + 7)) (Zo (z8 s.hi) (a := ⟨b, off + k * 14 + 7, none⟩) (fun w hO => zX zY (fun j u h => (hO.below.cell (p := ⟨b, off + j, none⟩) hlt).trans (hcell j u h)) k 7 hk (by omega) _ (by rw [he]; kernel_rfl)) (Zc (k := 55) (args := #[z8 s.hi]) (.bool (x7 s.hi)) (fun w _ => rright_any s.hi w) ?_))))))))
          cases h5 : x7 s.hi with
          | true =>
            refine Zv Z5 (Zv Z5 (ZX (yP (zP (zB (zA (Zv (.int .i64 (k : Int)) (Zu (k := .i64) (((k + 1 : Nat) : Int)) (IntWalk.i64_in _ (by omega)) (Zv (.int .i64 ((k + 1 : Nat) : Int)) ?_)))))))))
            refine zO ?_
            have hnext : (a.rel.take (k + 1)).all (fun x => x7 x.lo && x7 x.hi) = true := all_take _ hk hrel.2 (by simp [he, h1, h2, h3, h4, h5])
            exact zS (m' := a.rel.length - (k + 1)) (by omega) ⟨k + 1, _, ⟨by omega, hnext⟩, rfl, ZU, rfl⟩
          | false =>
            refine Zv Z4 (Zv Z4 (ZY (ZO (Zv Z5 (ZN (zC (zG ?_)))))))
            exact z6 (y5 (zG (z6 (ZF Z5 Tryz.results29 (fun w hO => ⟨by unfold St.may; rw [all_not _ hk (by simp [he, h1, h2, h3, h4, h5])]; simp, hO.below⟩)))))
        | false =>
          refine Zv Z4 (Zv Z4 (Zk (Zk (Zk (Zk (Zk (Zk (Zk (Zk (Zv Z4 (zO ?_)))))))))))
          refine zB (Zt (ZO (Zv Z5 (ZN (zC (zG (z6 (y5 (zG ?_)))))))))
          exact z6 (ZF Z5 Tryz.results29 (fun w hO => ⟨by unfold St.may; rw [all_not _ hk (by simp [he, h1, h2, h3, h4])]; simp, hO.below⟩))
      have hall : a.rel.all (fun x => x7 x.lo && x7 x.hi) = true := by have h := hrel.2; rwa [List.take_of_length_le (by omega)] at h
      refine Zh h3 (ZX (y7 (zF (zN (zJ (zB (ZO (Zv Z4 ?_))))))))
      exact ZN (zC (ZF Z4 Tryz.results29 (fun w hO => ⟨by unfold St.may; simp [hall, h1, h2, h3], hO.below⟩)))
    | false =>
      refine Zv Z4 (Zv Z4 (ZY (ZO (Zv Z5 (ZN (zC (z6 ?_)))))))
      exact ZF Z5 Tryz.results29 (fun w hO => ⟨by unfold St.may; simp [h1, h2], hO.below⟩)
  | false =>
    refine Zv Z4 (Zv Z4 (Zk (Zk (Zk (Zk (Zv Z4 (ZY (z7 (zA ?_)))))))))
    exact Zv Z5 (ZN (zC (z6 (ZF Z5 Tryz.results29 (fun w hO => ⟨by unfold St.may; simp [h1], hO.below⟩)))))
theorem rsetHas_any (A B : Option Addr) (c d : Nat) (a : St) (v : Ver) (W : World) (hs : SetIn W W.heap.size A B a) (hv : v.short) : Calls Tryz.prog 30 #[.agg #[.slice A a.rel.length c, .slice B a.pre.length d], y6 v] W fun e w' => e = .returned (.bool (q9 a v)) ∧ Below W.heap.size W w' := by
  refine Z2 (n := 24) Tryz.func30 rfl (ZO (Zb (.agg #[.slice A a.rel.length c, .slice B a.pre.length d]) (fun b1 => Zb (y6 v) (fun b2 => Zv Z5 (ZN (z7 (ZO (Zl 1 ⟨b1, #[.slice A a.rel.length c, .slice B a.pre.length d], 31⟩ (off := 0) (.agg #[.slice A a.rel.length c, .slice B a.pre.length d]) ?_))))))))
  refine Zc (k := 29) (args := #[.agg #[.slice A a.rel.length c, .slice B a.pre.length d]]) (.bool a.may) (fun w hO => fM A B c d a w (hs.on hO.below hO.size)) ?_
  cases h1 : a.may with
  | true =>
    refine Zv Z5 (Zv Z5 (Zl 0 ⟨b2, (y6 v).cells, 44⟩ (off := 0) (y6 v) (Zc (k := 56) (args := #[y6 v]) (.bool v.may) (fun w _ => qR v w hv.1 hv.2) ?_)))
    cases h2 : v.may with
    | true =>
      refine Zv Z5 (Zv Z5 (ZX (ZB (z7 (ZO (Zv (Zp b2 3) (Zl 0 ⟨b2, (y6 v).cells, 44⟩ (off := 3) (.string (mkS v.pre)) ?_)))))))
      by_cases h3 : (v.pre : List UInt8) = []
      · refine zV Z4 (by kernel_rfl) (yM (a := v.pre) (b := ([])) rfl (by kernel_rfl) (by kernel_rfl) (decide_eq_true (h3))) (ZY (ZO (Zv (Zp b1 0) (Zl 1 ⟨b1, #[.slice A a.rel.length c, .slice B a.pre.length d], 31⟩ (off := 0) (.slice A a.rel.length c) (Zl 0 ⟨b2, (y6 v).cells, 44⟩ (off := 0) (y6 v) (Zc (k := 52) (args := #[.slice A a.rel.length c, y6 v]) (.bool (xN a.rel v)) (fun w hO => rrowHas_any A c a.rel v w (hs.rel.on hO.below hO.below.size) (Nat.le_trans hs.lr (by decide)) hs.sr hv) (Zv (.bool (xN a.rel v)) (zO ?_))))))))
        exact zB (zC (z6 (ZF (.bool (xN a.rel v)) Tryz.results30 (fun w hO => ⟨by simp [q9, h1, h2, h3], hO.below⟩))))
      refine zV Z5 (by kernel_rfl) (yM (a := v.pre) (b := ([])) rfl (by kernel_rfl) (by kernel_rfl) (decide_eq_false (h3))) (ZX (ZB (ZO (Zv (Zp b1 1) (Zl 1 ⟨b1, #[.slice A a.rel.length c, .slice B a.pre.length d], 31⟩ (off := 1) (.slice B a.pre.length d) (Zl 0 ⟨b2, (y6 v).cells, 44⟩ (off := 0) (y6 v) (Zc (k := 52) (args := #[.slice B a.pre.length d, y6 v]) (.bool (xN a.pre v)) (fun w hO => rrowHas_any B d a.pre v w (hs.pre.on hO.below hO.below.size) (Nat.le_trans hs.lp (by decide)) hs.sp hv) ?_)))))))
      exact Zv (.bool (xN a.pre v)) (ZN (zC (ZF (.bool (xN a.pre v)) Tryz.results30 (fun w hO => ⟨by simp [q9, h1, h2, h3], hO.below⟩))))
    | false =>
      refine Zv Z4 (Zv Z4 (ZY (ZO (Zv Z5 (ZN (zC (z6 ?_)))))))
      exact ZF Z5 Tryz.results30 (fun w hO => ⟨by simp [q9, h1, h2], hO.below⟩)
  | false =>
    refine Zv Z4 (Zv Z4 (Zk (Zk (Zk (Zv Z4 (ZY (ZO (Zv Z5 ?_))))))))
    exact ZN (zC (z6 (ZF Z5 Tryz.results30 (fun w hO => ⟨by simp [q9, h1], hO.below⟩))))
theorem pV (A B A' B' : Option Addr) (c d c' d' : Nat) (a b : St) (W : World) (hs : SetIn W W.heap.size A B a) (ht : SetIn W W.heap.size A' B' b) : Calls Tryz.prog 17 #[.agg #[.slice A a.rel.length c, .slice B a.pre.length d], .agg #[.slice A' b.rel.length c', .slice B' b.pre.length d']] W fun e w' => e = .returned (.bool (decide (a.rel = b.rel) && decide (a.pre = b.pre))) ∧ Below W.heap.size W w' := by
  refine Z2 (n := 17) Tryz.func17 rfl (ZO (Zb (.agg #[.slice A a.rel.length c, .slice B a.pre.length d]) (fun b1 => Zb (.agg #[.slice A' b.rel.length c', .slice B' b.pre.length d']) (fun b2 => Zv Z5 (ZR (Zv (Zp b1 0) (Zl 1 ⟨b1, #[.slice A a.rel.length c, .slice B a.pre.length d], 31⟩ (off := 0) (.slice A a.rel.length c) ?_)))))))
  refine Zv (Zp b2 0) (Zl 0 ⟨b2, #[.slice A' b.rel.length c', .slice B' b.pre.length d'], 31⟩ (off := 0) (.slice A' b.rel.length c') (Zc (k := 46) (args := #[.slice A a.rel.length c, .slice A' b.rel.length c']) (.bool (decide (a.rel = b.rel))) (fun w hO => rsame_any A A' c c' a.rel b.rel w (hs.rel.on hO.below hO.size) (ht.rel.on hO.below hO.size) (Nat.le_trans hs.lr (by decide)) (Nat.le_trans ht.lr (by decide))) (Zv (.bool (decide (a.rel = b.rel))) ?_)))
  cases h1 : decide (a.rel = b.rel) with
  | true =>
    exact Zv (Zp b1 1) (Zl 1 ⟨b1, #[.slice A a.rel.length c, .slice B a.pre.length d], 31⟩ (off := 1) (.slice B a.pre.length d) (Zv (Zp b2 1) (Zl 0 ⟨b2, #[.slice A' b.rel.length c', .slice B' b.pre.length d'], 31⟩ (off := 1) (.slice B' b.pre.length d') (Zc (k := 46) (args := #[.slice B a.pre.length d, .slice B' b.pre.length d']) (.bool (decide (a.pre = b.pre))) (fun w hO => rsame_any B B' d d' a.pre b.pre w (hs.pre.on hO.below hO.size) (ht.pre.on hO.below hO.size) (Nat.le_trans hs.lp (by decide)) (Nat.le_trans ht.lp (by decide))) (Zv (.bool (decide (a.pre = b.pre))) (Zv (.bool (decide (a.pre = b.pre))) (ZN (zC (ZF (.bool (decide (a.pre = b.pre))) Tryz.results17 (fun w hO => ⟨by simp [h1], hO.below⟩))))))))))
  | false =>
    exact Zk (Zk (Zk (Zk (Zk (Zv Z5 (Zv Z5 (ZN (zC (ZF Z5 Tryz.results17 (fun w hO => ⟨by simp [h1], hO.below⟩))))))))))
end
section
section
variable {M : List Nat} {P : Program} {n : Nat} {ops : Array Oper} {W : World} {L0 : List Blk} {Q : Exit → Act → World → Prop} {fuel : Nat} {listed : Array Bool} {L : List Blk} {f : Nat → Value}
theorem h_drop (E : List Blk) (h : qH M P n ops W L0 Q fuel listed L0 f) : qH M P n ops W L0 Q fuel listed (E ++ L0) f := ⟨fun w hO => h.go w (Own.sub E hO)⟩
theorem fU {i : Nat} {E E' : List Blk} (p : E.Perm E') (h : jL M P n ops W L0 Q fuel listed i (E' ++ L0) f) : jL M P n ops W L0 Q fuel listed i (E ++ L0) f := ⟨fun w hO => h.go w (hO.perm (p.append_right L0))⟩
end
theorem kK {M : List Nat} {W w : World} {L : List Blk} (h : Own M W w L) : Own M W w [] := h.sublist (List.nil_sublist _)
theorem own_mid {M : List Nat} {W w : World} {x : Blk} {A B L0 : List Blk} (h : Own M W w ((x :: (A ++ (B ++ []))) ++ L0)) : Own M W w (A ++ B) := by
  rw [List.append_nil] at h
  exact h.sublist ((List.sublist_append_left (A ++ B) L0).cons x)
end
section
theorem wX {A : Option Addr} {n c : Nat} {l : List Sp} {ob : List Blk} (h : SlS (.slice A n c) l ob) : l.length ≤ c := by
  rcases h.2 with ⟨h1, h2, _⟩ | ⟨g, c', cur, h1, _, h3, _⟩
  · rw [h2]; exact Nat.zero_le _
  · simp only [Value.slice.injEq] at h1
    rw [h1.2.2]; exact h3
def SetO (v : Value) (a : St) (ob : List Blk) : Prop := ∃ v1 v2 o1 o2, v = .agg #[v1, v2] ∧ ob = o2 ++ o1 ∧ SlS v1 a.rel o1 ∧ SlS v2 a.pre o2
theorem SetO.form {v : Value} {a : St} {ob : List Blk} (h : SetO v a ob) : ∃ A B c d, v = .agg #[.slice A a.rel.length c, .slice B a.pre.length d] := by
  obtain ⟨v1, v2, o1, o2, rfl, _, h1, h2⟩ := h
  obtain ⟨A, c, rfl⟩ := h1.form
  obtain ⟨B, d, rfl⟩ := h2.form
  exact ⟨A, B, c, d, rfl⟩
theorem agg_two {a b c d : Value} (h : (Value.agg #[a, b]) = .agg #[c, d]) : a = c ∧ b = d := by
  injection h with h
  have h2 := congrArg Array.toList h
  simp only [List.cons.injEq, and_true] at h2
  exact h2
theorem SetO.inn {A B : Option Addr} {c d n : Nat} {a : St} {ob L : List Blk} {M : List Nat} {W w : World} (h : SetO (.agg #[.slice A a.rel.length c, .slice B a.pre.length d]) a ob) (hO : Own M W w L) (hob : ∀ x ∈ ob, x ∈ L) (hf : SF a n) (hn : n ≤ 100000) : SetIn w w.heap.size A B a := by
  obtain ⟨v1, v2, o1, o2, e, rfl, h1, h2⟩ := h
  obtain ⟨rfl, rfl⟩ := agg_two e
  exact ⟨Sl.reads h1 rfl hO (fun x hx => hob x (by simp [hx])), Sl.reads h2 rfl hO (fun x hx => hob x (by simp [hx])), Nat.le_trans hf.rel.len hn, Nat.le_trans hf.pre.len hn, hf.rel.short, hf.pre.short⟩
theorem SetO.caps {A B : Option Addr} {c d : Nat} {a : St} {ob : List Blk} (h : SetO (.agg #[.slice A a.rel.length c, .slice B a.pre.length d]) a ob) : a.rel.length ≤ c ∧ a.pre.length ≤ d := by
  obtain ⟨v1, v2, o1, o2, e, rfl, h1, h2⟩ := h
  obtain ⟨rfl, rfl⟩ := agg_two e
  exact ⟨wX h1, wX h2⟩
theorem SetO.none : SetO (.agg ZM) gD [] := ⟨_, _, [], [], rfl, rfl, Sl.nil _ _, Sl.nil _ _⟩
theorem rsetOr_any (A B A' B' : Option Addr) (c d c' d' : Nat) (a b : St) (W : World) (hs : SetIn W W.heap.size A B a) (ht : SetIn W W.heap.size A' B' b) : Calls Tryz.prog 35 #[.agg #[.slice A a.rel.length c, .slice B a.pre.length d], .agg #[.slice A' b.rel.length c', .slice B' b.pre.length d']] W fun e w' => ∃ v' ob', e = .returned v' ∧ SetO v' (if a.may && b.may then orT a b else gD) ob' ∧ Own [] W w' ob' := by
  refine Z2 (n := 25) Tryz.func35 rfl (ZO (Zb (.agg #[.slice A a.rel.length c, .slice B a.pre.length d]) (fun b1 => Zb (.agg #[.slice A' b.rel.length c', .slice B' b.pre.length d']) (fun b2 => Za (.agg ZM) (fun b3 => ZN (z7 (ZO (Zl 2 ⟨b1, #[.slice A a.rel.length c, .slice B a.pre.length d], 31⟩ (off := 0) (.agg #[.slice A a.rel.length c, .slice B a.pre.length d]) ?_))))))))
  refine Zc (k := 29) (args := #[.agg #[.slice A a.rel.length c, .slice B a.pre.length d]]) (.bool a.may) (fun w hO => fM A B c d a w (hs.on hO.below hO.size)) ?_
  cases h1 : a.may with
  | true =>
    refine Zv Z5 (Zv Z5 (Zl 1 ⟨b2, #[.slice A' b.rel.length c', .slice B' b.pre.length d'], 31⟩ (off := 0) (.agg #[.slice A' b.rel.length c', .slice B' b.pre.length d']) (Zc (k := 29) (args := #[.agg #[.slice A' b.rel.length c', .slice B' b.pre.length d']]) (.bool b.may) (fun w hO => fM A' B' c' d' b w (ht.on hO.below hO.size)) ?_)))
    cases h2 : b.may with
    | true =>
      refine Zv Z5 (Zv Z5 (ZX (ZB (z7 (xE [⟨b2, #[.slice A' b.rel.length c', .slice B' b.pre.length d'], 31⟩, ⟨b1, #[.slice A a.rel.length c, .slice B a.pre.length d], 31⟩] (by kernel_rfl) (fun w hO => Own.sub [⟨b3, ZM, 31⟩] hO) (ZT 0 [⟨b3, ZM, 31⟩] _ (Zp b1 0) (zD zH) rfl (ZL 1 [⟨b3, ZM, 31⟩] _ 1 ⟨b1, #[.slice A a.rel.length c, .slice B a.pre.length d], 31⟩ (off := 0) (.slice A a.rel.length c) (zD zH) rfl rfl (ZT 2 [⟨b3, ZM, 31⟩] _ (Zp b2 0) (zD zH) rfl ?_))))))))
      refine ZL 3 [⟨b3, ZM, 31⟩] _ 0 ⟨b2, #[.slice A' b.rel.length c', .slice B' b.pre.length d'], 31⟩ (off := 0) (.slice A' b.rel.length c') (zD zH) rfl rfl (ZT 5 [⟨b3, ZM, 31⟩] _ (Zp b1 1) (zD zH) rfl (ZL 6 [⟨b3, ZM, 31⟩] _ 1 ⟨b1, #[.slice A a.rel.length c, .slice B a.pre.length d], 31⟩ (off := 1) (.slice B a.pre.length d) (zD zH) rfl rfl (ZT 7 [⟨b3, ZM, 31⟩] _ (Zp b2 1) (zD zH) rfl (ZL 8 [⟨b3, ZM, 31⟩] _ 0 ⟨b2, #[.slice A' b.rel.length c', .slice B' b.pre.length d'], 31⟩ (off := 1) (.slice B' b.pre.length d') (zD zH) rfl rfl (Zz 4 (kA _ (k := 58) (args := #[.slice A a.rel.length c, .slice A' b.rel.length c']) (fun v' L' => ∃ ob', L' = ob' ++ ([⟨b3, ZM, 31⟩] ++ ([⟨b2, #[.slice A' b.rel.length c', .slice B' b.pre.length d'], 31⟩, ⟨b1, #[.slice A a.rel.length c, .slice B a.pre.length d], 31⟩])) ∧ SlS v' (orL a.rel b.rel) ob') rfl (by kernel_rfl) (fun _ => by kernel_rfl) (fun w hO => (ror_any A A' c c' a.rel b.rel w (hs.rel.on hO.below hO.size) (ht.rel.on hO.below hO.size) hs.lr ht.lr hs.sr ht.sr).mono fun e w' ⟨v', ob', k1, k2, k3⟩ => ⟨v', _, k1, ⟨ob', rfl, by rw [if_pos (by rw [(St.facts h1).1, (St.facts h2).1]; rfl)] at k2; exact k2⟩, Own.joinN hO k3⟩) (fun v' L' ⟨ob', e, _⟩ w hO => by subst e; exact Own.sub [⟨b3, ZM, 31⟩] (Own.sub ob' hO)) (fun v1 L2 hv2 => ?_)))))))
      obtain ⟨o1, rfl, hr1⟩ := hv2
      obtain ⟨V1, c1, rfl⟩ := hr1.form
      refine gK (L' := (o1 ++ ([⟨b3, ZM, 31⟩] : List Blk)) ++ ([⟨b2, #[.slice A' b.rel.length c', .slice B' b.pre.length d'], 31⟩, ⟨b1, #[.slice A a.rel.length c, .slice B a.pre.length d], 31⟩])) (List.append_assoc _ _ _).symm (Zz 9 (kA _ (k := 58) (args := #[.slice B a.pre.length d, .slice B' b.pre.length d']) (fun v' L' => ∃ ob', L' = ob' ++ ((o1 ++ ([⟨b3, ZM, 31⟩] : List Blk)) ++ ([⟨b2, #[.slice A' b.rel.length c', .slice B' b.pre.length d'], 31⟩, ⟨b1, #[.slice A a.rel.length c, .slice B a.pre.length d], 31⟩])) ∧ SlS v' (orL a.pre b.pre) ob') rfl (by kernel_rfl) (fun _ => by kernel_rfl) (fun w hO => (ror_any B B' d d' a.pre b.pre w (hs.pre.on hO.below hO.size) (ht.pre.on hO.below hO.size) hs.lp ht.lp hs.sp ht.sp).mono fun e w' ⟨v', ob', k1, k2, k3⟩ => ⟨v', _, k1, ⟨ob', rfl, by rw [if_pos (by rw [(St.facts h1).2.1, (St.facts h2).2.1]; rfl)] at k2; exact k2⟩, Own.joinN hO k3⟩) (fun v' L' ⟨ob', e, _⟩ w hO => by subst e; exact Own.sub (o1 ++ ([⟨b3, ZM, 31⟩] : List Blk)) (Own.sub ob' hO)) (fun v2 L2 hv2 => ?_)))
      obtain ⟨o2, rfl, hr2⟩ := hv2
      obtain ⟨V2, c2, rfl⟩ := hr2.form
      exact gK (L' := (o2 ++ (o1 ++ ([⟨b3, ZM, 31⟩] : List Blk))) ++ ([⟨b2, #[.slice A' b.rel.length c', .slice B' b.pre.length d'], 31⟩, ⟨b1, #[.slice A a.rel.length c, .slice B a.pre.length d], 31⟩])) (List.append_assoc _ _ _).symm (ZT 10 (o2 ++ (o1 ++ ([⟨b3, ZM, 31⟩] : List Blk))) _ (.agg #[.slice V1 ((orL a.rel b.rel).length) c1, .slice V2 ((orL a.pre b.pre).length) c2]) (zD zH) rfl (Zz 11 (fU (E' := (⟨b3, ZM, 31⟩ :: (o2 ++ (o1 ++ ([] : List Blk))))) (by simpa [List.append_assoc] using (List.perm_middle (a := ⟨b3, ZM, 31⟩) (l₁ := (o2 ++ (o1 ++ ([] : List Blk)))) (l₂ := []))) (ZS (⟨b3, ZM, 31⟩ :: (o2 ++ (o1 ++ ([] : List Blk)))) _ 0 ⟨b3, ZM, 31⟩ (off := 0) (.agg #[.slice V1 ((orL a.rel b.rel).length) c1, .slice V2 ((orL a.pre b.pre).length) c2]) rfl rfl (ZZ (zB (zC (ZC 0 ⟨b3, #[.slice V1 ((orL a.rel b.rel).length) c1, .slice V2 ((orL a.pre b.pre).length) c2], 31⟩ (off := 0) (.agg #[.slice V1 ((orL a.rel b.rel).length) c1, .slice V2 ((orL a.pre b.pre).length) c2]) Tryz.results35 (fun w hO => ⟨_, _, rfl, by rw [if_pos (by simp [h1, h2])]; exact ⟨_, _, o1, o2, rfl, rfl, hr1, hr2⟩, own_mid hO⟩)))))))))
    | false =>
      refine Zv Z4 (Zv Z4 (ZY (ZO (Zc (k := 34) (args := #[]) (.agg ZM) (fun w _ => bR w) (Zs 0 ⟨b3, ZM, 31⟩ (off := 0) (.agg ZM) (ZN (zC ?_)))))))
      exact z6 (ZC 0 ⟨b3, ZM, 31⟩ (off := 0) (.agg ZM) Tryz.results35 (fun w hO => ⟨_, [], rfl, by rw [if_neg (by simp [h1, h2])]; exact SetO.none, kK hO⟩))
  | false =>
    refine Zv Z4 (Zv Z4 (Zk (Zk (Zk (Zv Z4 (ZY (ZO (Zc (k := 34) (args := #[]) (.agg ZM) (fun w _ => bR w) ?_))))))))
    exact Zs 0 ⟨b3, ZM, 31⟩ (off := 0) (.agg ZM) (ZN (zC (z6 (ZC 0 ⟨b3, ZM, 31⟩ (off := 0) (.agg ZM) Tryz.results35 (fun w hO => ⟨_, [], rfl, by rw [if_neg (by simp [h1])]; exact SetO.none, kK hO⟩)))))
end
section
abbrev ZQ (x : Co) : Array Value := #[.int .i64 x.op, .int .i64 x.parts, .int .i64 x.v.maj, .int .i64 x.v.min, .int .i64 x.v.pat, .string (mkS x.v.pre), .string (mkS x.v.build)]
def coV (c : Co) : Value := .agg #[.int .i64 c.op, .int .i64 c.parts, .int .i64 c.v.maj, .int .i64 c.v.min, .int .i64 c.v.pat, .string (mkS c.v.pre), .string (mkS c.v.build)]
def Co.short (c : Co) : Prop := c.v.short
def toldV (p : Int) (v : Ver) : Ver := ⟨if p < 1 then 0 else v.maj, if p < 2 then 0 else v.min, if p < 3 then 0 else v.pat, if p < 3 then [] else v.pre, []⟩
def genCo (l : List Int) (i : Nat) : Co :=
  ⟨1 + plc (atL l (i + 5)) 9, if 1 + plc (atL l (i + 5)) 9 = 9 then plc (atL l (i + 6)) 3 else 1 + plc (atL l (i + 6)) 3, toldV (if 1 + plc (atL l (i + 5)) 9 = 9 then plc (atL l (i + 6)) 3 else 1 + plc (atL l (i + 6)) 3) (genV l i)⟩
end
section
end
section
theorem rjoin_any (v : Value) (l : List (List UInt8)) (b : UInt8) (w : World) (hv : ReadsT w w.heap.size v l) (hl : (yC b l).length ≤ 1000000000) (hn : l.length ≤ 1000000000) :
    Calls Tryz.prog 127 #[v, .int .u8 b.toNat] w fun e w' => e = .returned (.string (mkS (yC b l))) ∧ Below w.heap.size w w' := by
  have hcv := fun (w : World) (x : Int) => conv1 w x
  obtain ⟨A, cap, rfl, hcell⟩ := hv
  go_enter Tryz.func127, Tryz.ntmps127
  go_wp2
  go_loopw [5, 6] (fun sv iv wr => ∃ (k : Nat), iv = .int .i64 k ∧ k ≤ l.length ∧ sv = .string (mkS (yC b (l.take k))) ∧ Below w.heap.size w wr) (fun _ iv _ => l.length - (intOf iv).toNat)
  case atStart => exact ⟨0, rfl, Nat.zero_le _, rfl, Below.refl _ _⟩
  case round =>
    obtain ⟨k, rfl, hk, rfl, hb⟩ := hrel
    have hsz := hb.size
    by_cases hp : k < l.length
    · obtain ⟨ad, rfl, hlt, hc⟩ := hcell (by omega)
      have hck : wr.cell? (ad.add k) = some (.string (mkS l[k])) := (hb.cell (by rw [fC]; exact hlt)).trans (hc k hp)
      have hln : (yC b (l.take (k + 1))).length ≤ 1000000000 := Nat.le_trans (n8 b l (k + 1)) hl
      have HJ := Lib.hid (joinL_snoc b (l.take k) l[k])
      rw [← take_snocL l k hp] at HJ
      clear hc hcell
      by_cases h0 : k = 0
      · subst h0
        have hx1 : (mkS (yC b [])).size ≤ 0 := by rw [d5]; simp [yC]
        have hx2 : (mkS l[0]).size ≤ 1000000000 := by
          rw [d5]; rw [HJ.out, if_pos List.take_zero] at hln; exact hln
        have hck0 : wr.cell? ad = some (.string (mkS l[0])) := hck
        clear hck
        go_wp2
        go_roundw
        case rel => exact ⟨0 + 1, by go_num, by omega, by rw [HJ.out, if_pos List.take_zero, dV]; rfl, hb⟩
        case measure => simp [intOf]; omega
      · have h0p : 0 < k := by omega
        have hlen : (yC b (l.take k)).length + (l[k].length + 1) ≤ 1000000000 := by
          rw [HJ.out, if_neg (uU l k hp h0p), List.length_append, List.length_cons] at hln; exact hln
        have hx1 : (mkS (yC b (l.take k))).size + ((mkS l[k]).size + 1) ≤ 1000000000 := by rw [d5, d5]; exact hlen
        have hx2 : (one (b.toNat : Int)).size ≤ 1 := Nat.le_refl _
        have hx3 : (mkS (yC b (l.take k)) ++ one (b.toNat : Int)).size ≤ (mkS (yC b (l.take k))).size + 1 := by rw [ByteArray.size_append]; omega
        clear hlen
        have hck2 := fun o => (World.cell?_alloc_lt wr o (ad.add k) (by rw [fC]; omega)).trans hck
        clear hck
        go_wp2
        go_roundw
        case rel => exact ⟨k + 1, by go_num, by omega, by rw [HJ.out, if_neg (uU l k hp h0p), one_mk, dV, dV, List.append_assoc]; rfl, hb.alloc hsz _⟩
        case measure => simp [intOf]; omega
    · obtain rfl : k = l.length := by omega
      go_wp2
      go_ret
      exact ⟨pW (by rw [List.take_length]), hb⟩
end
section
end
section
def SlT (v : Value) (l : List (List UInt8)) (ob : List Blk) : Prop := Sl 9 1 v l.length (qQ l) ob
theorem SlT.form {v : Value} {l : List (List UInt8)} {ob : List Blk} (h : SlT v l ob) : ∃ A cap, v = .slice A l.length cap := by
  rcases h.2 with ⟨h1, h2, _⟩ | ⟨g, cap, cur, h1, _⟩
  · exact ⟨none, 0, by rw [h1, h2]⟩
  · exact ⟨_, _, h1⟩
def pP (x : List UInt8) : List Value := [.string (mkS x)]
theorem bN (x : List UInt8) : (pP x).length = 1 := rfl
theorem w0 : ∀ (l : List (List UInt8)), qQ l = l.flatMap pP
  | [] => rfl
  | x :: l => by
    show Value.string (mkS x) :: qQ l = [Value.string (mkS x)] ++ l.flatMap pP
    rw [w0 l]; rfl
theorem SlT.reads {A : Option Addr} {n cap : Nat} {l : List (List UInt8)} {ob L : List Blk} {M : List Nat} {W w : World} (h : SlT (.slice A n cap) l ob) (hn : l.length = n) (hO : Own M W w L) (hs : ∀ x ∈ ob, x ∈ L) : Reads pP w w.heap.size A l := by
  subst hn
  unfold SlT at h
  rw [w0] at h
  exact Sl.reads h rfl hO hs
theorem SlT.readsT {v : Value} {l : List (List UInt8)} {ob L : List Blk} {M : List Nat} {W w : World} (h : SlT v l ob) (hO : Own M W w L) (hs : ∀ x ∈ ob, x ∈ L) : ReadsT w w.heap.size v l := by
  obtain ⟨A, cap, rfl⟩ := h.form
  refine ⟨A, cap, rfl, fun h0 => ?_⟩
  obtain ⟨b, off, e, hlt, hc⟩ := SlT.reads h rfl hO hs h0
  refine ⟨⟨b, off, none⟩, e, hlt, fun j hj => ?_⟩
  rw [yQ]
  refine hc j _ ?_
  rw [← w0]
  unfold qQ
  rw [List.getElem?_map, List.getElem?_eq_getElem hj]; rfl
theorem slt_lit (l : List (List UInt8)) (b : Nat) (cur : Array Value) (h : cur.toList = qQ l) (hm : l.length ≤ maxLen) : SlT (.slice (some ⟨b, 0, none⟩) l.length l.length) l [⟨b, cur, 9⟩] := by
  have hc : cur.toList.length = l.length := by rw [h, j8]
  refine ⟨by rw [j8]; omega, .inr ⟨b, l.length, cur, rfl, rfl, Nat.le_refl _, hm, by rw [← Array.length_toList, hc]; omega, ?_⟩⟩
  rw [h]
  exact List.take_of_length_le (by rw [j8]; omega)
theorem str_cells (l : List (List UInt8)) : ∀ u ∈ qQ l, u.oneCell' = true := fun u hu => by
  unfold qQ at hu
  obtain ⟨x, _, rfl⟩ := List.mem_map.1 hu; rfl
end
section
theorem run_slhm {P : Program} {ρ : Operand → Value} {o : Oper} {t e : TypeId} {x z y : Operand} {b n c sz : Nat} {k q : IntKind} {j m : Int} (ho : o.op = .slice t x none (some z) (some y)) (hx : ρ x = .slice (some ⟨b, 0, none⟩) n c) (hz : ρ z = .int k j) (hy : ρ y = .int q m)
    (hu : P.underlying t = some (.slice e)) (hs : (P.info? e).map (·.size) = some sz) (h0 : 0 ≤ j) (h1 : j ≤ m) (h2 : m ≤ c) (w : World) : (execOp ρ o).run P w = .ok (.value (.slice (some ⟨b, 0, none⟩) j.toNat m.toNat)) w := by
  cases he : P.info? e with
  | none => rw [he] at hs; cases hs
  | some i =>
    rw [he] at hs
    obtain rfl := Option.some.inj hs
    have h3 : 0 ≤ m := Int.le_trans h0 h1
    unfold execOp
    simp [ho, hx, hz, hy, Instr.sliceAt, Instr.slice, Instr.sliceBounds, Instr.sliceBound, Sem.run_bind, asIntOf, run_underlying hu, h0, h1, h2, h3, sizeOf, typeInfo, he, yQ]
    try (first | omega | (rw [if_pos (by omega)]; simp [yQ]))
theorem yY {P : Program} {ρ : Operand → Value} {o : Oper} {t t' : TypeId} {x y : Operand} {a b : List UInt8} (ho : o.op = .binOp .add t x y t') (hx : ρ x = .string (mkS a)) (hy : ρ y = .string (mkS b)) (hb : a.length + b.length ≤ 4000000000) (w : World) : (execOp ρ o).run P w = .ok (.value (.string (mkS (a ++ b)))) w := by
  unfold execOp
  have h1 : ¬ (9223372036854775807 : Int) < ((mkS a).size : Int) + ((mkS b).size : Int) := by rw [xH, xH]; omega
  simp [ho, hx, hy, Sem.run_bind, eqGuard, binOp, Op.stringOp, dV, h1]
theorem run_min2 {P : Program} {ρ : Operand → Value} {o : Oper} {t t' : TypeId} {x y : Operand} {k q : IntKind} {i j : Int} (ho : o.op = .call { callee := .builtin .min, args := #[x, y], argTypes := #[t, t'] }) (hx : ρ x = .int k i) (hy : ρ y = .int q j) (w : World) : (execOp ρ o).run P w = .ok (.value (.int k (min i j))) w := by
  unfold execOp
  have e : min i j = if j < i then j else i := by split <;> omega
  simp [ho, resolve, invoke, builtin, Builtin.min_, Builtin.min2, hx, hy, e]
section
variable {M : List Nat} {P : Program} {n0 : Nat} {ops : Array Oper} {W : World} {Q : Exit → Act → World → Prop} {rest : List Oper} {o : Oper} {L : List Blk} {f : Nat → Value}
theorem s_appendF {t T : TypeId} {s x : Operand} {i : TypeInfo} {z : Value} {sz : Nat} (hw : xL ops n0 f o = true) (ho : o.op = .call { callee := .builtin .append, args := #[s, x], argTypes := #[t, t] })
    (ht : P.underlying t = some (.slice T)) (hi : P.info? T = some i) (hz : i.zero = some z) (hsz : i.size = sz) (hzs : z.cells.size = sz)
    {b : Addr} {n cap : Nat} {xs : List Value} (hs : ev n0 f s = .slice (some b) n cap) (hxl : xs.length = n * sz) (hxs : ∀ w, Own M W w L → ∀ j u, xs[j]? = some u → w.cell? (b.add j) = some u)
    {a : Addr} {m c : Nat} {news : List Value} (hx : ev n0 f x = .slice (some a) m c) (hl : news.length = m * sz) (hnews : ∀ w, Own M W w L → ∀ j u, news[j]? = some u → w.cell? (a.add j) = some u)
    (hroom : cap < n + m) (h63 : n + m ≤ maxLen) (hbytes : (n + m) * i.bytes ≤ 140737488355328)
    (h : ∀ v' ob', Sl T sz v' (n + m) (xs ++ news) ob' → Seg M P n0 ops W Q rest (ob' ++ L) (upd f o.dst v')) : Seg M P n0 ops W Q (o :: rest) L f :=
  j6 hw fun w hO => by
    subst hsz
    have hsmall : n + m ≤ 9223372036854775807 := by simp only [maxLen] at h63; omega
    have hlen : (xs ++ news).length = (n + m) * i.size := by rw [List.length_append, hxl, hl, Nat.add_mul]
    have hr := run_append_grow (P := P) w t o.type T i z ht hi hz b n cap xs hxl (hxs w hO) a m c news hl (hnews w hO) (by omega) (by omega) (growslice_fits (by omega) hbytes)
    have hge := grownCap_ge w (n + m) cap T
    have hcm := grownCap_le_maxLen w (n + m) cap T h63
    refine vE _ (w' := _) ?_ ((h _ [⟨w.heap.size, xs.toArray ++ news.toArray ++ Builtin.zeroCells z.cells (grownCap w (n + m) cap T - (n + m)), T⟩] ⟨hlen, .inr ⟨w.heap.size, grownCap w (n + m) cap T, _, rfl, rfl, hge, hcm, ?_, ?_⟩⟩).go _ ((tI hO).alloc (xs.toArray ++ news.toArray ++ Builtin.zeroCells z.cells (grownCap w (n + m) cap T - (n + m))) T))
    · unfold execOp
      simp only [ho, resolve, invoke, builtin, Sem.run_bind, Sem.run_pure, Result.andThen_ok, List.map_toArray, List.map_cons, List.map_nil, hs, hx, hr]
    · simp only [Array.size_append, List.size_toArray, size_zeroCells, hzs, hxl, hl, ← Nat.add_mul]
      congr 1
      omega
    · simp only [Array.toList_append, List.append_assoc]
      rw [← List.append_assoc, ← hlen]
      exact List.take_left
end
section
variable {M : List Nat} {P : Program} {n : Nat} {ops : Array Oper} {W : World} {L0 : List Blk} {Q : Exit → Act → World → Prop} {fuel : Nat} {listed : Array Bool} {f : Nat → Value}
end
end
end Go.Proofs.YtkljdpiaghepfaaGreatDoor
