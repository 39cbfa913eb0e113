/-
  What the statement's proof leans on: the ways of walking, mM mathematics, and what the program's functions return; each theorem says on what conditions.
-/
import Derived.Test.YtkljdpiaghepfaaGreatDoorMC3
set_option maxRecDepth 1000000
set_option maxHeartbeats 8000000
set_option linter.unusedVariables false
set_option linter.unusedSimpArgs false
set_option linter.unnecessarySimpa false
namespace Go.Proofs.YtkljdpiaghepfaaGreatDoor
open Go.RowKit

section
structure St where
  rel : List Sp
  pre : List Sp
def St.may (s : St) : Bool := zR s.rel && zR s.pre && s.rel.all fun x => xG x.lo && xG x.hi
structure SF (s : St) (n : Nat) : Prop where
  rel : RF s.rel n
  pre : RF s.pre n
  right : AllRight s.rel
theorem right_all {l : List Sp} : (l.all fun x => xG x.lo && xG x.hi) = true ↔ AllRight l := by
  rw [List.all_eq_true]
  exact ⟨fun h s hs => by simpa using h s hs, fun h s hs => by simpa using h s hs⟩
theorem SF.may {s : St} {n : Nat} (h : SF s n) : s.may = true := by
  unfold St.may
  rw [h.rel.may, h.pre.may, right_all.2 h.right]; rfl
theorem St.facts {s : St} (h : s.may = true) : zR s.rel = true ∧ zR s.pre = true ∧ AllRight s.rel := by
  unfold St.may at h
  rw [Bool.and_eq_true, Bool.and_eq_true, right_all] at h
  exact ⟨h.1.1, h.1.2, h.2⟩
theorem SF.of {s : St} {n : Nat} (h : s.may = true) (h1 : s.rel.length ≤ n) (h2 : s.pre.length ≤ n) : SF s n :=
  ⟨⟨(St.facts h).1, h1⟩, ⟨(St.facts h).2.1, h2⟩, (St.facts h).2.2⟩
def qP (s : St) (v : Ver) : Bool := s.may && v.may && (if v.pre = [] then xY s.rel v else xY s.pre v)
def gH : St := ⟨[], []⟩
def vO : List Sp := [⟨zX (-1), zX 1⟩]
def allT : St := ⟨vO, vO⟩
def orT (a b : St) : St := ⟨orL a.rel b.rel, orL a.pre b.pre⟩
def andT (a b : St) : St := ⟨wP a.rel b.rel, wP a.pre b.pre⟩
def notT (a : St) : St := ⟨vP a.rel, vP a.pre⟩
def minusT (a b : St) : St := andT a (notT b)
def exactT (v : Ver) : St := if v.may then (if v.pre = [] then ⟨oneRel v, []⟩ else ⟨[], onePre v⟩) else gH
theorem St.eq {a b : St} (h1 : a.rel = b.rel) (h2 : a.pre = b.pre) : a = b := by cases a; cases b; simp only at h1 h2; rw [h1, h2]
theorem nil_rf : RF [] 0 := ⟨rfl, Nat.le_refl _⟩
theorem RF.le {l : List Sp} {n m : Nat} (h : RF l n) (hm : n ≤ m) : RF l m := ⟨h.may, Nat.le_trans h.len hm⟩
theorem SF.le {s : St} {n m : Nat} (h : SF s n) (hm : n ≤ m) : SF s m := ⟨h.rel.le hm, h.pre.le hm, h.right⟩
theorem nil_right : AllRight [] := fun s hs => by simp at hs
theorem none_sf : SF gH 0 := ⟨nil_rf, nil_rf, nil_right⟩
theorem whole_rf : RF vO 1 := ⟨by decide, Nat.le_refl _⟩
theorem SF.or {a b : St} {n m : Nat} (ha : SF a n) (hb : SF b m) : SF (orT a b) (2 + 2 * (n + m)) := ⟨ha.rel.or hb.rel, ha.pre.or hb.pre, ha.right.or hb.right⟩
theorem has_may {s : St} {v : Ver} {n : Nat} (hs : SF s n) (hv : v.may = true) : qP s v = if v.pre = [] then xY s.rel v else xY s.pre v := by
  unfold qP; rw [hs.may, hv, Bool.true_and, Bool.true_and]
section
variable {a b : St} {n m : Nat} {v : Ver} (ha : SF a n) (hb : SF b m) (hv : v.may = true)
include ha hb hv
theorem setHas_or : qP (orT a b) v = (qP a v || qP b v) := by
  rw [has_may (ha.or hb) hv, has_may ha hv, has_may hb hv]
  split
  · exact has_or4 ha.rel.may hb.rel.may hv
  · exact has_or4 ha.pre.may hb.pre.may hv
end
theorem whole_den {x : Cu} (hx : x.may = true) (he : zV x (zX 1) < 0) : den vO x = true := by
  show (gE ⟨zX (-1), zX 1⟩ x || false) = true
  rw [Bool.or_false]
  unfold gE
  rw [decide_eq_true (mR hx), decide_eq_true he]; rfl
theorem setHas_none {v : Ver} : qP gH v = false := by
  unfold qP
  have h : xY [] v = false := rfl
  show (_ && (if v.pre = [] then xY [] v else xY [] v)) = false
  rw [h, ite_self, Bool.and_false]
def edgeN (l : List Sp) : List Int := l.flatMap fun s => [s.lo, s.hi].filterMap fun c => if c.e = 0 then some c.v.code else none
theorem not_whole : vP vO = [] := nE _ _ (dG whole_rf.may).1 rfl fun x hx he => by
  rw [(dG whole_rf.may).2 x hx he, whole_den hx he]; rfl
theorem not_nil : vP [] = vO := by rw [← not_whole, not_not4 whole_rf.may]
end
section
structure Co where
  op : Int
  parts : Int
  v : Ver
deriving DecidableEq
def zO (op : Int) : List UInt8 := if op = 1 then [61] else if op = 2 then [33, 61] else if op = 3 then [60] else if op = 4 then [60, 61] else if op = 5 then [62] else if op = 6 then [62, 61] else if op = 7 then [94] else if op = 8 then [126] else []
def Co.may (c : Co) : Bool := decide (1 ≤ c.op ∧ c.op ≤ 9) && c.v.may && decide (c.v.build = []) && (if c.op = 9 then decide (0 ≤ c.parts ∧ c.parts ≤ 2) else decide (1 ≤ c.parts ∧ c.parts ≤ 3)) && decide (3 ≤ c.parts ∨ c.v.pre = []) && decide (0 < c.parts ∨ c.v.maj = 0) && decide (1 < c.parts ∨ c.v.min = 0) && decide (2 < c.parts ∨ c.v.pat = 0)
theorem Co.facts {c : Co} (h : c.may = true) : (1 ≤ c.op ∧ c.op ≤ 9) ∧ c.v.may = true ∧ c.v.build = [] ∧ (c.op = 9 → 0 ≤ c.parts ∧ c.parts ≤ 2) ∧ (¬ c.op = 9 → 1 ≤ c.parts ∧ c.parts ≤ 3) ∧ (3 ≤ c.parts ∨ c.v.pre = []) ∧ (0 < c.parts ∨ c.v.maj = 0) ∧ (1 < c.parts ∨ c.v.min = 0) ∧ (2 < c.parts ∨ c.v.pat = 0) := by
  unfold Co.may at h
  simp only [Bool.and_eq_true, decide_eq_true_eq] at h
  obtain ⟨⟨⟨⟨⟨⟨⟨h1, h2⟩, h3⟩, h4⟩, h5⟩, h6⟩, h7⟩, h8⟩ := h
  refine ⟨h1, h2, h3, fun e => ?_, fun e => ?_, h5, h6, h7, h8⟩
  · rw [if_pos e] at h4; exact of_decide_eq_true h4
  · rw [if_neg e] at h4; exact of_decide_eq_true h4
theorem Co.may_iff {c : Co} : c.may = true ↔ (1 ≤ c.op ∧ c.op ≤ 9) ∧ c.v.may = true ∧ c.v.build = [] ∧ (c.op = 9 → 0 ≤ c.parts ∧ c.parts ≤ 2) ∧ (¬ c.op = 9 → 1 ≤ c.parts ∧ c.parts ≤ 3) ∧ (3 ≤ c.parts ∨ c.v.pre = []) ∧ (0 < c.parts ∨ c.v.maj = 0) ∧ (1 < c.parts ∨ c.v.min = 0) ∧ (2 < c.parts ∨ c.v.pat = 0) := by
  refine ⟨Co.facts, fun ⟨h1, h2, h3, k9, kn, h5, h6, h7, h8⟩ => ?_⟩
  unfold Co.may
  rw [decide_eq_true h1, h2, decide_eq_true h3, decide_eq_true h5, decide_eq_true h6, decide_eq_true h7, decide_eq_true h8]
  by_cases e : c.op = 9
  · rw [if_pos e, decide_eq_true (k9 e)]; rfl
  · rw [if_neg e, decide_eq_true (kn e)]; rfl
def yK (v : Ver) (n : Nat) : List (List UInt8) := [Lib.itoa v.maj, Lib.itoa v.min, Lib.itoa v.pat].take n
def Co.rest (c : Co) : List UInt8 := if c.op = 9 then yG 46 (yK c.v c.parts.toNat ++ [[42]]) else yG 46 (yK c.v c.parts.toNat) ++ mE 45 c.v.pre
def Co.text (c : Co) : List UInt8 := zO c.op ++ c.rest
def Co.print (c : Co) : List UInt8 := if c.may then c.text else []
def zY (s t : List UInt8) : Bool := decide (s.take t.length = t)
def vT (s : List UInt8) : Int × List UInt8 :=
  if zY s [33, 61] then (2, s.drop 2) else if zY s [60, 61] then (4, s.drop 2) else if zY s [62, 61] then (6, s.drop 2) else if zY s [61] then (1, s.drop 1)
  else if zY s [60] then (3, s.drop 1) else if zY s [62] then (5, s.drop 1) else if zY s [94] then (7, s.drop 1) else if zY s [126] then (8, s.drop 1)
  else if s.getLast? = some 42 then (9, s) else (7, s)
def gW (op : Int) (rest : List UInt8) : List (List UInt8) := if op = 9 then (pcs (yH 45 rest).1).dropLast else pcs (yH 45 rest).1
def guessC (op : Int) (rest : List UInt8) : Option Co :=
  if (gW op rest).length ≤ 3 ∧ (gW op rest).all xZ = true then
    some ⟨op, (gW op rest).length, ⟨zS (tg (gW op rest) 0), zS (tg (gW op rest) 1), zS (tg (gW op rest) 2), (yH 45 rest).2.1, []⟩⟩
  else none
def fits (s : List UInt8) (c : Co) : Bool := !decide (c.print = []) && (decide (c.print = s) || decide (c.print = 94 :: s))
def gV (s : List UInt8) : Option Co := (guessC (vT s).1 (vT s).2).filter (fits s)
theorem print_may {c : Co} (h : ¬ c.print = []) : c.may = true := by
  cases hm : c.may with
  | true => rfl
  | false => exact absurd (show c.print = [] by unfold Co.print; rw [hm]; rfl) h
theorem qW {c : Co} (h : c.may = true) : c.print = c.text := by unfold Co.print; rw [h]; rfl
theorem parseC_back {s : List UInt8} {c : Co} (h : gV s = some c) : c.may = true ∧ (c.text = s ∨ c.text = 94 :: s) := by
  unfold gV at h
  obtain ⟨_, h⟩ := Option.filter_eq_some_iff.1 h
  unfold fits at h
  simp only [Bool.and_eq_true, Bool.not_eq_true', decide_eq_false_iff_not, Bool.or_eq_true, decide_eq_true_eq] at h
  have hm := print_may h.1
  rw [qW hm] at h
  exact ⟨hm, h.2⟩
theorem pcs_cons {x y : List UInt8} (h : (46 : UInt8) ∉ x) : pcs (x ++ 46 :: y) = x :: pcs y := by
  unfold pcs
  rw [wJ, nU 46 _ _ h]
  simp
theorem pcs_one {x : List UInt8} (h : (46 : UInt8) ∉ x) : pcs x = [x] := by
  unfold pcs
  rw [wJ, uY 46 _ h]
  simp
theorem pcs_join : ∀ (l : List (List UInt8)), l ≠ [] → (∀ x ∈ l, (46 : UInt8) ∉ x) → pcs (yG 46 l) = l
  | [], h, _ => absurd rfl h
  | [x], _, h => pcs_one (h x (List.mem_singleton.2 rfl))
  | x :: y :: r, _, h => by
    rw [yG, pcs_cons (h x (List.mem_cons_self ..)), pcs_join (y :: r) (by simp) fun z hz => h z (List.mem_cons_of_mem _ hz)]
theorem nums_mem {v : Ver} (hv : v.may = true) {n : Nat} {x : List UInt8} (h : x ∈ yK v n) : ∃ k : Int, yN k = true ∧ x = Lib.itoa k := by
  obtain ⟨h1, h2, h3⟩ := vV hv
  unfold yK at h
  have h := List.mem_of_mem_take h
  simp only [List.mem_cons, List.not_mem_nil, or_false] at h
  rcases h with rfl | rfl | rfl
  · exact ⟨_, h1, rfl⟩
  · exact ⟨_, h2, rfl⟩
  · exact ⟨_, h3, rfl⟩
theorem jX {v : Ver} (hv : v.may = true) {n : Nat} (b : UInt8) (hb : kV b.toNat = false) : ∀ x ∈ yK v n, b ∉ x := fun x hx => by
  obtain ⟨k, hk, rfl⟩ := nums_mem hv hx
  exact dig_free hk b hb
theorem bF (b : UInt8) (hb : b ≠ 46) : ∀ (l : List (List UInt8)), (∀ x ∈ l, b ∉ x) → b ∉ yG 46 l
  | [], _ => by simp [yG]
  | [x], h => h x (List.mem_singleton.2 rfl)
  | x :: y :: r, h => by
    rw [yG]
    simp only [List.mem_append, List.mem_cons, not_or]
    exact ⟨h x (List.mem_cons_self ..), hb, bF b hb (y :: r) fun z hz => h z (List.mem_cons_of_mem _ hz)⟩
theorem vK (v : Ver) {n : Nat} (h : n ≤ 3) : (yK v n).length = n := by
  unfold yK
  rw [List.length_take]
  simp; omega
theorem nums_num {v : Ver} (hv : v.may = true) (n : Nat) : (yK v n).all xZ = true := List.all_eq_true.2 fun x hx => by
  obtain ⟨k, hk, rfl⟩ := nums_mem hv hx
  exact numI_itoa hk
theorem nums_back {v : Ver} (hv : v.may = true) {n : Nat} (h : n ≤ 3) (h0 : 0 < n ∨ v.maj = 0) (h1 : 1 < n ∨ v.min = 0) (h2 : 2 < n ∨ v.pat = 0) : zS (tg (yK v n) 0) = v.maj ∧ zS (tg (yK v n) 1) = v.min ∧ zS (tg (yK v n) 2) = v.pat := by
  obtain ⟨m1, m2, m3⟩ := vV hv
  have e1 := dZ m1
  have e2 := dZ m2
  have e3 := dZ m3
  match n, h with
  | 0, _ => exact ⟨(h0.resolve_left (by decide)).symm, (h1.resolve_left (by decide)).symm, (h2.resolve_left (by decide)).symm⟩
  | 1, _ => exact ⟨e1, (h1.resolve_left (by decide)).symm, (h2.resolve_left (by decide)).symm⟩
  | 2, _ => exact ⟨e1, e2, (h2.resolve_left (by decide)).symm⟩
  | 3, _ => exact ⟨e1, e2, e3⟩
theorem guess_rest {c : Co} (h : c.may = true) : guessC c.op c.rest = some c := by
  obtain ⟨_, hv, hb, h9, hn, hp, k0, k1, k2⟩ := Co.facts h
  obtain ⟨op, parts, v⟩ := c
  simp only at hv hb h9 hn hp k0 k1 k2 ⊢
  have hparts : (parts.toNat : Int) = parts ∧ parts.toNat ≤ 3 := by
    by_cases e : op = 9
    · have := h9 e; omega
    · have := hn e; omega
  have key : gW op (Co.rest ⟨op, parts, v⟩) = yK v parts.toNat ∧ (yH 45 (Co.rest ⟨op, parts, v⟩)).2.1 = v.pre := by
    unfold gW Co.rest
    by_cases e : op = 9
    · rw [if_pos e]
      dsimp only
      rw [if_pos e]
      have f : ∀ b : UInt8, kV b.toNat = false → b ≠ 42 → ∀ x ∈ yK v parts.toNat ++ [[42]], b ∉ x := fun b hb hb2 x hx => by
        rcases List.mem_append.1 hx with hx | hx
        · exact jX hv b hb x hx
        · rw [List.mem_singleton.1 hx]
          intro hm
          exact hb2 (List.mem_singleton.1 hm)
      rw [uY 45 _ (bF 45 (by decide) _ (f 45 (by decide) (by decide)))]
      have hpre : v.pre = [] := hp.resolve_left (by have := h9 e; omega)
      exact ⟨by
        show (pcs (yG 46 (yK v parts.toNat ++ [[42]]))).dropLast = _
        rw [pcs_join _ (by simp) (f 46 (by decide) (by decide)), List.dropLast_concat], hpre.symm⟩
    · rw [if_neg e]
      dsimp only
      rw [if_neg e]
      have hne : yK v parts.toNat ≠ [] := fun h0 => by
        have := vK v hparts.2
        rw [h0] at this
        have := hn e
        simp at *; omega
      rw [cut_tail 45 _ _ (bF 45 (by decide) _ (jX hv 45 (by decide)))]
      exact ⟨pcs_join _ hne (jX hv 46 (by decide)), rfl⟩
  unfold guessC
  rw [key.1, key.2, if_pos ⟨by rw [vK v hparts.2]; exact hparts.2, nums_num hv _⟩]
  obtain ⟨e1, e2, e3⟩ := nums_back hv hparts.2 (by omega) (by omega) (by omega)
  rw [e1, e2, e3, vK v hparts.2, hparts.1]
  obtain ⟨a, b, p, q, r⟩ := v
  simp only at hb
  rw [hb]
theorem itoa_head {k : Int} (h : yN k = true) : ∃ d r, Lib.itoa k = d :: r ∧ kV d.toNat = true := by
  have hm := num_itoa h
  cases e : Lib.itoa k with
  | nil => rw [e] at hm; cases hm
  | cons d r => exact ⟨d, r, rfl, by
      have := dig_mem k.toNat d (by rw [← itoa_nat h, e]; exact List.mem_cons_self)
      exact this⟩
theorem join_head {x : List UInt8} {l : List (List UInt8)} {d : UInt8} {r : List UInt8} (h : x = d :: r) : ∃ r', yG 46 (x :: l) = d :: r' := by
  subst h
  cases l with
  | nil => exact ⟨r, rfl⟩
  | cons y t => exact ⟨_, rfl⟩
theorem dX {c : Co} (h : c.may = true) (hn : ¬ c.op = 9) : ∃ d r, c.rest = d :: r ∧ kV d.toNat = true := by
  obtain ⟨_, hv, _, _, h9, _⟩ := Co.facts h
  obtain ⟨d, r, e, hd⟩ := itoa_head (vV hv).1
  obtain ⟨n, en⟩ : ∃ n, c.parts.toNat = n + 1 := ⟨c.parts.toNat - 1, by have := h9 hn; omega⟩
  obtain ⟨r', e'⟩ := join_head (l := [Lib.itoa c.v.min, Lib.itoa c.v.pat].take n) e
  refine ⟨d, r' ++ mE 45 c.v.pre, ?_, hd⟩
  unfold Co.rest yK
  rw [if_neg hn, en, List.take_succ_cons, e']; rfl
theorem n8 {c : Co} (h : c.may = true) (hn : c.op = 9) : ∃ d r, c.rest = d :: r ∧ (kV d.toNat = true ∨ d = 42) := by
  obtain ⟨_, hv, _, h9, _⟩ := Co.facts h
  obtain ⟨d, r, e, hd⟩ := itoa_head (vV hv).1
  unfold Co.rest yK
  rw [if_pos hn]
  cases hp : c.parts.toNat with
  | zero => exact ⟨42, [], rfl, .inr rfl⟩
  | succ n =>
    obtain ⟨r', e'⟩ := join_head (l := [Lib.itoa c.v.min, Lib.itoa c.v.pat].take n ++ [[42]]) e
    exact ⟨d, r', by rw [List.take_succ_cons, List.cons_append, e'], .inl hd⟩
theorem v8 {d : UInt8} {r : List UInt8} {a : UInt8} {t : List UInt8} (h : d ≠ a) : zY (d :: r) (a :: t) = false := decide_eq_false fun e => by
  rw [List.length_cons, List.take_succ_cons] at e
  injection e with e1 _
  exact h e1
theorem split_plain {d : UInt8} {r : List UInt8} (h : kV d.toNat = true ∨ d = 42) : vT (d :: r) = if (d :: r).getLast? = some 42 then (9, d :: r) else (7, d :: r) := by
  have hd : ∀ a : UInt8, kV a.toNat = false → a ≠ 42 → d ≠ a := fun a ha h42 e => by
    subst e
    rcases h with h | h
    · rw [ha] at h; cases h
    · exact h42 h
  unfold vT
  rw [v8 (hd 33 (by decide) (by decide)), v8 (hd 60 (by decide) (by decide)), v8 (hd 62 (by decide) (by decide)), v8 (hd 61 (by decide) (by decide)), v8 (hd 60 (by decide) (by decide)), v8 (hd 62 (by decide) (by decide)), v8 (hd 94 (by decide) (by decide)), v8 (hd 126 (by decide) (by decide))]
  rfl
theorem split_sign {op : Int} (h1 : 1 ≤ op) (h8 : op ≤ 8) {d : UInt8} {r : List UInt8} (hd : kV d.toNat = true) : vT (zO op ++ d :: r) = (op, d :: r) := by
  have h61 : d ≠ 61 := fun e => by subst e; revert hd; decide
  have hop : op = 1 ∨ op = 2 ∨ op = 3 ∨ op = 4 ∨ op = 5 ∨ op = 6 ∨ op = 7 ∨ op = 8 := by omega
  rcases hop with rfl | rfl | rfl | rfl | rfl | rfl | rfl | rfl <;> simp [zO, vT, zY, h61]
theorem last_join (x : List UInt8) : ∀ (l : List (List UInt8)), (yG 46 (l ++ [x ++ [42]])).getLast? = some 42
  | [] => by simp [yG]
  | [y] => by
    show (y ++ 46 :: (x ++ [42])).getLast? = some 42
    rw [show y ++ 46 :: (x ++ [42]) = (y ++ 46 :: x) ++ [42] from by simp, List.getLast?_concat]
  | y :: z :: r => by
    have := last_join x (z :: r)
    show (y ++ 46 :: yG 46 (z :: r ++ [x ++ [42]])).getLast? = some 42
    rw [List.getLast?_append]
    cases hj : yG 46 (z :: r ++ [x ++ [42]]) with
    | nil => rw [hj] at this; cases this
    | cons a b => rw [hj] at this; rw [List.getLast?_cons_cons, this]; rfl
theorem star_free (s : List UInt8) (h : vC s = true) : (42 : UInt8) ∉ s := by
  intro hm
  unfold vC at h
  rcases splitL_mem 46 s [] 42 hm with e | ⟨x, hx, hc⟩
  · revert e; decide
  · have hne : s.isEmpty = false := by cases s with
      | nil => cases hm
      | cons _ _ => rfl
    rw [hne, Bool.false_or, Bool.and_eq_true] at h
    have := List.all_eq_true.1 h.2 x hx
    unfold gO at this
    rw [Bool.and_eq_true] at this
    have := List.all_eq_true.1 this.2 _ hc
    revert this; decide
theorem rest_star {c : Co} (h : c.may = true) (hn : ¬ c.op = 9) : (42 : UInt8) ∉ c.rest := by
  obtain ⟨_, hv, _⟩ := Co.facts h
  have hl : vC c.v.pre = true := by
    have := may_pre hv
    unfold jU at this
    exact (Bool.and_eq_true_iff.1 this).1
  unfold Co.rest
  rw [if_neg hn]
  intro hm
  rcases List.mem_append.1 hm with hm | hm
  · exact bF 42 (by decide) _ (jX hv 42 (by decide)) hm
  · unfold mE at hm
    split at hm
    · cases hm
    · rcases List.mem_cons.1 hm with e | hm
      · revert e; decide
      · exact star_free _ hl hm
theorem split_text {c : Co} (h : c.may = true) : vT c.text = (c.op, c.rest) := by
  obtain ⟨ho, _⟩ := Co.facts h
  unfold Co.text
  by_cases hn : c.op = 9
  · obtain ⟨d, r, e, hd⟩ := n8 h hn
    have hl : c.rest.getLast? = some 42 := by unfold Co.rest; rw [if_pos hn]; exact last_join [] _
    rw [hn, show zO 9 = [] from rfl, List.nil_append]
    rw [e] at hl ⊢
    rw [split_plain hd, if_pos hl]
  · obtain ⟨d, r, e, hd⟩ := dX h hn
    rw [e]
    exact split_sign ho.1 (by omega) hd
theorem parseC_text {c : Co} (h : c.may = true) : gV c.text = some c := by
  unfold gV
  rw [split_text h, guess_rest h]
  refine Option.filter_eq_some_iff.2 ⟨rfl, ?_⟩
  have hne : ¬ c.text = [] := fun e => by
    unfold Co.text at e
    have e2 := (List.append_eq_nil_iff.1 e).2
    by_cases hn : c.op = 9
    · obtain ⟨d, r, e3, _⟩ := n8 h hn; rw [e3] at e2; cases e2
    · obtain ⟨d, r, e3, _⟩ := dX h hn; rw [e3] at e2; cases e2
  unfold fits
  rw [qW h, decide_eq_false hne, decide_eq_true rfl]; rfl
theorem parseC_caret {c : Co} {s : List UInt8} (h : c.may = true) (hs : c.text = 94 :: s) : gV s = some c := by
  obtain ⟨ho, _⟩ := Co.facts h
  have hop : c.op = 7 ∧ c.rest = s := by
    unfold Co.text at hs
    by_cases hn : c.op = 9
    · obtain ⟨d, r, e, hd⟩ := n8 h hn
      rw [hn, show zO 9 = [] from rfl, List.nil_append, e] at hs
      injection hs with e1 _
      rw [e1] at hd
      exact absurd hd (by decide)
    · have hop : c.op = 1 ∨ c.op = 2 ∨ c.op = 3 ∨ c.op = 4 ∨ c.op = 5 ∨ c.op = 6 ∨ c.op = 7 ∨ c.op = 8 := by omega
      rcases hop with e | e | e | e | e | e | e | e <;> rw [e] at hs <;> simp [zO] at hs
      exact ⟨e, hs⟩
  obtain ⟨d, r, e, hd⟩ := dX h (by omega)
  have h42 : ¬ s.getLast? = some 42 := fun hl => by
    have := List.mem_of_getLast? hl
    rw [← hop.2] at this
    exact rest_star h (by omega) this
  unfold gV
  have hsp : vT s = (7, s) := by
    rw [← hop.2, e, split_plain (.inl hd), if_neg (by rw [← e, hop.2]; exact h42)]
  rw [hsp]
  have hg := guess_rest h
  rw [hop.1, hop.2] at hg
  rw [hg]
  refine Option.filter_eq_some_iff.2 ⟨rfl, ?_⟩
  unfold fits
  rw [qW h, hs, decide_eq_false (by simp), decide_eq_true rfl, Bool.or_true]; rfl
theorem fT (s : List UInt8) (c : Co) : gV s = some c ↔ c.may = true ∧ (c.text = s ∨ c.text = 94 :: s) :=
  ⟨parseC_back, fun ⟨hm, h⟩ => h.elim (fun e => e ▸ parseC_text hm) (fun e => parseC_caret hm e)⟩
end
section
end
section
def kI (v : Ver) : Nat → Cu
  | 0 => if yB v 0 then ⟨0, yI v 0, false⟩ else zX 1
  | k + 1 => if yB v ((k + 1 : Nat) : Int) then ⟨0, yI v ((k + 1 : Nat) : Int), false⟩ else kI v k
def gI (c : Co) : Nat := if 0 < c.v.maj ∨ c.parts = 1 then 0 else if 0 < c.v.min ∨ c.parts = 2 then 1 else 2
def Co.low (c : Co) : Cu := ⟨0, y7 c.v, false⟩
def Co.aft (c : Co) : Cu := if c.parts < 3 ∧ 0 < c.parts then kI c.v (c.parts - 1).toNat else ⟨0, y7 c.v, true⟩
def Co.span (c : Co) : Cu × Cu :=
  if c.op = 1 ∨ c.op = 2 then (c.low, c.aft) else if c.op = 3 then (zX (-1), c.low) else if c.op = 4 then (zX (-1), c.aft) else if c.op = 5 then (c.aft, zX 1) else if c.op = 6 then (c.low, zX 1)
  else if c.op = 7 then (c.low, kI c.v (gI c)) else if c.op = 8 then (c.low, kI c.v (min (c.parts - 1) 1).toNat) else if c.parts = 0 then (zX (-1), zX 1) else (c.low, kI c.v (c.parts - 1).toNat)
def kQ (lo hi : Cu) : List Sp := qG [] lo hi
def Co.region (c : Co) : List Sp := if c.may then (if c.op = 2 then vP (kQ c.span.1 c.span.2) else kQ c.span.1 c.span.2) else []
def Co.zone (c : Co) : List Sp := if c.may && !decide (c.v.pre = []) then [⟨⟨0, { c.v with pre := [48], build := [] }, false⟩, ⟨0, { c.v with pre := [], build := [] }, false⟩⟩] else []
theorem oneRow_may (lo hi : Cu) : zR (kQ lo hi) = true := add_ok rfl (fun t h => by cases h)
theorem before_may {v : Ver} (h : v.may = true) (a : Bool) : (⟨0, y7 v, a⟩ : Cu).may = true := by
  have h2 := mS h
  unfold Cu.may
  rw [if_pos rfl]
  show ((y7 v).may && ([] : List UInt8).isEmpty) = true
  rw [h2]; rfl
theorem bump_rel {v : Ver} {k : Int} (h : yB v k = true) : ∃ a b c, yI v k = Ver.rel a b c := by
  unfold yI
  rw [if_pos h]
  unfold bumpN
  split
  · exact ⟨_, _, _, rfl⟩
  · split
    · exact ⟨_, _, _, rfl⟩
    · exact ⟨_, _, _, rfl⟩
def upN (v : Ver) (k : Nat) : Int := if k = 0 then (v.maj + 1) * 100000000 else if k = 1 then v.maj * 100000000 + (v.min + 1) * 10000 else v.code + 1
theorem turns_lt (c : Co) : gI c < 3 := by
  unfold gI
  split
  · omega
  · split <;> omega
def ordB (op n : Int) : Bool := if op = 1 then decide (n = 0) else if op = 2 then decide (¬ n = 0) else if op = 3 then decide (n < 0) else if op = 4 then decide (n ≤ 0) else if op = 5 then decide (0 < n) else decide (0 ≤ n)
end
section
def wZ (c : Co) (v : Ver) (p : Int) : Bool := (decide (p < 1) || decide (v.maj = c.v.maj)) && (decide (p < 2) || decide (v.min = c.v.min)) && (decide (p < 3) || decide (v.pat = c.v.pat))
def overB (c : Co) (v : Ver) : Bool := if ¬ v.maj = c.v.maj ∨ c.parts = 1 then decide (c.v.maj < v.maj) else if ¬ v.min = c.v.min ∨ c.parts = 2 then decide (c.v.min < v.min) else decide (c.v.pat < v.pat)
def saysN (c : Co) : Int := if 0 < c.v.maj ∨ c.parts = 1 then 1 else if 0 < c.v.min ∨ c.parts = 2 then 2 else 3
def saysB (c : Co) (v : Ver) : Bool :=
  if c.op = 1 ∨ c.op = 9 then wZ c v c.parts else if c.op = 2 then !wZ c v c.parts else if c.op = 3 then !wZ c v c.parts && !overB c v else if c.op = 4 then wZ c v c.parts || !overB c v
  else if c.op = 5 then overB c v else if c.op = 6 then wZ c v c.parts || overB c v else if c.op = 8 then wZ c v (min c.parts 2) && (wZ c v c.parts || overB c v)
  else wZ c v (saysN c) && (wZ c v c.parts || overB c v)
def truncN (v : Ver) (q : Nat) : Int := if q = 1 then v.maj * 100000000 else if q = 2 then v.maj * 100000000 + v.min * 10000 else v.code
end
section
theorem pcs_ne (p : List UInt8) : pcs p ≠ [] := uO 46 p []
def fY (v : Ver) : Ver := { v with pre := [48], build := [] }
def bareV (v : Ver) : Ver := { v with pre := [], build := [] }
theorem least_may {v : Ver} (h : v.may = true) : (fY v).may = true ∧ (bareV v).may = true := by
  obtain ⟨h1, h2, h3⟩ := vV h
  have k : jU [48] = true := by decide
  unfold Ver.may fY bareV
  dsimp only
  rw [h1, h2, h3, k]
  exact ⟨rfl, rfl⟩
theorem zone_row {c : Co} (h : c.may = true) (hp : ¬ c.v.pre = []) : c.zone = [⟨⟨0, fY c.v, false⟩, ⟨0, bareV c.v, false⟩⟩] := by
  unfold Co.zone
  rw [h, decide_eq_false hp]; rfl
theorem zone_sp {v : Ver} (h : v.may = true) : (Sp.mk ⟨0, fY v, false⟩ ⟨0, bareV v, false⟩).may = true := by
  obtain ⟨m1, m2⟩ := least_may h
  refine bC ?_
  have c1 : (⟨0, fY v, false⟩ : Cu).may = true := before_may m1 false
  have c2 : (⟨0, bareV v, false⟩ : Cu).may = true := before_may m2 false
  rw [vM c1 c2]
  have e : kN (fY v) (bareV v) = -1 := by
    rw [fF m1 m2]
    have e1 : (fY v).code = (bareV v).code := rfl
    rw [e1, if_neg (by omega), if_neg (by omega)]; rfl
  show lex (Lib.compareInt 0 0) (lex (kN (fY v) (bareV v)) (Lib.compareInt (b01 false) (b01 false))) < 0
  rw [e]
  decide
theorem zone_may {c : Co} : zR c.zone = true := by
  by_cases h : c.may = true
  · by_cases hp : c.v.pre = []
    · unfold Co.zone; rw [h, decide_eq_true hp]; rfl
    · rw [zone_row h hp]; exact zone_sp (Co.facts h).2.1
  · unfold Co.zone
    rw [Bool.eq_false_iff.2 h]; rfl
def withO (c : Co) (o : Int) : Co := { c with op := o }
end
section
def vQ (sep : List UInt8) : List (List UInt8) → List UInt8
  | [] => []
  | [x] => x
  | x :: y :: l => x ++ sep ++ vQ sep (y :: l)
theorem nM (sep x y : List UInt8) (l : List (List UInt8)) : vQ sep (x :: y :: l) = x ++ sep ++ vQ sep (y :: l) := rfl
theorem joinB_snoc (sep x : List UInt8) : ∀ (l : List (List UInt8)), vQ sep (l ++ [x]) = if l = [] then x else vQ sep l ++ sep ++ x
  | [] => rfl
  | [y] => rfl
  | y :: z :: l => by
    rw [if_neg (by simp)]
    show y ++ sep ++ vQ sep ((z :: l) ++ [x]) = y ++ sep ++ vQ sep (z :: l) ++ sep ++ x
    rw [joinB_snoc sep x (z :: l), if_neg (by simp)]
    simp only [List.append_assoc]
def sumN : List Nat → Nat
  | [] => 0
  | n :: l => n + sumN l
theorem joinB_len (sep : List UInt8) : ∀ (l : List (List UInt8)), (vQ sep l).length = sumN (l.map (·.length)) + (l.length - 1) * sep.length
  | [] => by simp [vQ, sumN]
  | [x] => by simp [vQ, sumN]
  | x :: y :: l => by
    rw [nM, List.length_append, List.length_append, joinB_len sep (y :: l)]
    show x.length + sep.length + (sumN ((y :: l).map (·.length)) + ((y :: l).length - 1) * sep.length) = x.length + sumN ((y :: l).map (·.length)) + ((y :: l).length + 1 - 1) * sep.length
    have e : ((y :: l).length + 1 - 1) * sep.length = ((y :: l).length - 1) * sep.length + sep.length := by
      rw [show (y :: l).length + 1 - 1 = ((y :: l).length - 1) + 1 from by simp, Nat.add_mul, Nat.one_mul]
    omega
def xR (a : List Co) : List UInt8 := vQ [44, 32] (a.map Co.print)
def kH (r : List (List Co)) : List UInt8 := vQ [32, 124, 124, 32] (r.map xR)
def fewA (a : List Co) : Bool := decide (1 ≤ a.length ∧ a.length ≤ 6) && a.all Co.may
def fewR (r : List (List Co)) : Bool := decide (1 ≤ r.length ∧ r.length ≤ 6) && r.all fewA
def rgMay (r : List (List Co)) : Bool := fewR r && decide ((kH r).length ≤ 96)
def fN (r : List (List Co)) : List UInt8 := if rgMay r then kH r else []
theorem fewA.facts {a : List Co} (h : fewA a = true) : (1 ≤ a.length ∧ a.length ≤ 6) ∧ ∀ c ∈ a, c.may = true := by
  unfold fewA at h
  rw [Bool.and_eq_true, decide_eq_true_eq] at h
  exact ⟨h.1, List.all_eq_true.1 h.2⟩
theorem fewR.facts {r : List (List Co)} (h : fewR r = true) : (1 ≤ r.length ∧ r.length ≤ 6) ∧ ∀ a ∈ r, fewA a = true := by
  unfold fewR at h
  rw [Bool.and_eq_true, decide_eq_true_eq] at h
  exact ⟨h.1, List.all_eq_true.1 h.2⟩
theorem rgMay.facts {r : List (List Co)} (h : rgMay r = true) : fewR r = true ∧ (kH r).length ≤ 96 := by
  unfold rgMay at h
  rw [Bool.and_eq_true, decide_eq_true_eq] at h
  exact h
def xI : List UInt8 → List UInt8
  | [] => []
  | c :: l => if c = 32 then xI l else c :: l
def yS (s : List UInt8) : List UInt8 := (xI (xI s).reverse).reverse
def kS : List UInt8 → List UInt8 → List (List UInt8)
  | acc, [] => [acc]
  | acc, [c] => [acc ++ [c]]
  | acc, c :: d :: r => if c = 124 ∧ d = 124 then acc :: kS [] r else kS (acc ++ [c]) (d :: r)
def wN {α β : Type} (f : α → Option β) : List α → Option (List β)
  | [] => some []
  | x :: l => match f x, wN f l with
    | some y, some m => some (y :: m)
    | _, _ => none
theorem allO_cons {α β : Type} {f : α → Option β} {x : α} {l : List α} {y : β} {m : List β} (h1 : f x = some y) (h2 : wN f l = some m) : wN f (x :: l) = some (y :: m) := by
  show (match f x, wN f l with | some y, some m => some (y :: m) | _, _ => none) = _
  rw [h1, h2]
theorem allO_inv {α β : Type} {f : α → Option β} {x : α} {l : List α} {m : List β} (h : wN f (x :: l) = some m) : ∃ y m', m = y :: m' ∧ f x = some y ∧ wN f l = some m' := by
  have h : (match f x, wN f l with | some y, some m => some (y :: m) | _, _ => none) = some m := h
  cases h1 : f x with
  | none => rw [h1] at h; cases h
  | some y =>
    cases h2 : wN f l with
    | none => rw [h1, h2] at h; cases h
    | some m' => rw [h1, h2] at h; injection h with h; exact ⟨y, m', h.symm, rfl, rfl⟩
theorem allO_none {α β : Type} {f : α → Option β} : ∀ {l : List α} {x : α}, x ∈ l → f x = none → wN f l = none
  | y :: l, x, hx, h => by
    show (match f y, wN f l with | some y, some m => some (y :: m) | _, _ => none) = _
    rcases List.mem_cons.1 hx with rfl | hx
    · rw [h]
    · rw [allO_none hx h]; cases f y <;> rfl
theorem wM {α β : Type} {f : α → Option β} : ∀ {l : List α} {m : List β}, wN f l = some m → m.length = l.length
  | [], m, h => by injection h with h; subst h; rfl
  | x :: l, m, h => by
    obtain ⟨y, m', rfl, _, h2⟩ := allO_inv h
    rw [List.length_cons, List.length_cons, wM h2]
theorem allO_app {α β : Type} {f : α → Option β} {b : List α} {n : List β} (hb : wN f b = some n) : ∀ {a : List α} {m : List β}, wN f a = some m → wN f (a ++ b) = some (m ++ n)
  | [], m, h => by injection h with h; subst h; exact hb
  | x :: a, m, h => by
    obtain ⟨y, m', rfl, h1, h2⟩ := allO_inv h
    exact allO_cons h1 (allO_app hb h2)
theorem allO_snoc {α β : Type} {f : α → Option β} {a : List α} {m : List β} {x : α} {y : β} (h : wN f a = some m) (h1 : f x = some y) : wN f (a ++ [x]) = some (m ++ [y]) := allO_app (allO_cons h1 rfl) h
theorem allO_back {α β : Type} {f : α → Option β} : ∀ {l : List α} {m : List β}, wN f l = some m → ∀ y ∈ m, ∃ x ∈ l, f x = some y
  | [], m, h, y, hy => by injection h with h; subst h; cases hy
  | z :: l, m, h, y, hy => by
    obtain ⟨w, m', rfl, h1, h2⟩ := allO_inv h
    rcases List.mem_cons.1 hy with rfl | hy
    · exact ⟨z, List.mem_cons_self .., h1⟩
    · obtain ⟨x, hx, e⟩ := allO_back h2 y hy
      exact ⟨x, List.mem_cons_of_mem _ hx, e⟩
def parseP (s : List UInt8) : Option Co := gV (yS s)
def parseA (s : List UInt8) : Option (List Co) := wN parseP (x4 44 [] s)
def qS (s : List UInt8) : Option (List (List Co)) := wN parseA (kS [] s)
def yE (s : List UInt8) : Option (List (List Co)) := if 96 < s.length then none else (qS s).filter rgMay
def xP (s : List UInt8) : Int := if 96 < s.length then 3 else match qS s with
  | none => 6
  | some r => if fewR r then (if (kH r).length ≤ 96 then 0 else 3) else 6
def blanks (n : Nat) : List UInt8 := List.replicate n 32
theorem altsL_ne : ∀ (s acc : List UInt8), kS acc s ≠ []
  | [], acc => by simp [kS]
  | [c], acc => by simp [kS]
  | c :: d :: r, acc => by
    rw [kS]
    split
    · simp
    · exact altsL_ne (d :: r) _
theorem mW : ∀ (s acc : List UInt8), ∀ x ∈ kS acc s, x.length ≤ acc.length + s.length
  | [], acc, x, hx => by
    have : x = acc := by simpa [kS] using hx
    subst this; simp
  | [c], acc, x, hx => by
    have : x = acc ++ [c] := by simpa [kS] using hx
    subst this; simp
  | c :: d :: r, acc, x, hx => by
    rw [kS] at hx
    split at hx
    · rcases List.mem_cons.1 hx with rfl | hx
      · simp only [List.length_cons]; omega
      · have := mW r [] x hx
        simp only [List.length_cons, List.length_nil] at this ⊢; omega
    · have := mW (d :: r) (acc ++ [c]) x hx
      simp only [List.length_append, List.length_cons, List.length_nil] at this ⊢; omega
theorem m9 : ∀ (s acc : List UInt8), (kS acc s).length ≤ s.length + 1
  | [], acc => by simp [kS]
  | [c], acc => by simp [kS]
  | c :: d :: r, acc => by
    rw [kS]
    split
    · have := m9 r []; simp only [List.length_cons]; omega
    · have := m9 (d :: r) (acc ++ [c]); simp only [List.length_cons] at this ⊢; omega
inductive Two {α β : Type} (R : α → β → Prop) : List α → List β → Prop
  | nil : Two R [] []
  | cons {x : α} {y : β} {l : List α} {m : List β} (h : R x y) (t : Two R l m) : Two R (x :: l) (y :: m)
def SpellC (s : List UInt8) (c : Co) : Prop := ∃ n m, s = blanks n ++ c.text ++ blanks m
def SpellA (s : List UInt8) (a : List Co) : Prop := ∃ ps, s = yG 44 ps ∧ Two SpellC ps a ∧ ps ≠ []
def SpellR (s : List UInt8) (r : List (List Co)) : Prop := ∃ l, s = vQ [124, 124] l ∧ Two SpellA l r ∧ l ≠ []
theorem text_ne {c : Co} (h : c.may = true) : c.text ≠ [] := by
  intro e
  have := (fT c.text c).2 ⟨h, .inl rfl⟩
  rw [e] at this
  revert this
  have : gV [] = none := by decide
  rw [this]; simp
theorem f9 {s : List UInt8} {r : List (List Co)} (h : yE s = some r) : xP s = 0 ∧ rgMay r = true ∧ qS s = some r ∧ s.length ≤ 96 := by
  unfold yE at h
  split at h
  · cases h
  · rename_i hl
    cases hp : qS s with
    | none => rw [hp] at h; cases h
    | some q =>
      rw [hp] at h
      unfold Option.filter at h
      simp only at h
      split at h
      · rename_i hm
        injection h with h
        subst h
        obtain ⟨k1, k2⟩ := rgMay.facts hm
        refine ⟨?_, hm, rfl, by omega⟩
        unfold xP
        rw [if_neg hl, hp]
        simp only
        rw [if_pos k1, if_pos k2]
      · cases h
theorem err_none {s : List UInt8} (h : yE s = none) : xP s = 3 ∨ xP s = 6 := by
  unfold yE at h
  unfold xP
  split at h
  · rename_i hl; rw [if_pos hl]; exact .inl rfl
  · rename_i hl
    rw [if_neg hl]
    cases hp : qS s with
    | none => exact .inr rfl
    | some q =>
      rw [hp] at h
      simp only
      cases h1 : fewR q with
      | false => exact .inr rfl
      | true =>
        rw [if_pos rfl]
        by_cases h2 : (kH q).length ≤ 96
        · exfalso
          have : rgMay q = true := by unfold rgMay; rw [h1, decide_eq_true h2]; rfl
          simp [Option.filter, this] at h
        · rw [if_neg h2]; exact .inl rfl
end
section
theorem nodup_le {α : Type} [DecidableEq α] : ∀ (l m : List α), l.Nodup → (∀ x ∈ l, x ∈ m) → l.length ≤ m.length
  | [], m, _, _ => Nat.zero_le _
  | x :: l, m, hn, hs => by
    have hx := hs x (List.mem_cons_self ..)
    have h1 := List.length_erase_of_mem hx
    have hn2 := List.nodup_cons.1 hn
    have h2 := nodup_le l (m.erase x) hn2.2 fun y hy => (List.mem_erase_of_ne (by rintro rfl; exact hn2.1 hy)).2 (hs y (List.mem_cons_of_mem _ hy))
    have h3 : 0 < m.length := List.length_pos_of_mem hx
    rw [List.length_cons]; omega
def flatC : List Sp → List Cu
  | [] => []
  | s :: l => s.lo :: s.hi :: flatC l
theorem flatC_len : ∀ (l : List Sp), (flatC l).length = 2 * l.length
  | [] => rfl
  | s :: l => by show (flatC l).length + 1 + 1 = 2 * (l.length + 1); rw [flatC_len l]; omega
theorem nO : ∀ {l : List Sp} {x : Cu}, x ∈ flatC l → ∃ s ∈ l, x = s.lo ∨ x = s.hi
  | s :: l, x, h => by
    rcases List.mem_cons.1 h with e | h
    · exact ⟨s, List.mem_cons_self .., .inl e⟩
    · rcases List.mem_cons.1 h with e | h
      · exact ⟨s, List.mem_cons_self .., .inr e⟩
      · obtain ⟨t, ht, e⟩ := nO h
        exact ⟨t, List.mem_cons_of_mem _ ht, e⟩
theorem flatC_nodup : ∀ {l : List Sp}, zR l = true → (flatC l).Nodup
  | [], _ => List.nodup_nil
  | s :: l, h => by
    have hs := kG h
    have hm := yD hs
    have hlt := wQ hs
    have haf := gG h
    have far : ∀ x ∈ flatC l, zV s.hi x < 0 := fun x hx => by
      obtain ⟨t, ht, e⟩ := nO hx
      have tm := xJ (kZ h) t ht
      have t2 := yD tm
      rcases e with rfl | rfl
      · exact haf t ht
      · exact kD hm.2 t2.1 t2.2 (haf t ht) (wQ tm)
    have xm : ∀ x ∈ flatC l, x.may = true := fun x hx => by
      obtain ⟨t, ht, e⟩ := nO hx
      have t2 := yD (xJ (kZ h) t ht)
      rcases e with rfl | rfl
      · exact t2.1
      · exact t2.2
    refine List.nodup_cons.2 ⟨fun hx => ?_, List.nodup_cons.2 ⟨fun hx => ?_, flatC_nodup (kZ h)⟩⟩
    · rcases List.mem_cons.1 hx with e | hx
      · rw [e, gD] at hlt; omega
      · have := kD hm.1 hm.2 (xm _ hx) hlt (far _ hx)
        rw [gD] at this; omega
    · have := far _ hx
      rw [gD] at this; omega
theorem row_half {l : List Sp} {C : List Cu} (h : zR l = true) (hc : ∀ s ∈ l, s.lo ∈ C ∧ s.hi ∈ C) : 2 * l.length ≤ C.length := by
  rw [← flatC_len]
  refine nodup_le _ _ (flatC_nodup h) fun x hx => ?_
  obtain ⟨s, hs, e⟩ := nO hx
  rcases e with rfl | rfl
  · exact (hc s hs).1
  · exact (hc s hs).2
theorem tN {p : Cu → Cu → Bool} {l : List Sp} (hl : ∀ s ∈ l, s.may = true) (h : zR (g9 p [] (g7 l)) = true) : (g9 p [] (g7 l)).length ≤ 1 + l.length := by
  have h1 := row_half h (tO p (· ∈ g7 l) (g7 l) [] (fun c hc => hc) (fun s hs => by simp at hs))
  have h2 := cuts_len hl
  omega
theorem RF.make1 {l : List Sp} {n : Nat} (hl : ∀ s ∈ l, s.may = true) (hn : l.length ≤ n) : RF (jG l) (1 + n) := ⟨(wY hl).1, by
  have := tN (p := inL l) hl (wY hl).1
  unfold jG; omega⟩
theorem RF.or1 {a b : List Sp} {n m : Nat} (ha : RF a n) (hb : RF b m) : RF (orL a b) (1 + (n + m)) := RF.make1 (bT ha.may hb.may) (by rw [List.length_append]; have := ha.len; have := hb.len; omega)
theorem RF.and1 {a b : List Sp} {n m : Nat} (ha : RF a n) (hb : RF b m) : RF (wP a b) (1 + (n + m)) := ⟨(and_ok ha.may hb.may).1, by
  have h1 := tN (p := fun c d => inL a c d && inL b c d) (bT ha.may hb.may) (and_ok ha.may hb.may).1
  have := ha.len; have := hb.len
  rw [List.length_append] at h1
  unfold wP; omega⟩
theorem RF.not1 {a : List Sp} {n : Nat} (ha : RF a n) : RF (vP a) (1 + n) := ⟨(dG ha.may).1, by
  have h1 := tN (p := fun c d => !inL a c d) (xJ ha.may) (dG ha.may).1
  have := ha.len
  unfold vP; omega⟩
theorem RF.rel1 {a : List Sp} {n : Nat} (ha : RF a n) : RF (kB a) (1 + n) := RF.make1 (fW a) (by
  have := List.length_filter_le (fun s : Sp => s.may) (a.map uC)
  rw [List.length_map] at this
  have := ha.len; omega)
theorem SF.or1 {a b : St} {n m : Nat} (ha : SF a n) (hb : SF b m) : SF (orT a b) (1 + (n + m)) := ⟨ha.rel.or1 hb.rel, ha.pre.or1 hb.pre, ha.right.or hb.right⟩
theorem one_r1 (lo hi : Cu) : RF (kQ lo hi) 1 := ⟨oneRow_may lo hi, by have := pA [] lo hi; unfold kQ; simpa using this⟩
theorem j5 (c : Co) : RF c.region 2 := by
  unfold Co.region
  split
  · split
    · exact (one_r1 _ _).not1
    · exact (one_r1 _ _).le (by decide)
  · exact nil_rf.le (by decide)
theorem wT (c : Co) : RF c.zone 1 := ⟨zone_may, by unfold Co.zone; split <;> simp⟩
def x7 (a : List Co) : List Sp := a.foldl (fun l c => wP l c.region) vO
def x5 (a : List Co) : List Sp := a.foldl (fun l c => orL l c.zone) []
def yF (a : List Co) : St := ⟨kB (x7 a), wP (x7 a) (x5 a)⟩
def xQ (r : List (List Co)) : St := r.foldl (fun s a => orT s (yF a)) gH
def yT (r : List (List Co)) : St := if rgMay r then xQ r else gH
theorem mX (a : List Co) (c : Co) : x7 (a ++ [c]) = wP (x7 a) c.region := by unfold x7; rw [List.foldl_append]; rfl
theorem mA (a : List Co) (c : Co) : x5 (a ++ [c]) = orL (x5 a) c.zone := by unfold x5; rw [List.foldl_append]; rfl
theorem pZ (r : List (List Co)) (a : List Co) : xQ (r ++ [a]) = orT (xQ r) (yF a) := by unfold xQ; rw [List.foldl_append]; rfl
theorem dQ {α : Type} {P : List α → Prop} (h0 : P []) (h1 : ∀ l x, P l → P (l ++ [x])) (l : List α) : P l := by
  have : ∀ n (l : List α), l.length = n → P l := by
    intro n
    induction n with
    | zero => intro l hl; rw [List.length_eq_zero_iff.1 hl]; exact h0
    | succ n ih =>
      intro l hl
      have hne : l ≠ [] := by rintro rfl; simp at hl
      rw [← List.dropLast_concat_getLast hne]
      exact h1 _ _ (ih _ (by rw [List.length_dropLast, hl]; rfl))
  exact this _ l rfl
theorem u9 (a : List Co) : RF (x7 a) (1 + 3 * a.length) :=
  dQ (P := fun a => RF (x7 a) (1 + 3 * a.length)) whole_rf (fun l x h => by
    rw [mX, List.length_append]
    exact (h.and1 (j5 x)).le (by simp; omega)) a
theorem bU (a : List Co) : RF (x5 a) (2 * a.length) :=
  dQ (P := fun a => RF (x5 a) (2 * a.length)) nil_rf (fun l x h => by
    rw [mA, List.length_append]
    exact (h.or1 (wT x)).le (by simp; omega)) a
theorem u7 (a : List Co) : SF (yF a) (2 + 5 * a.length) := ⟨(u9 a).rel1.le (by omega), ((u9 a).and1 (bU a)).le (by omega), makeRel_right (xJ (u9 a).may)⟩
theorem orAll_sf {n : Nat} (r : List (List Co)) : (∀ a ∈ r, a.length ≤ n) → SF (xQ r) (r.length * (3 + 5 * n)) :=
  dQ (P := fun r => (∀ a ∈ r, a.length ≤ n) → SF (xQ r) (r.length * (3 + 5 * n))) (fun _ => by rw [List.length_nil, Nat.zero_mul]; exact none_sf) (fun l x h ha => by
    rw [pZ, List.length_append]
    have h1 := h fun a hm => ha a (List.mem_append.2 (.inl hm))
    have h2 := (u7 x).le (m := 2 + 5 * n) (by have := ha x (by simp); omega)
    refine (h1.or1 h2).le ?_
    show _ ≤ (l.length + 1) * (3 + 5 * n)
    rw [Nat.add_mul, Nat.one_mul]; omega) r
theorem orAll_few {r : List (List Co)} (h : fewR r = true) : SF (xQ r) 198 := by
  obtain ⟨h1, h2⟩ := fewR.facts h
  refine (orAll_sf (n := 6) r fun a ha => ((fewA.facts (h2 a ha)).1).2).le ?_
  show r.length * 33 ≤ 198
  omega
theorem tY (r : List (List Co)) : SF (yT r) 198 := by
  unfold yT
  split
  · rename_i h; exact orAll_few (rgMay.facts h).1
  · exact none_sf.le (by decide)
theorem altRel_den (a : List Co) {x : Cu} (hx : x.may = true) (he : zV x (zX 1) < 0) : den (x7 a) x = a.all fun c => den c.region x :=
  dQ (P := fun a => den (x7 a) x = a.all fun c => den c.region x) (whole_den hx he) (fun l c h => by
    rw [mX, (and_ok (u9 l).may (j5 c).may).2 x hx he, h]; simp) a
theorem altZone_den (a : List Co) {x : Cu} (hx : x.may = true) (he : zV x (zX 1) < 0) : den (x5 a) x = a.any fun c => den c.zone x :=
  dQ (P := fun a => den (x5 a) x = a.any fun c => den c.zone x) rfl (fun l c h => by
    rw [mA, (or_ok (bU l).may (wT c).may).2 x hx he, h]; simp) a
theorem altRel_has (a : List Co) {v : Ver} (hv : v.may = true) : xY (x7 a) v = a.all fun c => xY c.region v := by
  rw [jJ (u9 a).may hv, altRel_den a (vG hv) (uU hv)]
  congr 1; funext c; rw [jJ (j5 c).may hv]
theorem altZone_has (a : List Co) {v : Ver} (hv : v.may = true) : xY (x5 a) v = a.any fun c => xY c.zone v := by
  rw [jJ (bU a).may hv, altZone_den a (vG hv) (uU hv)]
  congr 1; funext c; rw [jJ (wT c).may hv]
theorem altSet_has (a : List Co) {v : Ver} (hv : v.may = true) : qP (yF a) v = ((a.all fun c => xY c.region v) && (decide (v.pre = []) || a.any fun c => xY c.zone v)) := by
  rw [has_may (u7 a) hv, ← altRel_has a hv, ← altZone_has a hv]
  by_cases hp : v.pre = []
  · rw [if_pos hp, decide_eq_true hp, Bool.true_or, Bool.and_true]
    exact makeRel_has (u9 a).may hv hp
  · rw [if_neg hp, decide_eq_false hp, Bool.false_or]
    exact has_and4 (u9 a).may (bU a).may hv
theorem orAll_may (r : List (List Co)) : ∃ n, SF (xQ r) n := by
  have : ∃ n, ∀ a ∈ r, a.length ≤ n := by
    induction r with
    | nil => exact ⟨0, fun a h => by simp at h⟩
    | cons a r ih =>
      obtain ⟨n, h⟩ := ih
      refine ⟨a.length + n, fun b hb => ?_⟩
      rcases List.mem_cons.1 hb with rfl | hb
      · omega
      · have := h b hb; omega
  obtain ⟨n, h⟩ := this
  exact ⟨_, orAll_sf r h⟩
theorem orAll_has (r : List (List Co)) {v : Ver} (hv : v.may = true) : qP (xQ r) v = r.any fun a => qP (yF a) v :=
  dQ (P := fun r => qP (xQ r) v = r.any fun a => qP (yF a) v) setHas_none (fun l a h => by
    obtain ⟨n, hl⟩ := orAll_may l
    rw [pZ, setHas_or hl (u7 a) hv, h]; simp) r
theorem rgSet_has {r : List (List Co)} (h : rgMay r = true) {v : Ver} (hv : v.may = true) : qP (yT r) v = r.any fun a => (a.all fun c => xY c.region v) && (decide (v.pre = []) || a.any fun c => xY c.zone v) := by
  unfold yT
  rw [if_pos h, orAll_has r hv]
  congr 1; funext a; exact altSet_has a hv
end
section
end
section
def ordSp (c d : Cu) : Sp := if 0 < zV c d then ⟨d, c⟩ else ⟨c, d⟩
def spG (l : List Int) (i n : Nat) : Sp := ordSp (genC l (i + 12 * n - 11)) (genC l (i + 12 * n - 5))
def spansG (l : List Int) (i : Nat) : Nat → List Sp
  | 0 => []
  | n + 1 => (if (spG l i (n + 1)).may then [spG l i (n + 1)] else []) ++ spansG l i n
structure SpI (l : List Int) (i N n : Nat) (z : Int) (u : Value) (acc : List Sp) (ob : List Blk) : Prop where
  z : z = (n : Int)
  sl : SlS u acc ob
  len : acc.length + n ≤ N
  eq : acc ++ spansG l i n = spansG l i N
end
section
def rowG (l : List Int) (i : Nat) : List Sp := jG (spansG l i (plc (atL l i) (4 + 1 : Nat)).toNat)
end
section
theorem rel_may (a b c : Int) : (Ver.rel a b c).may = (yN a && yN b && yN c) := by
  unfold Ver.may Ver.rel
  have h1 : jU [] = true := by decide
  have h2 : vC [] = true := by decide
  dsimp only
  rw [h1, h2, Bool.and_true, Bool.and_true]
theorem may_nat3 {v : Ver} (h : v.may = true) : (0 ≤ v.maj ∧ v.maj ≤ 9999) ∧ (0 ≤ v.min ∧ v.min ≤ 9999) ∧ (0 ≤ v.pat ∧ v.pat ≤ 9999) := by
  obtain ⟨h1, h2, h3⟩ := vV h
  unfold yN at h1 h2 h3; simp at h1 h2 h3
  exact ⟨h1, h2, h3⟩
theorem up_ok {a : Int} (h : 0 ≤ a ∧ a ≤ 9999) : yN (a + 1) = !(a == 9999) := by
  unfold yN
  by_cases e : a = 9999
  · subst e; decide
  · have : (a == 9999) = false := by simpa using e
    rw [this]; simp; omega
theorem in_ok {a : Int} (h : 0 ≤ a ∧ a ≤ 9999) : yN a = true := by unfold yN; simp; omega
theorem bump_may {v : Ver} (h : v.may = true) (k : Nat) (hk : k < 3) : (bumpN v k).may = yB v k := by
  obtain ⟨h1, h2, h3⟩ := may_nat3 h
  have hz : yN 0 = true := by decide
  match k, hk with
  | 0, _ =>
    show (Ver.rel (v.maj + 1) 0 0).may = _
    rw [rel_may, up_ok h1, hz]
    unfold yB; rw [h, show kA v.maj v.min v.pat ((0 : Nat) : Int).toNat = v.maj from rfl]; simp
  | 1, _ =>
    show (Ver.rel v.maj (v.min + 1) 0).may = _
    rw [rel_may, up_ok h2, hz, in_ok h1]
    unfold yB; rw [h, show kA v.maj v.min v.pat ((1 : Nat) : Int).toNat = v.min from rfl]; simp
  | 2, _ =>
    show (Ver.rel v.maj v.min (v.pat + 1)).may = _
    rw [rel_may, up_ok h3, in_ok h1, in_ok h2]
    unfold yB; rw [h, show kA v.maj v.min v.pat ((2 : Nat) : Int).toNat = v.pat from rfl]; simp
theorem v6 {v u : Ver} {part : Int} {b : Bool} {w wr : World} {tmps : Array Value} {old : Array Value} (h2 : tmps.getD 4 undef = .pointer (some ⟨w.heap.size + 1, 0, none⟩)) (h3 : tmps.getD 5 undef = .bool b)
    (hg : wr.heap[w.heap.size + 1]? = some (.cells old 44)) (hbel : Below w.heap.size w wr) (hb : yB v part = b) (hv : yI v part = u) :
    bodyPost Tryz.prog Tryz.f186 (BEnd v part w) .ret ⟨tmps, []⟩ (wr.setRow (w.heap.size + 1) (ZP u)) := by
  have hrow := setRow_heap wr (w.heap.size + 1) _ (ZP u) _ _ hg
  have hr := run_loadVar_row (P := Tryz.prog) _ (w.heap.size + 1) 44 44 _ _ _ hrow Tryz.underlying44 rfl (by kernel_rfl)
  have h2' : tmps[4]?.getD undef = .pointer (some ⟨w.heap.size + 1, 0, none⟩) := by simpa using h2
  have h3' : tmps[5]?.getD undef = .bool b := by simpa using h3
  refine bodyPost_ret (v := .tuple #[y8 u, .bool b]) (by simp [results, Tryz.results186, asAddr, h2', h3', hr, y8]) rfl ⟨by rw [hv, hb], gB hbel (by omega) _⟩
theorem rbump_go (v : Ver) (part : Int) (w : World) (hp : v.pre.length ≤ 1000000) (hq : v.build.length ≤ 1000000) :
    Calls Tryz.prog 186 #[y8 v, .int .i64 part] w (BEnd v part w) := by
  have cM := fun w' => vF v w' hp hq
  obtain ⟨m, hm⟩ : ∃ m, v.may = m := ⟨_, rfl⟩
  rw [hm] at cM
  obtain ⟨a, b, c, p, q⟩ := v
  unfold y8 at cM ⊢
  dsimp only at cM ⊢
  cases m with
  | false =>
    have HB : Hid (yB ⟨a, b, c, p, q⟩ part = false) := by show _ = _; unfold yB; rw [hm]; rfl
    clear hm
    go_enter Tryz.func186, Tryz.ntmps186
    go_wp2_with fail
    refine (cM _).mono ?_
    rintro e w1 ⟨rfl, hb1⟩
    have hgR := Lib.hid ((hb1.block (w.heap.size + 1) (by simp only [zZ]; omega)).trans (uJ _ _ _ (by simp only [zZ])))
    have hbw : Below w.heap.size w w1 := (((Below.refl _ _).alloc (Nat.le_refl _) _).alloc (by simp only [zZ]; omega) _).trans (hb1.mono (by simp only [zZ]; omega))
    go_wp2_with (refine wpList_store_row rfl 44 _ _ rfl (w.heap.size + 1) Z1 rfl rfl _ _ hgR.out (by kernel_rfl) rfl (kE _ _ _ _ _) ?_)
    exact v6 (u := Ver.zero) rfl rfl hgR.out hbw HB.out (by unfold yI; rw [HB.out]; rfl)
  | true =>
    have HM := Lib.hid hm
    obtain ⟨⟨a0, a9⟩, ⟨b0, b9⟩, ⟨c0, c9⟩⟩ := may_nat3 hm
    dsimp only at a0 a9 b0 b9 c0 c9
    clear hm
    go_enter Tryz.func186, Tryz.ntmps186
    go_wp2_with fail
    refine (cM _).mono ?_
    rintro e w1 ⟨rfl, hb1⟩
    have hz1 := hb1.size
    simp only [zZ] at hz1
    have hgB := (hb1.block w.heap.size (by simp only [zZ]; omega)).trans ((xL _ _ (by simp only [zZ]; omega)).trans (kT w _))
    have hgR := Lib.hid ((hb1.block (w.heap.size + 1) (by simp only [zZ]; omega)).trans (uJ _ _ _ (by simp only [zZ])))
    have hbw : Below w.heap.size w w1 := (((Below.refl _ _).alloc (Nat.le_refl _) _).alloc (by simp only [zZ]; omega) _).trans (hb1.mono (by simp only [zZ]; omega))
    obtain ⟨k0, _⟩ := xC (j := 0) hgB (by simp)
    obtain ⟨k1, _⟩ := xC (j := 1) hgB (by simp)
    obtain ⟨k2, _⟩ := xC (j := 2) hgB (by simp)
    simp only [List.getElem_toArray, List.getElem_cons_succ, List.getElem_cons_zero] at k0 k1 k2
    have hsB : w.heap.size < w1.heap.size := by omega
    clear hgB hb1 cM
    by_cases p0 : part < 0
    · have HB : Hid (yB ⟨a, b, c, p, q⟩ part = false) := by show _ = _; unfold yB; rw [decide_eq_false (by omega)]; simp
      go_wp2_with (refine wpList_store_row rfl 44 _ _ rfl (w.heap.size + 1) Z1 rfl rfl _ _ hgR.out (by kernel_rfl) rfl (kE _ _ _ _ _) ?_)
      exact v6 (u := Ver.zero) rfl rfl hgR.out hbw HB.out (by unfold yI; rw [HB.out]; rfl)
    · by_cases p3 : 2 < part
      · have HB : Hid (yB ⟨a, b, c, p, q⟩ part = false) := by show _ = _; unfold yB; rw [decide_eq_false (by omega)]; simp
        go_wp2_with (refine wpList_store_row rfl 44 _ _ rfl (w.heap.size + 1) Z1 rfl rfl _ _ hgR.out (by kernel_rfl) rfl (kE _ _ _ _ _) ?_)
        exact v6 (u := Ver.zero) rfl rfl hgR.out hbw HB.out (by unfold yI; rw [HB.out]; rfl)
      · have hpart : part = ((0 : Nat) : Int) ∨ part = ((1 : Nat) : Int) ∨ part = ((2 : Nat) : Int) := by omega
        clear p0 p3
        rcases hpart with rfl | rfl | rfl
        · have hmb := bump_may (v := ⟨a, b, c, p, q⟩) HM.out 0 (by omega)
          have cO := fun w' => vF (bumpN ⟨a, b, c, p, q⟩ 0) w' (by show (0 : Nat) ≤ _; omega) (by show (0 : Nat) ≤ _; omega)
          rw [hmb] at cO
          obtain ⟨o, ho⟩ : ∃ o, yB ⟨a, b, c, p, q⟩ ((0 : Nat) : Int) = o := ⟨_, rfl⟩
          have hval : o = true → yI ⟨a, b, c, p, q⟩ ((0 : Nat) : Int) = Ver.rel (a + 1) (0) (0) := fun h => by unfold yI; rw [ho, h]; rfl
          have hval2 : o = false → yI ⟨a, b, c, p, q⟩ ((0 : Nat) : Int) = Ver.zero := fun h => by unfold yI; rw [ho, h]; rfl
          rw [ho] at cO
          have HO := Lib.hid ho
          have HV := Lib.hid hval
          have HV2 := Lib.hid hval2
          clear ho hval hval2 hmb
          rw [show bumpN ⟨a, b, c, p, q⟩ 0 = Ver.rel (a + 1) (0) (0) from rfl] at cO
          unfold y8 Ver.rel at cO
          dsimp only at cO
          go_wp2_with fail
          refine (cO _).mono ?_
          rintro e w2 ⟨rfl, hb2⟩
          have hg2 := Lib.hid ((hb2.block (w.heap.size + 1) (by rw [zZ]; omega)).trans ((xL w1 _ (by omega)).trans hgR.out))
          have hgV := Lib.hid ((hb2.block w1.heap.size (by rw [zZ]; omega)).trans (kT w1 _))
          have hbw2 : Below w.heap.size w w2 := (hbw.alloc (by omega) _).trans (hb2.mono (by rw [zZ]; omega))
          cases o with
          | false =>
            go_wp2_with (refine wpList_store_row rfl 44 _ _ rfl (w.heap.size + 1) Z1 rfl rfl _ _ hg2.out (by kernel_rfl) rfl (kE _ _ _ _ _) ?_)
            exact v6 (u := Ver.zero) rfl rfl hg2.out hbw2 HO.out (HV2.out trivial)
          | true =>
            go_wp2_with (first
              | (refine wpList_load_row rfl 44 _ rfl w1.heap.size rfl _ _ _ _ hgV.out Tryz.underlying44 rfl (by kernel_rfl) ?_)
              | (refine wpList_store_row rfl 44 _ _ rfl (w.heap.size + 1) _ rfl rfl _ _ hg2.out (by kernel_rfl) rfl (kE _ _ _ _ _) ?_))
            exact v6 (u := Ver.rel (a + 1) (0) (0)) rfl rfl hg2.out hbw2 HO.out (HV.out trivial)
        · have hmb := bump_may (v := ⟨a, b, c, p, q⟩) HM.out 1 (by omega)
          have cO := fun w' => vF (bumpN ⟨a, b, c, p, q⟩ 1) w' (by show (0 : Nat) ≤ _; omega) (by show (0 : Nat) ≤ _; omega)
          rw [hmb] at cO
          obtain ⟨o, ho⟩ : ∃ o, yB ⟨a, b, c, p, q⟩ ((1 : Nat) : Int) = o := ⟨_, rfl⟩
          have hval : o = true → yI ⟨a, b, c, p, q⟩ ((1 : Nat) : Int) = Ver.rel (a) (b + 1) (0) := fun h => by unfold yI; rw [ho, h]; rfl
          have hval2 : o = false → yI ⟨a, b, c, p, q⟩ ((1 : Nat) : Int) = Ver.zero := fun h => by unfold yI; rw [ho, h]; rfl
          rw [ho] at cO
          have HO := Lib.hid ho
          have HV := Lib.hid hval
          have HV2 := Lib.hid hval2
          clear ho hval hval2 hmb
          rw [show bumpN ⟨a, b, c, p, q⟩ 1 = Ver.rel (a) (b + 1) (0) from rfl] at cO
          unfold y8 Ver.rel at cO
          dsimp only at cO
          go_wp2_with fail
          refine (cO _).mono ?_
          rintro e w2 ⟨rfl, hb2⟩
          have hg2 := Lib.hid ((hb2.block (w.heap.size + 1) (by rw [zZ]; omega)).trans ((xL w1 _ (by omega)).trans hgR.out))
          have hgV := Lib.hid ((hb2.block w1.heap.size (by rw [zZ]; omega)).trans (kT w1 _))
          have hbw2 : Below w.heap.size w w2 := (hbw.alloc (by omega) _).trans (hb2.mono (by rw [zZ]; omega))
          cases o with
          | false =>
            go_wp2_with (refine wpList_store_row rfl 44 _ _ rfl (w.heap.size + 1) Z1 rfl rfl _ _ hg2.out (by kernel_rfl) rfl (kE _ _ _ _ _) ?_)
            exact v6 (u := Ver.zero) rfl rfl hg2.out hbw2 HO.out (HV2.out trivial)
          | true =>
            go_wp2_with (first
              | (refine wpList_load_row rfl 44 _ rfl w1.heap.size rfl _ _ _ _ hgV.out Tryz.underlying44 rfl (by kernel_rfl) ?_)
              | (refine wpList_store_row rfl 44 _ _ rfl (w.heap.size + 1) _ rfl rfl _ _ hg2.out (by kernel_rfl) rfl (kE _ _ _ _ _) ?_))
            exact v6 (u := Ver.rel (a) (b + 1) (0)) rfl rfl hg2.out hbw2 HO.out (HV.out trivial)
        · have hmb := bump_may (v := ⟨a, b, c, p, q⟩) HM.out 2 (by omega)
          have cO := fun w' => vF (bumpN ⟨a, b, c, p, q⟩ 2) w' (by show (0 : Nat) ≤ _; omega) (by show (0 : Nat) ≤ _; omega)
          rw [hmb] at cO
          obtain ⟨o, ho⟩ : ∃ o, yB ⟨a, b, c, p, q⟩ ((2 : Nat) : Int) = o := ⟨_, rfl⟩
          have hval : o = true → yI ⟨a, b, c, p, q⟩ ((2 : Nat) : Int) = Ver.rel (a) (b) (c + 1) := fun h => by unfold yI; rw [ho, h]; rfl
          have hval2 : o = false → yI ⟨a, b, c, p, q⟩ ((2 : Nat) : Int) = Ver.zero := fun h => by unfold yI; rw [ho, h]; rfl
          rw [ho] at cO
          have HO := Lib.hid ho
          have HV := Lib.hid hval
          have HV2 := Lib.hid hval2
          clear ho hval hval2 hmb
          rw [show bumpN ⟨a, b, c, p, q⟩ 2 = Ver.rel (a) (b) (c + 1) from rfl] at cO
          unfold y8 Ver.rel at cO
          dsimp only at cO
          go_wp2_with fail
          refine (cO _).mono ?_
          rintro e w2 ⟨rfl, hb2⟩
          have hg2 := Lib.hid ((hb2.block (w.heap.size + 1) (by rw [zZ]; omega)).trans ((xL w1 _ (by omega)).trans hgR.out))
          have hgV := Lib.hid ((hb2.block w1.heap.size (by rw [zZ]; omega)).trans (kT w1 _))
          have hbw2 : Below w.heap.size w w2 := (hbw.alloc (by omega) _).trans (hb2.mono (by rw [zZ]; omega))
          cases o with
          | false =>
            go_wp2_with (refine wpList_store_row rfl 44 _ _ rfl (w.heap.size + 1) Z1 rfl rfl _ _ hg2.out (by kernel_rfl) rfl (kE _ _ _ _ _) ?_)
            exact v6 (u := Ver.zero) rfl rfl hg2.out hbw2 HO.out (HV2.out trivial)
          | true =>
            go_wp2_with (first
              | (refine wpList_load_row rfl 44 _ rfl w1.heap.size rfl _ _ _ _ hgV.out Tryz.underlying44 rfl (by kernel_rfl) ?_)
              | (refine wpList_store_row rfl 44 _ _ rfl (w.heap.size + 1) _ rfl rfl _ _ hg2.out (by kernel_rfl) rfl (kE _ _ _ _ _) ?_))
            exact v6 (u := Ver.rel (a) (b) (c + 1)) rfl rfl hg2.out hbw2 HO.out (HV.out trivial)
theorem rbump_any (v : Ver) (part : Int) (w : World) (hp : v.pre.length ≤ 1000000) (hq : v.build.length ≤ 1000000) :
    Calls Tryz.prog 186 #[y8 v, .int .i64 part] w fun e w' => e = .returned (.tuple #[y8 (yI v part), .bool (yB v part)]) ∧ Below w.heap.size w w' := rbump_go v part w hp hq
theorem fM {v u : Ver} {b : Bool} {w wr : World} {tmps : Array Value} {old : Array Value} (h2 : tmps.getD 2 undef = .pointer (some ⟨w.heap.size + 1, 0, none⟩)) (h3 : tmps.getD 3 undef = .bool b)
    (hg : wr.heap[w.heap.size + 1]? = some (.cells old 44)) (hbel : Below w.heap.size w wr) (hb : kC v = b) (hv : yO v = u) :
    bodyPost Tryz.prog Tryz.f210 (NEnd v w) .ret ⟨tmps, []⟩ (wr.setRow (w.heap.size + 1) (ZP u)) := by
  have hrow := setRow_heap wr (w.heap.size + 1) _ (ZP u) _ _ hg
  have hr := run_loadVar_row (P := Tryz.prog) _ (w.heap.size + 1) 44 44 _ _ _ hrow Tryz.underlying44 rfl (by kernel_rfl)
  have h2' : tmps[2]?.getD undef = .pointer (some ⟨w.heap.size + 1, 0, none⟩) := by simpa using h2
  have h3' : tmps[3]?.getD undef = .bool b := by simpa using h3
  refine bodyPost_ret (v := .tuple #[y8 u, .bool b]) (by simp [results, Tryz.results210, asAddr, h2', h3', hr, y8]) rfl ⟨by rw [hv, hb], gB hbel (by omega) _⟩
theorem rnext_go (v : Ver) (w : World) (hp : v.pre.length ≤ 1000000) (hq : v.build.length ≤ 1000000) :
    Calls Tryz.prog 210 #[y8 v] w (NEnd v w) := by
  have cM := fun w' => vF v w' hp hq
  have ep := empty_mk2 v.pre
  obtain ⟨m, hm⟩ : ∃ m, v.may = m := ⟨_, rfl⟩
  rw [hm] at cM
  obtain ⟨a, b, c, p, q⟩ := v
  unfold y8 at cM ⊢
  dsimp only at cM ep hp hq ⊢
  go_enter Tryz.func210, Tryz.ntmps210
  go_wp2_with fail
  refine (cM _).mono ?_
  rintro e w1 ⟨rfl, hb1⟩
  have hz1 := hb1.size
  simp only [zZ] at hz1
  have hgB := (hb1.block w.heap.size (by simp only [zZ]; omega)).trans ((xL _ _ (by simp only [zZ]; omega)).trans (kT w _))
  have hgR := (hb1.block (w.heap.size + 1) (by simp only [zZ]; omega)).trans (uJ _ _ _ (by simp only [zZ]))
  have hbw : Below w.heap.size w w1 := (((Below.refl _ _).alloc (Nat.le_refl _) _).alloc (by simp only [zZ]; omega) _).trans (hb1.mono (by simp only [zZ]; omega))
  obtain ⟨k0, _⟩ := xC (j := 0) hgB (by simp)
  obtain ⟨k1, _⟩ := xC (j := 1) hgB (by simp)
  obtain ⟨k2, _⟩ := xC (j := 2) hgB (by simp)
  obtain ⟨k3, _⟩ := xC (j := 3) hgB (by simp)
  simp only [List.getElem_toArray, List.getElem_cons_succ, List.getElem_cons_zero] at k0 k1 k2 k3
  have HGB := Lib.hid hgB
  have HGR := Lib.hid hgR
  clear hgB hgR hb1 cM
  cases m with
  | false =>
    have HV : Hid (yO ⟨a, b, c, p, q⟩ = Ver.zero) := by show _ = _; unfold yO; rw [if_neg (by simp [hm])]
    have HO : Hid (kC ⟨a, b, c, p, q⟩ = false) := by show _ = _; unfold kC; rw [hm]; rfl
    clear hm
    go_wp2_with (refine wpList_store_row rfl 44 _ _ rfl (w.heap.size + 1) Z1 rfl rfl _ _ HGR.out (by kernel_rfl) rfl (kE _ _ _ _ _) ?_)
    exact fM (u := Ver.zero) rfl rfl HGR.out hbw HO.out HV.out
  | true =>
    cases he : p.isEmpty with
    | true =>
      have HG : Hid ((!p.isEmpty && (Ver.mk a b c p q).may) = false) := by show _ = _; rw [he]; rfl
      rw [he] at ep
      clear he hm
      go_wp2
      go_loopw [4] (fun x wr => ∃ k : Nat, k ≤ 3 ∧ x = .int .i64 ((k : Int) - 1) ∧ wr.heap[w.heap.size]? = some (.cells #[.int .i64 a, .int .i64 b, .int .i64 c, .string (mkS p), .string (mkS q)] 44) ∧ wr.heap[w.heap.size + 1]? = some (.cells Z1 44) ∧ Below w.heap.size w wr ∧ Hid (qV ⟨a, b, c, p, q⟩ k = qV ⟨a, b, c, p, q⟩ 3)) (fun x _ => ((intOf x) + 1).toNat)
      case atStart => exact ⟨3, by omega, rfl, HGB.out, HGR.out, hbw, rfl⟩
      case round =>
        obtain ⟨k, hk, rfl, hB, hR, hbel, HR⟩ := hrel
        have hlR := (Array.getElem?_eq_some_iff.1 hR).1
        have HB := Lib.hid hB
        have HR0 := Lib.hid hR
        clear hB hR
        cases k with
        | zero =>
          have HF : Hid (qV ⟨a, b, c, p, q⟩ 3 = (Ver.zero, false)) := HR.out.symm
          go_wp2_with (refine wpList_store_row rfl 44 _ _ rfl (w.heap.size + 1) Z1 rfl rfl _ _ HR0.out (by kernel_rfl) rfl (kE _ _ _ _ _) ?_)
          have hf := bG ⟨a, b, c, p, q⟩ HG.out
          rw [HF.out] at hf
          exact fM (u := Ver.zero) rfl rfl HR0.out hbel hf.2 hf.1
        | succ k =>
          have hk0 : (0 : Int) ≤ k := by omega
          have hke : (((k + 1 : Nat) : Int) - 1) = (k : Int) := by omega
          rw [hke]
          have cB := fun w' => rbump_any ⟨a, b, c, p, q⟩ (k : Int) w' hp hq
          unfold y8 at cB
          dsimp only at cB
          cases hb : yB ⟨a, b, c, p, q⟩ (k : Int) with
          | true =>
            rw [hb] at cB
            obtain ⟨u, hu⟩ : ∃ u, yI ⟨a, b, c, p, q⟩ (k : Int) = u := ⟨_, rfl⟩
            rw [hu] at cB
            have hfq : qV ⟨a, b, c, p, q⟩ 3 = (u, true) := by rw [← HR.out, qV, hb, hu]; rfl
            have HF := Lib.hid hfq
            clear hfq hb hu hke
            go_wp2_with (first
              | (refine wpList_load_row rfl 44 _ rfl w.heap.size rfl _ _ _ _ HB.out Tryz.underlying44 rfl (by kernel_rfl) ?_)
              | (go_at_call 186; refine (cB _).mono ?_; rintro e w3 ⟨rfl, hb3⟩; have hR3 := Lib.hid ((hb3.block (w.heap.size + 1) hlR).trans HR0.out); have hbw3 := hbel.trans (hb3.mono hbel.size); have hl3 := Nat.lt_of_lt_of_le hlR hb3.size)
              | (refine wpList_store_row rfl 44 _ _ rfl (w.heap.size + 1) (ZP u) rfl rfl _ _ ((xL _ _ hl3).trans hR3.out) (by kernel_rfl) rfl (kE _ _ _ _ _) ?_))
            have hf := bG ⟨a, b, c, p, q⟩ HG.out
            rw [HF.out] at hf
            exact fM (u := u) rfl rfl ((xL _ _ hl3).trans hR3.out) (hbw3.alloc (by omega) _) hf.2 hf.1
          | false =>
            rw [hb] at cB
            obtain ⟨u, hu⟩ : ∃ u, yI ⟨a, b, c, p, q⟩ (k : Int) = u := ⟨_, rfl⟩
            rw [hu] at cB
            have hfq : qV ⟨a, b, c, p, q⟩ k = qV ⟨a, b, c, p, q⟩ 3 := by rw [← HR.out, qV, hb]; rfl
            have HF := Lib.hid hfq
            clear hfq hb hu hke
            go_wp2_with (first
              | (refine wpList_load_row rfl 44 _ rfl w.heap.size rfl _ _ _ _ HB.out Tryz.underlying44 rfl (by kernel_rfl) ?_)
              | (go_at_call 186; refine (cB _).mono ?_; rintro e w3 ⟨rfl, hb3⟩; have hl3 := Nat.lt_of_lt_of_le hlR hb3.size))
            have hR3 := (hb3.block (w.heap.size + 1) hlR).trans HR0.out
            have hB3 := (hb3.block w.heap.size (by omega)).trans HB.out
            have hbw3 := hbel.trans (hb3.mono hbel.size)
            go_roundw
            case rel => exact ⟨k, by omega, rfl, (xL _ _ (by omega)).trans hB3, (xL _ _ hl3).trans hR3, hbw3.alloc (by omega) _, HF.out⟩
            case measure => simp [intOf]; try omega
    | false =>
      have HV : Hid (yO ⟨a, b, c, p, q⟩ = Ver.rel a b c) := by show _ = _; unfold yO; rw [if_pos hm, if_neg (by simp [he])]
      have HO : Hid (kC ⟨a, b, c, p, q⟩ = true) := by show _ = _; unfold kC; rw [hm]; simp [he]
      rw [he] at ep
      clear he hm
      go_wp2_with (refine wpList_store_row rfl 44 _ _ rfl (w.heap.size + 1) #[.int .i64 a, .int .i64 b, .int .i64 c, .string (mkS []), .string (mkS [])] rfl rfl _ _ HGR.out (by kernel_rfl) rfl (kE _ _ _ _ _) ?_)
      exact fM (u := Ver.rel a b c) rfl rfl HGR.out hbw HO.out HV.out
theorem rnext_any (v : Ver) (w : World) (hp : v.pre.length ≤ 1000000) (hq : v.build.length ≤ 1000000) :
    Calls Tryz.prog 210 #[y8 v] w fun e w' => e = .returned (.tuple #[y8 (yO v), .bool (kC v)]) ∧ Below w.heap.size w w' := rnext_go v w hp hq
end
section
theorem core_short {v : Ver} (h : v.short) : (y7 v).short := ⟨h.1, by show ([] : List UInt8).length ≤ _; exact Nat.zero_le _⟩
theorem nJ (v : Ver) : (yO v).pre = [] ∧ (yO v).build = [] := by
  cases h : v.may with
  | false => unfold yO; rw [h]; exact ⟨rfl, rfl⟩
  | true =>
    rcases next_is h with ⟨h1, h2, _⟩ | ⟨_, a, b, c, e, _⟩
    · unfold kC at h1
      rw [h, h2] at h1
      simp at h1
      unfold yO
      simp [h, h2, h1]
      exact ⟨rfl, rfl⟩
    · rw [e]; exact ⟨rfl, rfl⟩
theorem next_core (v : Ver) : y7 (yO v) = yO v := by
  have h := (nJ v).2
  generalize yO v = u at h ⊢
  obtain ⟨a, b, c, p, q⟩ := u
  simp only at h; subst h; rfl
theorem next_short (v : Ver) : (yO v).short := ⟨by rw [(nJ v).1]; exact Nat.zero_le _, by rw [(nJ v).2]; exact Nat.zero_le _⟩
theorem fP (v : Ver) : (gU v).short := ⟨by show ([] : List UInt8).length ≤ _; exact Nat.zero_le _, by show ([] : List UInt8).length ≤ _; exact Nat.zero_le _⟩
theorem rleast_any (v : Ver) (W : World) : Calls Tryz.prog 97 #[y8 v] W fun e w' => e = .returned (.bool (qU v)) ∧ Below W.heap.size W w' := by
  refine Z2 (n := 16) Tryz.func97 rfl (ZO (Zb (y8 v) (fun b1 => Zv Z5 (ZR (Zv (Zp b1 0) (Zl 0 ⟨b1, (y8 v).cells, 44⟩ (off := 0) (.int .i64 v.maj) ?_))))))
  by_cases h1 : (v.maj : Int) = 0
  · refine Zg h1 (Zv Z4 (Zv (Zp b1 1) (Zl 0 ⟨b1, (y8 v).cells, 44⟩ (off := 1) (.int .i64 v.min) ?_)))
    by_cases h2 : (v.min : Int) = 0
    · refine Zg h2 (Zv Z4 (Zv Z4 (Zv (Zp b1 2) (Zl 0 ⟨b1, (y8 v).cells, 44⟩ (off := 2) (.int .i64 v.pat) ?_))))
      by_cases h3 : (v.pat : Int) = 0
      · exact Zg h3 (Zv Z4 (Zv Z4 (ZN (zB (ZF Z4 Tryz.results97 (fun w hO => ⟨by simp [qU, h1, h2, h3], hO.below⟩))))))
      exact Zh h3 (Zv Z5 (Zv Z5 (ZN (zB (ZF Z5 Tryz.results97 (fun w hO => ⟨by simp [qU, h1, h2, h3], hO.below⟩))))))
    refine Zh h2 (Zv Z5 (Zv Z5 (Zk (Zk (Zk (Zv Z5 (Zv Z5 (ZN (zB (ZF Z5 Tryz.results97 ?_))))))))))
    exact fun w hO => ⟨by simp [qU, h1, h2], hO.below⟩
  refine Zh h1 (Zv Z5 (Zk (Zk (Zk (Zv Z5 (Zv Z5 (Zk (Zk (Zk (Zv Z5 (Zv Z5 ?_)))))))))))
  exact ZN (zB (ZF Z5 Tryz.results97 (fun w hO => ⟨by simp [qU, h1], hO.below⟩)))
theorem rright_any (c : Cu) (W : World) : Calls Tryz.prog 55 #[zC c] W fun e w' => e = .returned (.bool (xG c)) ∧ Below W.heap.size W w' := by
  refine Z2 (n := 23) Tryz.func55 rfl (ZO (Zb (zC c) (fun b1 => Zv Z5 (ZR (Zv (Zp b1 0) (Zl 0 ⟨b1, (zC c).cells, 78⟩ (off := 0) (.int .i64 c.e) ?_))))))
  by_cases h1 : (c.e : Int) = 0
  · refine Zn (p := (c.e : Int) = 0) true (decide_eq_true (h1)) (Zv Z5 (Zv (Zp b1 6) (Zl 0 ⟨b1, (zC c).cells, 78⟩ (off := 6) (.bool c.aft) ?_)))
    cases h2 : c.aft with
    | true =>
      refine Zv Z5 (Zv Z5 (Zk (Zk (Zk (Zk (Zv Z5 (Zv Z5 (Zk (Zk (Zk (Zk ?_)))))))))))
      exact Zv Z5 (Zv Z5 (Zv Z5 (ZN (zB (ZF Z5 Tryz.results55 (fun w hO => ⟨by simp [xG, h1, h2], hO.below⟩))))))
    | false =>
      refine Zv Z4 (Zv Z4 (Zv (Zp b1 1) (Zv (Zp b1 4) (Zl 0 ⟨b1, (zC c).cells, 78⟩ (off := 4) (.string (mkS c.v.pre)) ?_))))
      by_cases h3 : (c.v.pre : List UInt8) = []
      · refine zU Z4 (by kernel_rfl) (yM (a := c.v.pre) (b := ([])) rfl (by kernel_rfl) (by kernel_rfl) (decide_eq_true (h3))) (Zv Z4 (Zv Z4 (Zv (Zp b1 1) (Zl 0 ⟨b1, (zC c).cells, 78⟩ (off := 1) (.agg (ZP c.v)) (Zc (k := 97) (args := #[.agg (ZP c.v)]) (.bool (qU c.v)) (fun w _ => rleast_any c.v w) ?_)))))
        cases h4 : qU c.v with
        | true =>
          exact Zv Z5 (Zv Z5 (Zv Z5 (Zv Z5 (ZN (zB (ZF Z5 Tryz.results55 (fun w hO => ⟨by simp [xG, h1, h2, h3, h4], hO.below⟩)))))))
        | false =>
          exact Zv Z4 (Zv Z4 (Zv Z4 (Zv Z4 (ZN (zB (ZF Z4 Tryz.results55 (fun w hO => ⟨by simp [xG, h1, h2, h3, h4], hO.below⟩)))))))
      refine zU Z5 (by kernel_rfl) (yM (a := c.v.pre) (b := ([])) rfl (by kernel_rfl) (by kernel_rfl) (decide_eq_false (h3))) (Zv Z5 (Zv Z5 (Zk (Zk (Zk (Zk (Zv Z5 (Zv Z5 (Zv Z5 (zP (z8 ?_)))))))))))
      exact zB (ZF Z5 Tryz.results55 (fun w hO => ⟨by simp [xG, h1, h2, h3], hO.below⟩))
  refine Zn (p := (c.e : Int) = 0) false (decide_eq_false (h1)) (Zv Z4 (Zk (Zk (Zk (Zk (Zk (Zk (Zk (Zk (Zk (Zk ?_)))))))))))
  exact Zk (Zk (Zk (Zk (Zk (Zv Z4 (Zv Z4 (ZN (zB (ZF Z4 Tryz.results55 (fun w hO => ⟨by simp [xG, h1], hO.below⟩))))))))))
theorem vU (v : Ver) (W : World) (hv : v.short) : Calls Tryz.prog 142 #[y8 v] W fun e w' => e = .returned (zC ⟨0, y7 v, false⟩) ∧ Below W.heap.size W w' := by
  refine Z2 (n := 6) Tryz.func142 rfl (ZO (Zb (y8 v) (fun b1 => Za (.agg ZE) (fun b2 => ZR (Zl 1 ⟨b1, (y8 v).cells, 44⟩ (off := 0) (y8 v) (Zc (k := 183) (args := #[y8 v]) (y8 (y7 v)) (fun w _ => rcore_any v w) (Zv (.agg #[.int .i64 0, .int .i64 ((y7 v).maj), .int .i64 ((y7 v).min), .int .i64 ((y7 v).pat), .string (mkS (y7 v).pre), .string (mkS (y7 v).build), .bool false]) ?_)))))))
  exact Zs 0 ⟨b2, ZE, 78⟩ (off := 0) (.agg #[.int .i64 0, .int .i64 ((y7 v).maj), .int .i64 ((y7 v).min), .int .i64 ((y7 v).pat), .string (mkS (y7 v).pre), .string (mkS (y7 v).build), .bool false]) (ZN (zB (ZC 0 ⟨b2, #[.int .i64 0, .int .i64 ((y7 v).maj), .int .i64 ((y7 v).min), .int .i64 ((y7 v).pat), .string (mkS (y7 v).pre), .string (mkS (y7 v).build), .bool false], 78⟩ (off := 0) (.agg #[.int .i64 0, .int .i64 ((y7 v).maj), .int .i64 ((y7 v).min), .int .i64 ((y7 v).pat), .string (mkS (y7 v).pre), .string (mkS (y7 v).build), .bool false]) Tryz.results142 (fun w hO => ⟨rfl, hO.below⟩))))
theorem rbehindC_any (v : Ver) (W : World) (hv : v.short) : Calls Tryz.prog 145 #[y8 v] W fun e w' => e = .returned (zC ⟨0, y7 v, true⟩) ∧ Below W.heap.size W w' := by
  refine Z2 (n := 6) Tryz.func145 rfl (ZO (Zb (y8 v) (fun b1 => Za (.agg ZE) (fun b2 => ZR (Zl 1 ⟨b1, (y8 v).cells, 44⟩ (off := 0) (y8 v) (Zc (k := 183) (args := #[y8 v]) (y8 (y7 v)) (fun w _ => rcore_any v w) (Zv (.agg #[.int .i64 0, .int .i64 ((y7 v).maj), .int .i64 ((y7 v).min), .int .i64 ((y7 v).pat), .string (mkS (y7 v).pre), .string (mkS (y7 v).build), .bool true]) ?_)))))))
  exact Zs 0 ⟨b2, ZE, 78⟩ (off := 0) (.agg #[.int .i64 0, .int .i64 ((y7 v).maj), .int .i64 ((y7 v).min), .int .i64 ((y7 v).pat), .string (mkS (y7 v).pre), .string (mkS (y7 v).build), .bool true]) (ZN (zB (ZC 0 ⟨b2, #[.int .i64 0, .int .i64 ((y7 v).maj), .int .i64 ((y7 v).min), .int .i64 ((y7 v).pat), .string (mkS (y7 v).pre), .string (mkS (y7 v).build), .bool true], 78⟩ (off := 0) (.agg #[.int .i64 0, .int .i64 ((y7 v).maj), .int .i64 ((y7 v).min), .int .i64 ((y7 v).pat), .string (mkS (y7 v).pre), .string (mkS (y7 v).build), .bool true]) Tryz.results145 (fun w hO => ⟨rfl, hO.below⟩))))
theorem rahead_any (v : Ver) (W : World) (hv : v.short) : Calls Tryz.prog 185 #[y8 v] W fun e w' => e = .returned (zC (bV v)) ∧ Below W.heap.size W w' := by
  refine Z2 (n := 14) Tryz.func185 rfl (ZO (Zb (y8 v) (fun b1 => Za (.agg ZE) (fun b2 => ZN (z7 (ZO (Zl 1 ⟨b1, (y8 v).cells, 44⟩ (off := 0) (y8 v) (Zc (k := 97) (args := #[y8 v]) (.bool (qU v)) (fun w _ => rleast_any v w) ?_))))))))
  refine zP (z8 ?_)
  cases h1 : qU v with
  | true =>
    exact Zt (ZO (Zc (k := 147) (args := #[]) (zC (zX (-1))) (fun w _ => uT w) (Zs 0 ⟨b2, ZE, 78⟩ (off := 0) (zC (zX (-1))) (ZN (zB (z6 (ZC 0 ⟨b2, (zC (zX (-1))).cells, 78⟩ (off := 0) (zC (zX (-1))) Tryz.results185 (fun w hO => ⟨by unfold bV; rw [h1]; rfl, hO.below⟩))))))))
  | false =>
    refine Zf (ZB (ZO (Zv (Zp b1 0) (Zl 1 ⟨b1, (y8 v).cells, 44⟩ (off := 0) (.int .i64 v.maj) (Zv (Zp b1 1) (Zl 1 ⟨b1, (y8 v).cells, 44⟩ (off := 1) (.int .i64 v.min) (Zv (Zp b1 2) (Zl 1 ⟨b1, (y8 v).cells, 44⟩ (off := 2) (.int .i64 v.pat) (Zv (.agg #[.int .i64 v.maj, .int .i64 v.min, .int .i64 v.pat, .string ⟨#[]⟩, .string ⟨#[]⟩]) ?_)))))))))
    exact Zc (k := 142) (args := #[.agg #[.int .i64 v.maj, .int .i64 v.min, .int .i64 v.pat, .string ⟨#[]⟩, .string ⟨#[]⟩]]) (zC ⟨0, y7 (gU v), false⟩) (fun w _ => vU (gU v) w (fP v)) (Zs 0 ⟨b2, ZE, 78⟩ (off := 0) (zC ⟨0, y7 (gU v), false⟩) (ZN (zB (ZC 0 ⟨b2, (zC ⟨0, y7 (gU v), false⟩).cells, 78⟩ (off := 0) (zC ⟨0, y7 (gU v), false⟩) Tryz.results185 (fun w hO => ⟨by unfold bV; rw [h1]; rfl, hO.below⟩)))))
theorem rbehind_any (v : Ver) (W : World) (hv : v.short) : Calls Tryz.prog 184 #[y8 v] W fun e w' => e = .returned (zC (pB v)) ∧ Below W.heap.size W w' := by
  have hnc : y7 (yO (gU v)) = yO (gU v) := next_core (gU v)
  have hns : (yO (gU v)).short := next_short (gU v)
  refine Z2 (n := 21) Tryz.func184 rfl (ZO (Zb (y8 v) (fun b1 => Za (.agg ZE) (fun b2 => ZR (Zv (Zp b1 0) (Zl 1 ⟨b1, (y8 v).cells, 44⟩ (off := 0) (.int .i64 v.maj) (Zv (Zp b1 1) ?_)))))))
  refine Zl 1 ⟨b1, (y8 v).cells, 44⟩ (off := 1) (.int .i64 v.min) (Zv (Zp b1 2) (Zl 1 ⟨b1, (y8 v).cells, 44⟩ (off := 2) (.int .i64 v.pat) (Zv (.agg #[.int .i64 v.maj, .int .i64 v.min, .int .i64 v.pat, .string ⟨#[]⟩, .string ⟨#[]⟩]) (Zc (k := 210) (args := #[.agg #[.int .i64 v.maj, .int .i64 v.min, .int .i64 v.pat, .string ⟨#[]⟩, .string ⟨#[]⟩]]) (.tuple #[y8 (yO (gU v)), .bool (kC (gU v))]) (fun w _ => rnext_any (gU v) w (fP v).1 (fP v).2) (Zv (.tuple #[y8 (yO (gU v)), .bool (kC (gU v))]) (Zv (y8 (yO (gU v))) (Zv (.bool (kC (gU v))) (Za (.agg Z1) (fun b3 => Zs 0 ⟨b3, Z1, 44⟩ (off := 0) (y8 (yO (gU v))) (Zv (.bool (kC (gU v))) (zP ?_)))))))))))
  refine z8 (z7 (ZO (Zv (.bool (kC (gU v))) ?_)))
  cases h1 : kC (gU v) with
  | true =>
    refine Zv Z5 (ZX (ZB (ZO (Zl 0 ⟨b3, (y8 (yO (gU v))).cells, 44⟩ (off := 0) (y8 (yO (gU v))) (Zc (k := 142) (args := #[y8 (yO (gU v))]) (zC ⟨0, y7 (yO (gU v)), false⟩) (fun w _ => vU (yO (gU v)) w hns) (Zs 1 ⟨b2, ZE, 78⟩ (off := 0) (zC ⟨0, y7 (yO (gU v)), false⟩) (zP ?_)))))))
    exact z8 (zB (ZC 1 ⟨b2, (zC ⟨0, y7 (yO (gU v)), false⟩).cells, 78⟩ (off := 0) (zC ⟨0, y7 (yO (gU v)), false⟩) Tryz.results184 (fun w hO => ⟨by unfold pB; rw [h1]; first | rfl | (rw [hnc]; rfl), hO.below⟩)))
  | false =>
    refine Zv Z4 (ZY (ZO (Zc (k := 148) (args := #[]) (zC (zX 1)) (fun w _ => uS w) (Zs 1 ⟨b2, ZE, 78⟩ (off := 0) (zC (zX 1)) (ZN (zB (z6 ?_)))))))
    exact ZC 1 ⟨b2, (zC (zX 1)).cells, 78⟩ (off := 0) (zC (zX 1)) Tryz.results184 (fun w hO => ⟨by unfold pB; rw [h1]; first | rfl | (rw [hnc]; rfl), hO.below⟩)
theorem wE (c : Cu) (W : World) (hc : c.v.short) : Calls Tryz.prog 143 #[zC c] W fun e w' => e = .returned (zC (kJ c)) ∧ Below W.heap.size W w' := by
  refine Z2 (n := 21) Tryz.func143 rfl (ZO (Zb (zC c) (fun b1 => Za (.agg ZE) (fun b2 => ZN (z7 (ZO (Zv (Zp b1 0) (Zl 1 ⟨b1, (zC c).cells, 78⟩ (off := 0) (.int .i64 c.e) ?_))))))))
  by_cases h1 : (c.e : Int) = 0
  · refine Zn (p := (c.e : Int) = 0) true (decide_eq_true (h1)) (ZX (ZB (z7 (ZO (Zv (Zp b1 6) (Zl 1 ⟨b1, (zC c).cells, 78⟩ (off := 6) (.bool c.aft) (Zv (.bool c.aft) ?_)))))))
    cases h2 : c.aft with
    | true =>
      refine Zv (Zp b1 1) (Zv (Zp b1 4) (Zl 1 ⟨b1, (zC c).cells, 78⟩ (off := 4) (.string (mkS c.v.pre)) ?_))
      by_cases h3 : (c.v.pre : List UInt8) = []
      · refine zU Z4 (by kernel_rfl) (yM (a := c.v.pre) (b := ([])) rfl (by kernel_rfl) (by kernel_rfl) (decide_eq_true (h3))) (Zv Z4 (ZY (ZO (Zv (Zp b1 1) (Zl 1 ⟨b1, (zC c).cells, 78⟩ (off := 1) (.agg (ZP c.v)) (Zc (k := 184) (args := #[.agg (ZP c.v)]) (zC (pB c.v)) (fun w _ => rbehind_any c.v w hc) (Zs 0 ⟨b2, ZE, 78⟩ (off := 0) (zC (pB c.v)) (zP ?_))))))))
        exact z8 (zB (z6 (ZC 0 ⟨b2, (zC (pB c.v)).cells, 78⟩ (off := 0) (zC (pB c.v)) Tryz.results143 (fun w hO => ⟨by unfold kJ; simp [h1, h2, h3], hO.below⟩))))
      refine zU Z5 (by kernel_rfl) (yM (a := c.v.pre) (b := ([])) rfl (by kernel_rfl) (by kernel_rfl) (decide_eq_false (h3))) (Zv Z5 (ZX (ZB (ZO (Zv (Zp b1 1) (Zl 1 ⟨b1, (zC c).cells, 78⟩ (off := 1) (.agg (ZP c.v)) (Zc (k := 185) (args := #[.agg (ZP c.v)]) (zC (bV c.v)) (fun w _ => rahead_any c.v w hc) ?_)))))))
      exact Zs 0 ⟨b2, ZE, 78⟩ (off := 0) (zC (bV c.v)) (ZN (zB (ZC 0 ⟨b2, (zC (bV c.v)).cells, 78⟩ (off := 0) (zC (bV c.v)) Tryz.results143 (fun w hO => ⟨by unfold kJ; simp [h1, h2, h3], hO.below⟩))))
    | false =>
      refine Zk (Zk (Zk (Zk (Zv Z5 (ZX (ZB (z7 (zA ?_))))))))
      exact Zv (Zp b1 1) (Zl 1 ⟨b1, (zC c).cells, 78⟩ (off := 1) (.agg (ZP c.v)) (Zc (k := 185) (args := #[.agg (ZP c.v)]) (zC (bV c.v)) (fun w _ => rahead_any c.v w hc) (Zs 0 ⟨b2, ZE, 78⟩ (off := 0) (zC (bV c.v)) (ZN (zB (ZC 0 ⟨b2, (zC (bV c.v)).cells, 78⟩ (off := 0) (zC (bV c.v)) Tryz.results143 (fun w hO => ⟨by unfold kJ; simp [h1, h2], hO.below⟩)))))))
  refine Zn (p := (c.e : Int) = 0) false (decide_eq_false (h1)) (ZY (ZO (Zl 1 ⟨b1, (zC c).cells, 78⟩ (off := 0) (zC c) (Zs 0 ⟨b2, ZE, 78⟩ (off := 0) (zC c) (ZN (zB (z6 ?_)))))))
  exact ZC 0 ⟨b2, (zC c).cells, 78⟩ (off := 0) (zC c) Tryz.results143 (fun w hO => ⟨by unfold kJ; simp [h1], hO.below⟩)
theorem bD (W : World) : Calls Tryz.prog 34 #[] W fun e w' => e = .returned (.agg ZM) ∧ Below W.heap.size W w' := by
  refine Z2 (n := 2) Tryz.func34 rfl (ZO (Za (.agg ZM) (fun b1 => ZR (Zv (.agg ZM) (Zs 0 ⟨b1, ZM, 31⟩ (off := 0) (.agg ZM) (zP (z8 ?_)))))))
  exact zB (ZC 0 ⟨b1, ZM, 31⟩ (off := 0) (.agg ZM) Tryz.results34 (fun w hO => ⟨rfl, hO.below⟩))
end
section
structure SetIn (w : World) (B : Nat) (A A' : Option Addr) (a : St) : Prop where
  rel : Reads yR w B A a.rel
  pre : Reads yR w B A' a.pre
  lr : a.rel.length ≤ 100000
  lp : a.pre.length ≤ 100000
  sr : x8 a.rel
  sp : x8 a.pre
theorem SetIn.on {w w' : World} {B B' : Nat} {A A' : Option Addr} {a : St} (h : SetIn w B A A' a) (hb : Below B w w') (hB : B ≤ B') : SetIn w' B' A A' a := ⟨h.rel.on hb hB, h.pre.on hb hB, h.lr, h.lp, h.sr, h.sp⟩
theorem all_take (p : Sp → Bool) {l : List Sp} {k : Nat} (hk : k < l.length) (h : (l.take k).all p = true) (hs : p l[k] = true) : (l.take (k + 1)).all p = true := by
  rw [List.take_succ_eq_append_getElem hk, List.all_append, h]
  simp [hs]
theorem all_not (p : Sp → Bool) {l : List Sp} {k : Nat} (hk : k < l.length) (hs : p l[k] = false) : l.all p = false := by
  cases h : l.all p with
  | false => rfl
  | true => rw [List.all_eq_true.1 h _ (List.getElem_mem hk)] at hs; cases hs
theorem mJ (A B : Option Addr) (c d : Nat) (a : St) (W : World) (hs : SetIn W W.heap.size A B a) : Calls Tryz.prog 29 #[.agg #[.slice A a.rel.length c, .slice B a.pre.length d]] W fun e w' => e = .returned (.bool a.may) ∧ Below W.heap.size W w' := by
  refine Z2 (n := 39) Tryz.func29 rfl (ZO (Zb (.agg #[.slice A a.rel.length c, .slice B a.pre.length d]) (fun b1 => Zv Z5 (ZN (z7 (ZO (Zv (Zp b1 0) (Zl 0 ⟨b1, #[.slice A a.rel.length c, .slice B a.pre.length d], 31⟩ (off := 0) (.slice A a.rel.length c) ?_))))))))
  refine Zc (k := 54) (args := #[.slice A a.rel.length c]) (.bool (zR a.rel)) (fun w hO => gM A c a.rel w (hs.rel.on hO.below hO.below.size) (Nat.le_trans hs.lr (by decide)) hs.sr) ?_
  cases h1 : zR a.rel with
  | true =>
    refine Zv Z5 (Zv Z5 (Zv (Zp b1 1) (Zl 0 ⟨b1, #[.slice A a.rel.length c, .slice B a.pre.length d], 31⟩ (off := 1) (.slice B a.pre.length d) (Zc (k := 54) (args := #[.slice B a.pre.length d]) (.bool (zR a.pre)) (fun w hO => gM B d a.pre w (hs.pre.on hO.below hO.below.size) (Nat.le_trans hs.lp (by decide)) hs.sp) ?_))))
    cases h2 : zR a.pre with
    | true =>
      refine Zv Z5 (Zv Z5 (ZX (ZB (z7 (ZO (Zv (.int .i64 0) (zP ?_)))))))
      refine z8 (zL (yL (fun L f m => ∃ (k : Nat) (j : Nat → Value), (k ≤ a.rel.length ∧ (a.rel.take k).all (fun x => xG x.lo && xG x.hi) = true) ∧ L = [⟨b1, #[.slice A a.rel.length c, .slice B a.pre.length d], 31⟩] ∧ f = xF j [(1, Zp b1 0), (3, .int .i64 (k : Int))] ∧ m = a.rel.length - k) (a.rel.length - 0) ⟨0, _, ⟨Nat.zero_le _, by rw [List.take_zero]; rfl⟩, rfl, ZU, rfl⟩ ?_))
      rintro L f m ⟨k, j, hrel, rfl, rfl, rfl⟩
      have hkl := hrel.1; have hln := hs.lr
      refine z7 (ZO (Zv (.int .i64 (k : Int)) (Zv (Zp b1 0) (Zl 0 ⟨b1, #[.slice A a.rel.length c, .slice B a.pre.length d], 31⟩ (off := 0) (.slice A a.rel.length c) (Zv (.int .i64 (a.rel.length : Int)) ?_)))))
      by_cases h3 : (k : Int) < (a.rel.length : Int)
      · have hk : k < a.rel.length := by omega
        obtain ⟨b, off, hA, hlt, hcell⟩ := hs.rel (by omega)
        obtain ⟨s, he⟩ : ∃ s, a.rel[k] = s := ⟨_, rfl⟩
        refine Zg h3 (ZY (ZB (z7 (zL (ZO (Zv (Zp b1 0) (Zl 0 ⟨b1, #[.slice A a.rel.length c, .slice B a.pre.length d], 31⟩ (off := 0) (.slice A a.rel.length c) ?_)))))))
        refine Zv (.int .i64 (k : Int)) (zU (Zp b (off + k * 14)) (by kernel_rfl) (ZA (b := b) (off := off) (c := c) (n := a.rel.length) (k := .i64) (j := (k : Int)) (e := 80) (sz := 14) hA) (Zv (Zp b (off + k * 14 + 0)) (Zo (zC s.lo) (a := ⟨b, off + k * 14 + 0, none⟩) (fun w hO => y6 y9 (fun j u h => (hO.below.cell (p := ⟨b, off + j, none⟩) hlt).trans (hcell j u h)) k 0 hk (by omega) _ (by rw [he]; kernel_rfl)) (Zc (k := 55) (args := #[zC s.lo]) (.bool (xG s.lo)) (fun w _ => rright_any s.lo w) ?_))))
        cases h4 : xG s.lo with
        | true =>
          refine Zv Z5 (Zv Z5 (Zv (Zp b1 0) (Zl 0 ⟨b1, #[.slice A a.rel.length c, .slice B a.pre.length d], 31⟩ (off := 0) (.slice A a.rel.length c) (Zv (.int .i64 (k : Int)) (zU (Zp b (off + k * 14)) (by kernel_rfl) (ZA (b := b) (off := off) (c := c) (n := a.rel.length) (k := .i64) (j := (k : Int)) (e := 80) (sz := 14) hA) (Zv (Zp b (off + k * 14 + 7)) (Zo (zC s.hi) (a := ⟨b, off + k * 14 + 7, none⟩) (fun w hO => y6 y9 (fun j u h => (hO.below.cell (p := ⟨b, off + j, none⟩) hlt).trans (hcell j u h)) k 7 hk (by omega) _ (by rw [he]; kernel_rfl)) (Zc (k := 55) (args := #[zC s.hi]) (.bool (xG s.hi)) (fun w _ => rright_any s.hi w) ?_))))))))
          cases h5 : xG s.hi with
          | true =>
            refine Zv Z5 (Zv Z5 (ZX (yC (zQ (z8 (zA (Zv (.int .i64 (k : Int)) (Zu (k := .i64) (((k + 1 : Nat) : Int)) (IntWalk.i64_in _ (by omega)) (Zv (.int .i64 ((k + 1 : Nat) : Int)) ?_)))))))))
            refine zP ?_
            have hnext : (a.rel.take (k + 1)).all (fun x => xG x.lo && xG x.hi) = true := all_take _ hk hrel.2 (by simp [he, h1, h2, h3, h4, h5])
            exact zT (m' := a.rel.length - (k + 1)) (by omega) ⟨k + 1, _, ⟨by omega, hnext⟩, rfl, ZU, rfl⟩
          | false =>
            refine Zv Z4 (Zv Z4 (ZY (ZO (Zv Z5 (ZN (zB (zF ?_)))))))
            exact z6 (zW (zF (z6 (ZF Z5 Tryz.results29 (fun w hO => ⟨by unfold St.may; rw [all_not _ hk (by simp [he, h1, h2, h3, h4, h5])]; simp, hO.below⟩)))))
        | false =>
          refine Zv Z4 (Zv Z4 (Zk (Zk (Zk (Zk (Zk (Zk (Zk (Zk (Zv Z4 (zP ?_)))))))))))
          refine z8 (Zt (ZO (Zv Z5 (ZN (zB (zF (z6 (zW (zF ?_)))))))))
          exact z6 (ZF Z5 Tryz.results29 (fun w hO => ⟨by unfold St.may; rw [all_not _ hk (by simp [he, h1, h2, h3, h4])]; simp, hO.below⟩))
      have hall : a.rel.all (fun x => xG x.lo && xG x.hi) = true := by have h := hrel.2; rwa [List.take_of_length_le (by omega)] at h
      refine Zh h3 (ZX (y5 (zD (zN (zH (z8 (ZO (Zv Z4 ?_))))))))
      exact ZN (zB (ZF Z4 Tryz.results29 (fun w hO => ⟨by unfold St.may; simp [hall, h1, h2, h3], hO.below⟩)))
    | false =>
      refine Zv Z4 (Zv Z4 (ZY (ZO (Zv Z5 (ZN (zB (z6 ?_)))))))
      exact ZF Z5 Tryz.results29 (fun w hO => ⟨by unfold St.may; simp [h1, h2], hO.below⟩)
  | false =>
    refine Zv Z4 (Zv Z4 (Zk (Zk (Zk (Zk (Zv Z4 (ZY (z7 (zA ?_)))))))))
    exact Zv Z5 (ZN (zB (z6 (ZF Z5 Tryz.results29 (fun w hO => ⟨by unfold St.may; simp [h1], hO.below⟩)))))
theorem rsetHas_any (A B : Option Addr) (c d : Nat) (a : St) (v : Ver) (W : World) (hs : SetIn W W.heap.size A B a) (hv : v.short) : Calls Tryz.prog 30 #[.agg #[.slice A a.rel.length c, .slice B a.pre.length d], y8 v] W fun e w' => e = .returned (.bool (qP a v)) ∧ Below W.heap.size W w' := by
  refine Z2 (n := 24) Tryz.func30 rfl (ZO (Zb (.agg #[.slice A a.rel.length c, .slice B a.pre.length d]) (fun b1 => Zb (y8 v) (fun b2 => Zv Z5 (ZN (z7 (ZO (Zl 1 ⟨b1, #[.slice A a.rel.length c, .slice B a.pre.length d], 31⟩ (off := 0) (.agg #[.slice A a.rel.length c, .slice B a.pre.length d]) ?_))))))))
  refine Zc (k := 29) (args := #[.agg #[.slice A a.rel.length c, .slice B a.pre.length d]]) (.bool a.may) (fun w hO => mJ A B c d a w (hs.on hO.below hO.size)) ?_
  cases h1 : a.may with
  | true =>
    refine Zv Z5 (Zv Z5 (Zl 0 ⟨b2, (y8 v).cells, 44⟩ (off := 0) (y8 v) (Zc (k := 56) (args := #[y8 v]) (.bool v.may) (fun w _ => vF v w hv.1 hv.2) ?_)))
    cases h2 : v.may with
    | true =>
      refine Zv Z5 (Zv Z5 (ZX (ZB (z7 (ZO (Zv (Zp b2 3) (Zl 0 ⟨b2, (y8 v).cells, 44⟩ (off := 3) (.string (mkS v.pre)) ?_)))))))
      by_cases h3 : (v.pre : List UInt8) = []
      · refine zU Z4 (by kernel_rfl) (yM (a := v.pre) (b := ([])) rfl (by kernel_rfl) (by kernel_rfl) (decide_eq_true (h3))) (ZY (ZO (Zv (Zp b1 0) (Zl 1 ⟨b1, #[.slice A a.rel.length c, .slice B a.pre.length d], 31⟩ (off := 0) (.slice A a.rel.length c) (Zl 0 ⟨b2, (y8 v).cells, 44⟩ (off := 0) (y8 v) (Zc (k := 52) (args := #[.slice A a.rel.length c, y8 v]) (.bool (xY a.rel v)) (fun w hO => rrowHas_any A c a.rel v w (hs.rel.on hO.below hO.below.size) (Nat.le_trans hs.lr (by decide)) hs.sr hv) (Zv (.bool (xY a.rel v)) (zP ?_))))))))
        exact z8 (zB (z6 (ZF (.bool (xY a.rel v)) Tryz.results30 (fun w hO => ⟨by simp [qP, h1, h2, h3], hO.below⟩))))
      refine zU Z5 (by kernel_rfl) (yM (a := v.pre) (b := ([])) rfl (by kernel_rfl) (by kernel_rfl) (decide_eq_false (h3))) (ZX (ZB (ZO (Zv (Zp b1 1) (Zl 1 ⟨b1, #[.slice A a.rel.length c, .slice B a.pre.length d], 31⟩ (off := 1) (.slice B a.pre.length d) (Zl 0 ⟨b2, (y8 v).cells, 44⟩ (off := 0) (y8 v) (Zc (k := 52) (args := #[.slice B a.pre.length d, y8 v]) (.bool (xY a.pre v)) (fun w hO => rrowHas_any B d a.pre v w (hs.pre.on hO.below hO.below.size) (Nat.le_trans hs.lp (by decide)) hs.sp hv) ?_)))))))
      exact Zv (.bool (xY a.pre v)) (ZN (zB (ZF (.bool (xY a.pre v)) Tryz.results30 (fun w hO => ⟨by simp [qP, h1, h2, h3], hO.below⟩))))
    | false =>
      refine Zv Z4 (Zv Z4 (ZY (ZO (Zv Z5 (ZN (zB (z6 ?_)))))))
      exact ZF Z5 Tryz.results30 (fun w hO => ⟨by simp [qP, h1, h2], hO.below⟩)
  | false =>
    refine Zv Z4 (Zv Z4 (Zk (Zk (Zk (Zv Z4 (ZY (ZO (Zv Z5 ?_))))))))
    exact ZN (zB (z6 (ZF Z5 Tryz.results30 (fun w hO => ⟨by simp [qP, h1], hO.below⟩))))
theorem rsetSame_any (A B A' B' : Option Addr) (c d c' d' : Nat) (a b : St) (W : World) (hs : SetIn W W.heap.size A B a) (ht : SetIn W W.heap.size A' B' b) : Calls Tryz.prog 17 #[.agg #[.slice A a.rel.length c, .slice B a.pre.length d], .agg #[.slice A' b.rel.length c', .slice B' b.pre.length d']] W fun e w' => e = .returned (.bool (decide (a.rel = b.rel) && decide (a.pre = b.pre))) ∧ Below W.heap.size W w' := by
  refine Z2 (n := 17) Tryz.func17 rfl (ZO (Zb (.agg #[.slice A a.rel.length c, .slice B a.pre.length d]) (fun b1 => Zb (.agg #[.slice A' b.rel.length c', .slice B' b.pre.length d']) (fun b2 => Zv Z5 (ZR (Zv (Zp b1 0) (Zl 1 ⟨b1, #[.slice A a.rel.length c, .slice B a.pre.length d], 31⟩ (off := 0) (.slice A a.rel.length c) ?_)))))))
  refine Zv (Zp b2 0) (Zl 0 ⟨b2, #[.slice A' b.rel.length c', .slice B' b.pre.length d'], 31⟩ (off := 0) (.slice A' b.rel.length c') (Zc (k := 46) (args := #[.slice A a.rel.length c, .slice A' b.rel.length c']) (.bool (decide (a.rel = b.rel))) (fun w hO => rsame_any A A' c c' a.rel b.rel w (hs.rel.on hO.below hO.size) (ht.rel.on hO.below hO.size) (Nat.le_trans hs.lr (by decide)) (Nat.le_trans ht.lr (by decide))) (Zv (.bool (decide (a.rel = b.rel))) ?_)))
  cases h1 : decide (a.rel = b.rel) with
  | true =>
    exact Zv (Zp b1 1) (Zl 1 ⟨b1, #[.slice A a.rel.length c, .slice B a.pre.length d], 31⟩ (off := 1) (.slice B a.pre.length d) (Zv (Zp b2 1) (Zl 0 ⟨b2, #[.slice A' b.rel.length c', .slice B' b.pre.length d'], 31⟩ (off := 1) (.slice B' b.pre.length d') (Zc (k := 46) (args := #[.slice B a.pre.length d, .slice B' b.pre.length d']) (.bool (decide (a.pre = b.pre))) (fun w hO => rsame_any B B' d d' a.pre b.pre w (hs.pre.on hO.below hO.size) (ht.pre.on hO.below hO.size) (Nat.le_trans hs.lp (by decide)) (Nat.le_trans ht.lp (by decide))) (Zv (.bool (decide (a.pre = b.pre))) (Zv (.bool (decide (a.pre = b.pre))) (ZN (zB (ZF (.bool (decide (a.pre = b.pre))) Tryz.results17 (fun w hO => ⟨by simp [h1], hO.below⟩))))))))))
  | false =>
    exact Zk (Zk (Zk (Zk (Zk (Zv Z5 (Zv Z5 (ZN (zB (ZF Z5 Tryz.results17 (fun w hO => ⟨by simp [h1], hO.below⟩))))))))))
end
section
section
variable {M : List Nat} {P : Program} {n : Nat} {ops : Array Oper} {W : World} {L0 : List Blk} {Q : Exit → Act → World → Prop} {fuel : Nat} {listed : Array Bool} {L : List Blk} {f : Nat → Value}
theorem mQ {i : Nat} {E E' : List Blk} (p : E.Perm E') (h : uA M P n ops W L0 Q fuel listed i (E' ++ L0) f) : uA M P n ops W L0 Q fuel listed i (E ++ L0) f := ⟨fun w hO => h.go w (hO.perm (p.append_right L0))⟩
end
theorem kF {M : List Nat} {W w : World} {L : List Blk} (h : Own M W w L) : Own M W w [] := h.sublist (List.nil_sublist _)
theorem own_mid {M : List Nat} {W w : World} {x : Blk} {A B L0 : List Blk} (h : Own M W w ((x :: (A ++ (B ++ []))) ++ L0)) : Own M W w (A ++ B) := by
  rw [List.append_nil] at h
  exact h.sublist ((List.sublist_append_left (A ++ B) L0).cons x)
end
section
theorem d6 {A : Option Addr} {n c : Nat} {l : List Sp} {ob : List Blk} (h : SlS (.slice A n c) l ob) : l.length ≤ c := by
  rcases h.2 with ⟨h1, h2, _⟩ | ⟨g, c', cur, h1, _, h3, _⟩
  · rw [h2]; exact Nat.zero_le _
  · simp only [Value.slice.injEq] at h1
    rw [h1.2.2]; exact h3
def SetO (v : Value) (a : St) (ob : List Blk) : Prop := ∃ v1 v2 o1 o2, v = .agg #[v1, v2] ∧ ob = o2 ++ o1 ∧ SlS v1 a.rel o1 ∧ SlS v2 a.pre o2
theorem SetO.form {v : Value} {a : St} {ob : List Blk} (h : SetO v a ob) : ∃ A B c d, v = .agg #[.slice A a.rel.length c, .slice B a.pre.length d] := by
  obtain ⟨v1, v2, o1, o2, rfl, _, h1, h2⟩ := h
  obtain ⟨A, c, rfl⟩ := h1.form
  obtain ⟨B, d, rfl⟩ := h2.form
  exact ⟨A, B, c, d, rfl⟩
theorem agg_two {a b c d : Value} (h : (Value.agg #[a, b]) = .agg #[c, d]) : a = c ∧ b = d := by
  injection h with h
  have h2 := congrArg Array.toList h
  simp only [List.cons.injEq, and_true] at h2
  exact h2
theorem SetO.inn {A B : Option Addr} {c d n : Nat} {a : St} {ob L : List Blk} {M : List Nat} {W w : World} (h : SetO (.agg #[.slice A a.rel.length c, .slice B a.pre.length d]) a ob) (hO : Own M W w L) (hob : ∀ x ∈ ob, x ∈ L) (hf : SF a n) (hn : n ≤ 100000) : SetIn w w.heap.size A B a := by
  obtain ⟨v1, v2, o1, o2, e, rfl, h1, h2⟩ := h
  obtain ⟨rfl, rfl⟩ := agg_two e
  exact ⟨Sl.reads h1 rfl hO (fun x hx => hob x (by simp [hx])), Sl.reads h2 rfl hO (fun x hx => hob x (by simp [hx])), Nat.le_trans hf.rel.len hn, Nat.le_trans hf.pre.len hn, hf.rel.short, hf.pre.short⟩
theorem SetO.caps {A B : Option Addr} {c d : Nat} {a : St} {ob : List Blk} (h : SetO (.agg #[.slice A a.rel.length c, .slice B a.pre.length d]) a ob) : a.rel.length ≤ c ∧ a.pre.length ≤ d := by
  obtain ⟨v1, v2, o1, o2, e, rfl, h1, h2⟩ := h
  obtain ⟨rfl, rfl⟩ := agg_two e
  exact ⟨d6 h1, d6 h2⟩
theorem SetO.none : SetO (.agg ZM) gH [] := ⟨_, _, [], [], rfl, rfl, Sl.nil _ _, Sl.nil _ _⟩
theorem rsetOr_any (A B A' B' : Option Addr) (c d c' d' : Nat) (a b : St) (W : World) (hs : SetIn W W.heap.size A B a) (ht : SetIn W W.heap.size A' B' b) : Calls Tryz.prog 35 #[.agg #[.slice A a.rel.length c, .slice B a.pre.length d], .agg #[.slice A' b.rel.length c', .slice B' b.pre.length d']] W fun e w' => ∃ v' ob', e = .returned v' ∧ SetO v' (if a.may && b.may then orT a b else gH) ob' ∧ Own [] W w' ob' := by
  refine Z2 (n := 25) Tryz.func35 rfl (ZO (Zb (.agg #[.slice A a.rel.length c, .slice B a.pre.length d]) (fun b1 => Zb (.agg #[.slice A' b.rel.length c', .slice B' b.pre.length d']) (fun b2 => Za (.agg ZM) (fun b3 => ZN (z7 (ZO (Zl 2 ⟨b1, #[.slice A a.rel.length c, .slice B a.pre.length d], 31⟩ (off := 0) (.agg #[.slice A a.rel.length c, .slice B a.pre.length d]) ?_))))))))
  refine Zc (k := 29) (args := #[.agg #[.slice A a.rel.length c, .slice B a.pre.length d]]) (.bool a.may) (fun w hO => mJ A B c d a w (hs.on hO.below hO.size)) ?_
  cases h1 : a.may with
  | true =>
    refine Zv Z5 (Zv Z5 (Zl 1 ⟨b2, #[.slice A' b.rel.length c', .slice B' b.pre.length d'], 31⟩ (off := 0) (.agg #[.slice A' b.rel.length c', .slice B' b.pre.length d']) (Zc (k := 29) (args := #[.agg #[.slice A' b.rel.length c', .slice B' b.pre.length d']]) (.bool b.may) (fun w hO => mJ A' B' c' d' b w (ht.on hO.below hO.size)) ?_)))
    cases h2 : b.may with
    | true =>
      refine Zv Z5 (Zv Z5 (ZX (ZB (z7 (xO [⟨b2, #[.slice A' b.rel.length c', .slice B' b.pre.length d'], 31⟩, ⟨b1, #[.slice A a.rel.length c, .slice B a.pre.length d], 31⟩] (by kernel_rfl) (fun w hO => Own.sub [⟨b3, ZM, 31⟩] hO) (ZT 0 [⟨b3, ZM, 31⟩] _ (Zp b1 0) (zG zI) rfl (ZL 1 [⟨b3, ZM, 31⟩] _ 1 ⟨b1, #[.slice A a.rel.length c, .slice B a.pre.length d], 31⟩ (off := 0) (.slice A a.rel.length c) (zG zI) rfl rfl (ZT 2 [⟨b3, ZM, 31⟩] _ (Zp b2 0) (zG zI) rfl ?_))))))))
      refine ZL 3 [⟨b3, ZM, 31⟩] _ 0 ⟨b2, #[.slice A' b.rel.length c', .slice B' b.pre.length d'], 31⟩ (off := 0) (.slice A' b.rel.length c') (zG zI) rfl rfl (ZT 5 [⟨b3, ZM, 31⟩] _ (Zp b1 1) (zG zI) rfl (ZL 6 [⟨b3, ZM, 31⟩] _ 1 ⟨b1, #[.slice A a.rel.length c, .slice B a.pre.length d], 31⟩ (off := 1) (.slice B a.pre.length d) (zG zI) rfl rfl (ZT 7 [⟨b3, ZM, 31⟩] _ (Zp b2 1) (zG zI) rfl (ZL 8 [⟨b3, ZM, 31⟩] _ 0 ⟨b2, #[.slice A' b.rel.length c', .slice B' b.pre.length d'], 31⟩ (off := 1) (.slice B' b.pre.length d') (zG zI) rfl rfl (Zz 4 (g6 _ (k := 58) (args := #[.slice A a.rel.length c, .slice A' b.rel.length c']) (fun v' L' => ∃ ob', L' = ob' ++ ([⟨b3, ZM, 31⟩] ++ ([⟨b2, #[.slice A' b.rel.length c', .slice B' b.pre.length d'], 31⟩, ⟨b1, #[.slice A a.rel.length c, .slice B a.pre.length d], 31⟩])) ∧ SlS v' (orL a.rel b.rel) ob') rfl (by kernel_rfl) (fun _ => by kernel_rfl) (fun w hO => (ror_any A A' c c' a.rel b.rel w (hs.rel.on hO.below hO.size) (ht.rel.on hO.below hO.size) hs.lr ht.lr hs.sr ht.sr).mono fun e w' ⟨v', ob', k1, k2, k3⟩ => ⟨v', _, k1, ⟨ob', rfl, by rw [if_pos (by rw [(St.facts h1).1, (St.facts h2).1]; rfl)] at k2; exact k2⟩, Own.joinN hO k3⟩) (fun v' L' ⟨ob', e, _⟩ w hO => by subst e; exact Own.sub [⟨b3, ZM, 31⟩] (Own.sub ob' hO)) (fun v1 L2 hv2 => ?_)))))))
      obtain ⟨o1, rfl, hr1⟩ := hv2
      obtain ⟨V1, c1, rfl⟩ := hr1.form
      refine vD (L' := (o1 ++ ([⟨b3, ZM, 31⟩] : List Blk)) ++ ([⟨b2, #[.slice A' b.rel.length c', .slice B' b.pre.length d'], 31⟩, ⟨b1, #[.slice A a.rel.length c, .slice B a.pre.length d], 31⟩])) (List.append_assoc _ _ _).symm (Zz 9 (g6 _ (k := 58) (args := #[.slice B a.pre.length d, .slice B' b.pre.length d']) (fun v' L' => ∃ ob', L' = ob' ++ ((o1 ++ ([⟨b3, ZM, 31⟩] : List Blk)) ++ ([⟨b2, #[.slice A' b.rel.length c', .slice B' b.pre.length d'], 31⟩, ⟨b1, #[.slice A a.rel.length c, .slice B a.pre.length d], 31⟩])) ∧ SlS v' (orL a.pre b.pre) ob') rfl (by kernel_rfl) (fun _ => by kernel_rfl) (fun w hO => (ror_any B B' d d' a.pre b.pre w (hs.pre.on hO.below hO.size) (ht.pre.on hO.below hO.size) hs.lp ht.lp hs.sp ht.sp).mono fun e w' ⟨v', ob', k1, k2, k3⟩ => ⟨v', _, k1, ⟨ob', rfl, by rw [if_pos (by rw [(St.facts h1).2.1, (St.facts h2).2.1]; rfl)] at k2; exact k2⟩, Own.joinN hO k3⟩) (fun v' L' ⟨ob', e, _⟩ w hO => by subst e; exact Own.sub (o1 ++ ([⟨b3, ZM, 31⟩] : List Blk)) (Own.sub ob' hO)) (fun v2 L2 hv2 => ?_)))
      obtain ⟨o2, rfl, hr2⟩ := hv2
      obtain ⟨V2, c2, rfl⟩ := hr2.form
      exact vD (L' := (o2 ++ (o1 ++ ([⟨b3, ZM, 31⟩] : List Blk))) ++ ([⟨b2, #[.slice A' b.rel.length c', .slice B' b.pre.length d'], 31⟩, ⟨b1, #[.slice A a.rel.length c, .slice B a.pre.length d], 31⟩])) (List.append_assoc _ _ _).symm (ZT 10 (o2 ++ (o1 ++ ([⟨b3, ZM, 31⟩] : List Blk))) _ (.agg #[.slice V1 ((orL a.rel b.rel).length) c1, .slice V2 ((orL a.pre b.pre).length) c2]) (zG zI) rfl (Zz 11 (mQ (E' := (⟨b3, ZM, 31⟩ :: (o2 ++ (o1 ++ ([] : List Blk))))) (by simpa [List.append_assoc] using (List.perm_middle (a := ⟨b3, ZM, 31⟩) (l₁ := (o2 ++ (o1 ++ ([] : List Blk)))) (l₂ := []))) (ZS (⟨b3, ZM, 31⟩ :: (o2 ++ (o1 ++ ([] : List Blk)))) _ 0 ⟨b3, ZM, 31⟩ (off := 0) (.agg #[.slice V1 ((orL a.rel b.rel).length) c1, .slice V2 ((orL a.pre b.pre).length) c2]) rfl rfl (ZZ (z8 (zB (ZC 0 ⟨b3, #[.slice V1 ((orL a.rel b.rel).length) c1, .slice V2 ((orL a.pre b.pre).length) c2], 31⟩ (off := 0) (.agg #[.slice V1 ((orL a.rel b.rel).length) c1, .slice V2 ((orL a.pre b.pre).length) c2]) Tryz.results35 (fun w hO => ⟨_, _, rfl, by rw [if_pos (by simp [h1, h2])]; exact ⟨_, _, o1, o2, rfl, rfl, hr1, hr2⟩, own_mid hO⟩)))))))))
    | false =>
      refine Zv Z4 (Zv Z4 (ZY (ZO (Zc (k := 34) (args := #[]) (.agg ZM) (fun w _ => bD w) (Zs 0 ⟨b3, ZM, 31⟩ (off := 0) (.agg ZM) (ZN (zB ?_)))))))
      exact z6 (ZC 0 ⟨b3, ZM, 31⟩ (off := 0) (.agg ZM) Tryz.results35 (fun w hO => ⟨_, [], rfl, by rw [if_neg (by simp [h1, h2])]; exact SetO.none, kF hO⟩))
  | false =>
    refine Zv Z4 (Zv Z4 (Zk (Zk (Zk (Zv Z4 (ZY (ZO (Zc (k := 34) (args := #[]) (.agg ZM) (fun w _ => bD w) ?_))))))))
    exact Zs 0 ⟨b3, ZM, 31⟩ (off := 0) (.agg ZM) (ZN (zB (z6 (ZC 0 ⟨b3, ZM, 31⟩ (off := 0) (.agg ZM) Tryz.results35 (fun w hO => ⟨_, [], rfl, by rw [if_neg (by simp [h1])]; exact SetO.none, kF hO⟩)))))
end
section
abbrev ZQ (x : Co) : Array Value := #[.int .i64 x.op, .int .i64 x.parts, .int .i64 x.v.maj, .int .i64 x.v.min, .int .i64 x.v.pat, .string (mkS x.v.pre), .string (mkS x.v.build)]
def coV (c : Co) : Value := .agg #[.int .i64 c.op, .int .i64 c.parts, .int .i64 c.v.maj, .int .i64 c.v.min, .int .i64 c.v.pat, .string (mkS c.v.pre), .string (mkS c.v.build)]
def Co.short (c : Co) : Prop := c.v.short
def toldV (p : Int) (v : Ver) : Ver := ⟨if p < 1 then 0 else v.maj, if p < 2 then 0 else v.min, if p < 3 then 0 else v.pat, if p < 3 then [] else v.pre, []⟩
def genCo (l : List Int) (i : Nat) : Co :=
  ⟨1 + plc (atL l (i + 5)) 9, if 1 + plc (atL l (i + 5)) 9 = 9 then plc (atL l (i + 6)) 3 else 1 + plc (atL l (i + 6)) 3, toldV (if 1 + plc (atL l (i + 5)) 9 = 9 then plc (atL l (i + 6)) 3 else 1 + plc (atL l (i + 6)) 3) (genV l i)⟩
end
section
theorem co_dec (u v : Co) : decide (u = v) = (decide (u.op = v.op) && (decide (u.parts = v.parts) && decide (u.v = v.v))) := by
  obtain ⟨a, b, c⟩ := u
  obtain ⟨a', b', c'⟩ := v
  simp only [Co.mk.injEq, Bool.decide_and]
theorem eq_co (u v : Co) (d : Nat) (w : World) : (Op.equalIn (d + 1 + 1 + 1) 51 (coV u) (coV v)).run Tryz.prog w = .ok (decide (u = v)) w := by
  have h := eq_agg (P := Tryz.prog) (d := d + 1 + 1) (t := 51) (xs := (coV u).cells) (ys := (coV v).cells) (bs := [u.op == v.op, u.parts == v.parts, decide (u.v = v.v)]) Tryz.underlying51 (by kernel_rfl)
    ⟨by decide, ⟨.int .i64 u.op, .int .i64 v.op, fun w => ⟨by kernel_rfl, by kernel_rfl, run_equalIn_int w (d + 1) _ _ _ _ _ Tryz.underlying3⟩⟩,
     by decide, ⟨.int .i64 u.parts, .int .i64 v.parts, fun w => ⟨by kernel_rfl, by kernel_rfl, run_equalIn_int w (d + 1) _ _ _ _ _ Tryz.underlying3⟩⟩,
     by decide, ⟨y8 u.v, y8 v.v, fun w => ⟨by kernel_rfl, by kernel_rfl, eq_ver u.v v.v d w⟩⟩, trivial⟩ w
  rw [all3, nN, nN, ← co_dec] at h
  exact h
theorem guard_co : Tryz.prog.eqGuardType Tryz.prog.depth 51 = false := by kernel_rfl
end
section
theorem rjoin_any (v : Value) (l : List (List UInt8)) (b : UInt8) (w : World) (hv : ReadsT w w.heap.size v l) (hl : (yG b l).length ≤ 1000000000) (hn : l.length ≤ 1000000000) :
    Calls Tryz.prog 127 #[v, .int .u8 b.toNat] w fun e w' => e = .returned (.string (mkS (yG b l))) ∧ Below w.heap.size w w' := by
  have hcv := fun (w : World) (x : Int) => conv1 w x
  obtain ⟨A, cap, rfl, hcell⟩ := hv
  go_enter Tryz.func127, Tryz.ntmps127
  go_wp2
  go_loopw [5, 6] (fun sv iv wr => ∃ (k : Nat), iv = .int .i64 k ∧ k ≤ l.length ∧ sv = .string (mkS (yG b (l.take k))) ∧ Below w.heap.size w wr) (fun _ iv _ => l.length - (intOf iv).toNat)
  case atStart => exact ⟨0, rfl, Nat.zero_le _, rfl, Below.refl _ _⟩
  case round =>
    obtain ⟨k, rfl, hk, rfl, hb⟩ := hrel
    have hsz := hb.size
    by_cases hp : k < l.length
    · obtain ⟨ad, rfl, hlt, hc⟩ := hcell (by omega)
      have hck : wr.cell? (ad.add k) = some (.string (mkS l[k])) := (hb.cell (by rw [mC]; exact hlt)).trans (hc k hp)
      have hln : (yG b (l.take (k + 1))).length ≤ 1000000000 := Nat.le_trans (pL b l (k + 1)) hl
      have HJ := Lib.hid (joinL_snoc b (l.take k) l[k])
      rw [← take_snocL l k hp] at HJ
      clear hc hcell
      by_cases h0 : k = 0
      · subst h0
        have hx1 : (mkS (yG b [])).size ≤ 0 := by rw [f5]; simp [yG]
        have hx2 : (mkS l[0]).size ≤ 1000000000 := by
          rw [f5]; rw [HJ.out, if_pos List.take_zero] at hln; exact hln
        have hck0 : wr.cell? ad = some (.string (mkS l[0])) := hck
        clear hck
        go_wp2
        go_roundw
        case rel => exact ⟨0 + 1, by go_num, by omega, by rw [HJ.out, if_pos List.take_zero, fU]; rfl, hb⟩
        case measure => simp [intOf]; omega
      · have h0p : 0 < k := by omega
        have hlen : (yG b (l.take k)).length + (l[k].length + 1) ≤ 1000000000 := by
          rw [HJ.out, if_neg (wW l k hp h0p), List.length_append, List.length_cons] at hln; exact hln
        have hx1 : (mkS (yG b (l.take k))).size + ((mkS l[k]).size + 1) ≤ 1000000000 := by rw [f5, f5]; exact hlen
        have hx2 : (one (b.toNat : Int)).size ≤ 1 := Nat.le_refl _
        have hx3 : (mkS (yG b (l.take k)) ++ one (b.toNat : Int)).size ≤ (mkS (yG b (l.take k))).size + 1 := by rw [ByteArray.size_append]; omega
        clear hlen
        have hck2 := fun o => (World.cell?_alloc_lt wr o (ad.add k) (by rw [mC]; omega)).trans hck
        clear hck
        go_wp2
        go_roundw
        case rel => exact ⟨k + 1, by go_num, by omega, by rw [HJ.out, if_neg (wW l k hp h0p), one_mk, fU, fU, List.append_assoc]; rfl, hb.alloc hsz _⟩
        case measure => simp [intOf]; omega
    · obtain rfl : k = l.length := by omega
      go_wp2
      go_ret
      exact ⟨tZ (by rw [List.take_length]), hb⟩
end
section
end
section
def SlT (v : Value) (l : List (List UInt8)) (ob : List Blk) : Prop := Sl 9 1 v l.length (qN l) ob
theorem SlT.form {v : Value} {l : List (List UInt8)} {ob : List Blk} (h : SlT v l ob) : ∃ A cap, v = .slice A l.length cap := by
  rcases h.2 with ⟨h1, h2, _⟩ | ⟨g, cap, cur, h1, _⟩
  · exact ⟨none, 0, by rw [h1, h2]⟩
  · exact ⟨_, _, h1⟩
theorem Own.row {w w' : World} {T sz n : Nat} {v : Value} {xs : List Value} (h : w'.ownsRow w.heap.size T sz v n xs) (hb : Below w.heap.size w w') : ∃ ob, Sl T sz v n xs ob ∧ Own [] w w' ob := by
  rcases h.2 with ⟨h1, h2⟩ | ⟨g, cap, cur, h1, h2, h3, h4, h5, h6, h7⟩
  · exact ⟨[], ⟨h.1, .inl ⟨h1, h2, rfl⟩⟩, ⟨hb.os, hb.tape, hb.output, hb.size, hb.drawn, fun k hk _ => hb.block k hk, by simp, by simp, by simp⟩⟩
  · refine ⟨[⟨g, cur, T⟩], ⟨h.1, .inr ⟨g, cap, cur, h1, rfl, h4, h5, h6, h7⟩⟩, ⟨hb.os, hb.tape, hb.output, hb.size, hb.drawn, fun k hk _ => hb.block k hk, ?_, ?_, by simp⟩⟩
    · intro x hx
      rw [List.mem_singleton.1 hx]; exact h3
    · intro x hx
      rw [List.mem_singleton.1 hx]; exact .inl h2
theorem rsplit_own (s : List UInt8) (W : World) (hs : s.length ≤ 1000000) :
    Calls Tryz.prog 41 #[.string (mkS s), .int .u8 46] W fun e w' => ∃ v' ob', e = .returned v' ∧ SlT v' (pcs s) ob' ∧ Own [] W w' ob' :=
  (nD s W hs).mono fun e w' ⟨v, h1, h2, h3⟩ => by
    obtain ⟨ob, k1, k2⟩ := Own.row h2 h3
    exact ⟨v, ob, h1, k1, k2⟩
def wX (x : List UInt8) : List Value := [.string (mkS x)]
theorem vS (x : List UInt8) : (wX x).length = 1 := rfl
theorem bB : ∀ (l : List (List UInt8)), qN l = l.flatMap wX
  | [] => rfl
  | x :: l => by
    show Value.string (mkS x) :: qN l = [Value.string (mkS x)] ++ l.flatMap wX
    rw [bB l]; rfl
theorem SlT.reads {A : Option Addr} {n cap : Nat} {l : List (List UInt8)} {ob L : List Blk} {M : List Nat} {W w : World} (h : SlT (.slice A n cap) l ob) (hn : l.length = n) (hO : Own M W w L) (hs : ∀ x ∈ ob, x ∈ L) : Reads wX w w.heap.size A l := by
  subst hn
  unfold SlT at h
  rw [bB] at h
  exact Sl.reads h rfl hO hs
theorem SlT.readsT {v : Value} {l : List (List UInt8)} {ob L : List Blk} {M : List Nat} {W w : World} (h : SlT v l ob) (hO : Own M W w L) (hs : ∀ x ∈ ob, x ∈ L) : ReadsT w w.heap.size v l := by
  obtain ⟨A, cap, rfl⟩ := h.form
  refine ⟨A, cap, rfl, fun h0 => ?_⟩
  obtain ⟨b, off, e, hlt, hc⟩ := SlT.reads h rfl hO hs h0
  refine ⟨⟨b, off, none⟩, e, hlt, fun j hj => ?_⟩
  rw [yW]
  refine hc j _ ?_
  rw [← bB]
  unfold qN
  rw [List.getElem?_map, List.getElem?_eq_getElem hj]; rfl
theorem slt_lit (l : List (List UInt8)) (b : Nat) (cur : Array Value) (h : cur.toList = qN l) (hm : l.length ≤ maxLen) : SlT (.slice (some ⟨b, 0, none⟩) l.length l.length) l [⟨b, cur, 9⟩] := by
  have hc : cur.toList.length = l.length := by rw [h, jP]
  refine ⟨by rw [jP]; omega, .inr ⟨b, l.length, cur, rfl, rfl, Nat.le_refl _, hm, by rw [← Array.length_toList, hc]; omega, ?_⟩⟩
  rw [h]
  exact List.take_of_length_le (by rw [jP]; omega)
theorem str_cells (l : List (List UInt8)) : ∀ u ∈ qN l, u.oneCell' = true := fun u hu => by
  unfold qN at hu
  obtain ⟨x, _, rfl⟩ := List.mem_map.1 hu; rfl
end
section
theorem mk_take (s : List UInt8) (j : Nat) : (mkS s).extract 0 j = mkS (s.take j) := by rw [bM, mk_data]; simp
theorem mk_drop (s : List UInt8) (j : Nat) : (mkS s).extract j (mkS s).size = mkS (s.drop j) := by
  rw [bM, mk_data, yY]
  congr 1
  exact List.take_of_length_le (by rw [List.length_drop]; omega)
theorem nC {P : Program} {ρ : Operand → Value} {o : Oper} {t : TypeId} {x z : Operand} {s : List UInt8} {k : IntKind} {j : Int} (ho : o.op = .slice t x none (some z) none) (hx : ρ x = .string (mkS s)) (hz : ρ z = .int k j)
    (hu : P.underlying t = some .string) (h0 : 0 ≤ j) (h1 : j ≤ s.length) (w : World) : (execOp ρ o).run P w = .ok (.value (.string (mkS (s.take j.toNat)))) w := by
  unfold execOp
  have h2 : j ≤ ((mkS s).size : Int) := by rw [yY]; exact h1
  simp [ho, hx, hz, Instr.sliceAt, Instr.slice, Instr.sliceBounds, Instr.sliceBound, Sem.run_bind, asIntOf, run_underlying hu, h0, h2, mk_take]
theorem qQ {P : Program} {ρ : Operand → Value} {o : Oper} {t : TypeId} {x y : Operand} {s : List UInt8} {k : IntKind} {j : Int} (ho : o.op = .slice t x (some y) none none) (hx : ρ x = .string (mkS s)) (hy : ρ y = .int k j)
    (hu : P.underlying t = some .string) (h0 : 0 ≤ j) (h1 : j ≤ s.length) (w : World) : (execOp ρ o).run P w = .ok (.value (.string (mkS (s.drop j.toNat)))) w := by
  unfold execOp
  have h2 : j ≤ ((mkS s).size : Int) := by rw [yY]; exact h1
  simp [ho, hx, hy, Instr.sliceAt, Instr.slice, Instr.sliceBounds, Instr.sliceBound, Sem.run_bind, asIntOf, run_underlying hu, h0, h2, mk_drop]
theorem mk_get (s : List UInt8) (k : Nat) (h : k < s.length) : (mkS s)[k]? = some s[k] := by
  have h2 : k < (mkS s).size := by rw [yY]; exact h
  rw [getElem?_pos (mkS s) k h2]
  congr 1
theorem jN {P : Program} {ρ : Operand → Value} {o : Oper} {t : TypeId} {x y : Operand} {s : List UInt8} {k : IntKind} {j : Int} (ho : o.op = .index t x y) (hx : ρ x = .string (mkS s)) (hy : ρ y = .int k j)
    (hu : P.underlying t = some .string) (h0 : 0 ≤ j) (h1 : j.toNat < s.length) (w : World) : (execOp ρ o).run P w = .ok (.value (.int .u8 (s[j.toNat].toNat : Int))) w := by
  unfold execOp
  have e := mk_get s j.toNat h1
  simp [ho, hx, hy, Instr.index, Sem.run_bind, asIntOf, run_underlying hu, h0, e]
theorem run_slhm {P : Program} {ρ : Operand → Value} {o : Oper} {t e : TypeId} {x z y : Operand} {b n c sz : Nat} {k q : IntKind} {j m : Int} (ho : o.op = .slice t x none (some z) (some y)) (hx : ρ x = .slice (some ⟨b, 0, none⟩) n c) (hz : ρ z = .int k j) (hy : ρ y = .int q m)
    (hu : P.underlying t = some (.slice e)) (hs : (P.info? e).map (·.size) = some sz) (h0 : 0 ≤ j) (h1 : j ≤ m) (h2 : m ≤ c) (w : World) : (execOp ρ o).run P w = .ok (.value (.slice (some ⟨b, 0, none⟩) j.toNat m.toNat)) w := by
  cases he : P.info? e with
  | none => rw [he] at hs; cases hs
  | some i =>
    rw [he] at hs
    obtain rfl := Option.some.inj hs
    have h3 : 0 ≤ m := Int.le_trans h0 h1
    unfold execOp
    simp [ho, hx, hz, hy, Instr.sliceAt, Instr.slice, Instr.sliceBounds, Instr.sliceBound, Sem.run_bind, asIntOf, run_underlying hu, h0, h1, h2, h3, sizeOf, typeInfo, he, yW]
    try (first | omega | (rw [if_pos (by omega)]; simp [yW]))
theorem yZ {P : Program} {ρ : Operand → Value} {o : Oper} {t t' : TypeId} {x y : Operand} {a b : List UInt8} (ho : o.op = .binOp .add t x y t') (hx : ρ x = .string (mkS a)) (hy : ρ y = .string (mkS b)) (hb : a.length + b.length ≤ 4000000000) (w : World) : (execOp ρ o).run P w = .ok (.value (.string (mkS (a ++ b)))) w := by
  unfold execOp
  have h1 : ¬ (9223372036854775807 : Int) < ((mkS a).size : Int) + ((mkS b).size : Int) := by rw [yY, yY]; omega
  simp [ho, hx, hy, Sem.run_bind, eqGuard, binOp, Op.stringOp, fU, h1]
theorem run_min2 {P : Program} {ρ : Operand → Value} {o : Oper} {t t' : TypeId} {x y : Operand} {k q : IntKind} {i j : Int} (ho : o.op = .call { callee := .builtin .min, args := #[x, y], argTypes := #[t, t'] }) (hx : ρ x = .int k i) (hy : ρ y = .int q j) (w : World) : (execOp ρ o).run P w = .ok (.value (.int k (min i j))) w := by
  unfold execOp
  have e : min i j = if j < i then j else i := by split <;> omega
  simp [ho, resolve, invoke, builtin, Builtin.min_, Builtin.min2, hx, hy, e]
section
variable {M : List Nat} {P : Program} {n0 : Nat} {ops : Array Oper} {W : World} {Q : Exit → Act → World → Prop} {rest : List Oper} {o : Oper} {L : List Blk} {f : Nat → Value}
theorem s_appendF {t T : TypeId} {s x : Operand} {i : TypeInfo} {z : Value} {sz : Nat} (hw : xS ops n0 f o = true) (ho : o.op = .call { callee := .builtin .append, args := #[s, x], argTypes := #[t, t] })
    (ht : P.underlying t = some (.slice T)) (hi : P.info? T = some i) (hz : i.zero = some z) (hsz : i.size = sz) (hzs : z.cells.size = sz)
    {b : Addr} {n cap : Nat} {xs : List Value} (hs : ev n0 f s = .slice (some b) n cap) (hxl : xs.length = n * sz) (hxs : ∀ w, Own M W w L → ∀ j u, xs[j]? = some u → w.cell? (b.add j) = some u)
    {a : Addr} {m c : Nat} {news : List Value} (hx : ev n0 f x = .slice (some a) m c) (hl : news.length = m * sz) (hnews : ∀ w, Own M W w L → ∀ j u, news[j]? = some u → w.cell? (a.add j) = some u)
    (hroom : cap < n + m) (h63 : n + m ≤ maxLen) (hbytes : (n + m) * i.bytes ≤ 140737488355328)
    (h : ∀ v' ob', Sl T sz v' (n + m) (xs ++ news) ob' → Seg M P n0 ops W Q rest (ob' ++ L) (upd f o.dst v')) : Seg M P n0 ops W Q (o :: rest) L f :=
  jM hw fun w hO => by
    subst hsz
    have hsmall : n + m ≤ 9223372036854775807 := by simp only [maxLen] at h63; omega
    have hlen : (xs ++ news).length = (n + m) * i.size := by rw [List.length_append, hxl, hl, Nat.add_mul]
    have hr := run_append_grow (P := P) w t o.type T i z ht hi hz b n cap xs hxl (hxs w hO) a m c news hl (hnews w hO) (by omega) (by omega) (growslice_fits (by omega) hbytes)
    have hge := grownCap_ge w (n + m) cap T
    have hcm := grownCap_le_maxLen w (n + m) cap T h63
    refine vR _ (w' := _) ?_ ((h _ [⟨w.heap.size, xs.toArray ++ news.toArray ++ Builtin.zeroCells z.cells (grownCap w (n + m) cap T - (n + m)), T⟩] ⟨hlen, .inr ⟨w.heap.size, grownCap w (n + m) cap T, _, rfl, rfl, hge, hcm, ?_, ?_⟩⟩).go _ ((drew_own hO).alloc (xs.toArray ++ news.toArray ++ Builtin.zeroCells z.cells (grownCap w (n + m) cap T - (n + m))) T))
    · unfold execOp
      simp only [ho, resolve, invoke, builtin, Sem.run_bind, Sem.run_pure, Result.andThen_ok, List.map_toArray, List.map_cons, List.map_nil, hs, hx, hr]
    · simp only [Array.size_append, List.size_toArray, size_zeroCells, hzs, hxl, hl, ← Nat.add_mul]
      congr 1
      omega
    · simp only [Array.toList_append, List.append_assoc]
      rw [← List.append_assoc, ← hlen]
      exact List.take_left
end
section
variable {M : List Nat} {P : Program} {n : Nat} {ops : Array Oper} {W : World} {L0 : List Blk} {Q : Exit → Act → World → Prop} {fuel : Nat} {listed : Array Bool} {f : Nat → Value}
end
end
end Go.Proofs.YtkljdpiaghepfaaGreatDoor
